import PyProof.Rows.All
import Wide.All
import OpenK.AllK
import Wide.FinOn
import Lean
import PyProof.EqAt
import PyProof.EqKinds
import PyProof.TupleCall
import PyProof.NeKinds
import PyProof.Rows.Range3
import KE.KDictOf
import KE.KMinBuiltin
import PyProof.Rows.CallKwBuiltin
import KE.KRevIter
import KE.KDictList
import PyProof.DictWalks
import KE.KSortTup
import KE.KDictSum
import KE.KItemsList
import PyProof.StrLaws
import PyProof.StrCalls
import PyProof.StrBlockH
import KE.KIntText
import KE.IntTextLaws
import PyProof.StrOps2
import PyProof.SliceStr2
import PyProof.StrBlockI
import PyProof.Rows.StrNews2
import PyProof.Rows.RegReprOcc
import PyProof.StrLawsFirst
import PyProof.StrLawsFrom
import PySem.Challenge.RW_toll_k04_functions
set_option Elab.async false
set_option linter.all false
set_option maxRecDepth 100000
set_option maxHeartbeats 8000000
set_option exponentiation.threshold 5000
set_option compiler.extract_closed false
set_option bootstrap.genMatcherCode false
namespace L2
open PySem PySem.Spec PyProof.Rows
noncomputable abbrev Key := Sum Int Str
noncomputable def keyIs : Key -> Value -> Bool
  | .inl k, v => Value.isInt k v
  | .inr x, v => Value.isStrOf x v
noncomputable def keyH (w : World) : Key -> Int
  | .inl k => hashInt k
  | .inr x => hashStr w x
theorem keyIs_shape : ∀ {k : Key} {v : Value}, keyIs k v = true -> (∃ i t, k = Sum.inl i /\ v = Value.int i t) \/ (∃ x t, k = Sum.inr x /\ v = Value.str x t)
  | .inl i, v, h => by
    obtain ⟨t, e⟩ := Value.isInt_shape (k := i) (v := v) h
    exact .inl ⟨i, t, rfl, e⟩
  | .inr x, v, h => by
    obtain ⟨t, e⟩ := Value.isStrOf_shape (x := x) (v := v) h
    exact .inr ⟨x, t, rfl, e⟩
theorem keyIs_int (i : Int) (t : Tok) : keyIs (.inl i) (.int i t) = true := by simp [keyIs, Value.isInt]
theorem keyIs_str (x : Str) (t : Tok) : keyIs (.inr x) (.str x t) = true := by simp [keyIs, Value.isStrOf]
theorem key_ll (a b : Int) : decide ((Sum.inl a : Key) = Sum.inl b) = (a == b) := by
  by_cases e : a = b
  · subst e; simp
  · have h : ¬ (Sum.inl a : Key) = Sum.inl b := fun q => e (Sum.inl.inj q)
    rw [decide_eq_false h]
    exact (beq_eq_false_iff_ne.mpr e).symm
theorem key_rr (a b : Str) : decide ((Sum.inr a : Key) = Sum.inr b) = decide (a = b) := by
  by_cases e : a = b
  · subst e; simp
  · have h : ¬ (Sum.inr a : Key) = Sum.inr b := fun q => e (Sum.inr.inj q)
    rw [decide_eq_false h, decide_eq_false e]
theorem key_lr (a : Int) (b : Str) : decide ((Sum.inl a : Key) = Sum.inr b) = false := decide_eq_false (fun q => nomatch q)
theorem key_rl (a : Str) (b : Int) : decide ((Sum.inr a : Key) = Sum.inl b) = false := decide_eq_false (fun q => nomatch q)
noncomputable def mixKind (prog : Program) (w : World) : PySem.KeyKind prog w Key where
  is := keyIs
  hash := keyH w
  inj := fun v a b ha hb => by
    rcases keyIs_shape ha with ⟨i, t, rfl, rfl⟩ | ⟨x, t, rfl, rfl⟩
    · rcases keyIs_shape hb with ⟨j, u, rfl, e⟩ | ⟨y, u, rfl, e⟩
      · injection e with e1 _; rw [e1]
      · exact nomatch e
    · rcases keyIs_shape hb with ⟨j, u, rfl, e⟩ | ⟨y, u, rfl, e⟩
      · exact nomatch e
      · injection e with e1 _; rw [e1]
  byValue := fun k v h => by
    rcases keyIs_shape h with ⟨i, t, rfl, rfl⟩ | ⟨x, t, rfl, rfl⟩ <;> rfl
  pyHash := fun hv h => by
    rcases keyIs_shape hv with ⟨i, t, rfl, rfl⟩ | ⟨x, t, rfl, rfl⟩
    · exact wpAny_pyHash_int h
    · exact wpAny_pyHash_str h
  eqBool := fun hu hv h => by
    rcases keyIs_shape hu with ⟨i, t, rfl, rfl⟩ | ⟨x, t, rfl, rfl⟩
    · rcases keyIs_shape hv with ⟨j, u, rfl, rfl⟩ | ⟨y, u, rfl, rfl⟩
      · rw [key_ll] at h; exact wpAny_eqBool_int h
      · rw [key_lr] at h; exact SeqAt.EqAt.int_str i t y u _ _ _ _ h
    · rcases keyIs_shape hv with ⟨j, u, rfl, rfl⟩ | ⟨y, u, rfl, rfl⟩
      · rw [key_rl] at h; exact SeqAt.EqAt.str_int x t j u _ _ _ _ h
      · rw [key_rr] at h; exact wpAny_eqBool_str h
  «strs» := fun k x t v h => by
    rcases keyIs_shape h with ⟨i, u, rfl, e⟩ | ⟨y, u, rfl, e⟩
    · exact nomatch e
    · injection e with e1 _
      subst e1
      cases v <;> rfl
theorem mixKind_int (prog : Program) (w : World) (i : Int) (t : Tok) : (mixKind prog w).is (.inl i) (.int i t) = true := keyIs_int i t
theorem mixKind_str (prog : Program) (w : World) (x : Str) (t : Tok) : (mixKind prog w).is (.inr x) (.str x t) = true := keyIs_str x t
end L2
namespace L2
open PySem PySem.Spec PyProof.Rows
inductive V where
  | non | bl (b : Bool) | int (i : Int) | str (x : Str) | byt (b : Array UInt8) | flt (b : UInt64) | ref (a : Addr) | ty (n : String)
  deriving DecidableEq
noncomputable def RelV : V -> Value -> Prop
  | .non, u => u = Value.none
  | .bl b, u => u = Value.bool b
  | .int i, u => ∃ t, u = Value.int i t
  | .str x, u => ∃ t, u = Value.str x t
  | .byt b, u => ∃ t, u = Value.bytes b t
  | .flt b, u => ∃ t, u = Value.float b t
  | .ref a, u => u = Value.ref a
  | .ty n, u => u = Value.type n
noncomputable abbrev Vals : List V -> List Value -> Prop := Paired RelV
theorem Vals.length {xs : List V} {us : List Value} (r : Vals xs us) : xs.length = us.length := Paired.length r
theorem Vals.get : ∀ {xs : List V} {us : List Value} {i : Nat} {x : V}, Vals xs us -> xs[i]? = some x -> ∃ u, us[i]? = some u /\ RelV x u
  | _, _, _, _, .nil, e => by simp at e
  | _, _, 0, _, .cons r _, e => by simp at e; subst e; exact ⟨_, rfl, r⟩
  | _, _, i + 1, x, .cons _ t, e => by
    obtain ⟨u, h1, h2⟩ := Vals.get (i := i) (x := x) t (by simpa using e)
    exact ⟨u, by simpa using h1, h2⟩
theorem Vals.set {x : V} {u : Value} (r : RelV x u) : ∀ {xs : List V} {us : List Value} (i : Nat), Vals xs us -> Vals (xs.set i x) (us.set i u)
  | _, _, _, .nil => .nil
  | _, _, 0, .cons _ t => .cons r t
  | _, _, i + 1, .cons q t => .cons q (Vals.set r i t)
theorem Vals.append : ∀ {xs ys : List V} {us ws : List Value}, Vals xs us -> Vals ys ws -> Vals (xs ++ ys) (us ++ ws)
  | _, _, _, _, .nil, s => s
  | _, _, _, _, .cons r t, s => .cons r (Vals.append t s)
theorem Vals.take : ∀ {xs : List V} {us : List Value} (n : Nat), Vals xs us -> Vals (xs.take n) (us.take n)
  | _, _, 0, _ => .nil
  | _, _, _ + 1, .nil => .nil
  | _, _, n + 1, .cons r t => .cons r (Vals.take n t)
theorem Vals.drop : ∀ {xs : List V} {us : List Value} (n : Nat), Vals xs us -> Vals (xs.drop n) (us.drop n)
  | _, _, 0, r => r
  | _, _, _ + 1, .nil => .nil
  | _, _, n + 1, .cons _ t => Vals.drop n t
noncomputable def RelO : Option V -> Option Value -> Prop
  | some v, some u => RelV v u
  | none, none => True
  | _, _ => False
noncomputable def KV {κ : Type} : List (κ × V) -> List (κ × Value) -> Prop := Paired fun (p : κ × V) (q : κ × Value) => p.1 = q.1 /\ RelV p.2 q.2
noncomputable def kV : Key -> V
  | .inl i => .int i
  | .inr x => .str x
inductive HO where
  /-- a list -/
  | lst (xs : List V)
  /-- a tuple (never changes) -/
  | tup (xs : List V)
  /-- a dict whose keys are ints and texts; one whose keys are tuples of ints and texts (the empty one is both) -/
  | dK (kvs : List (Key × V)) | dT (kvs : List (List Key × V))
  /-- a set of ints: its members, its size -/
  | set (S : Int -> Bool) (n : Nat)
  /-- an instance of the class at C, its dict at dx, its attributes -/
  | ins (C dx : Addr) (fs : List (Str × V))
  /-- the dict of the instance at x -/
  | own (x : Addr)
  /-- the dict of an exception -/
  | xd (fs : List (Str × V))
  /-- a bound method, f of x -/
  | met (f x : Addr)
  /-- a range object lo, lo + 1, .. below hi -/
  | rng (lo hi : Int)
  /-- a thing that is known to the object (the script; a dict while a loop walks it): read, never written while it is so -/
  | frz (o : Obj) (u : HO)
  /-- a code object's table -/
  | tbl (ps : Array Value)
  /-- any other thing, by what is true of its one object (a def of one's own: SetO a S n := HO.ext fun h => ..) -/
  | ext (φ : Heap -> Prop)
noncomputable abbrev Hp := Addr -> Option HO
noncomputable def upd (H : Hp) (a : Addr) (o : HO) : Hp := fun b => if b = a then some o else H b
theorem upd_same {H : Hp} {a : Addr} {o : HO} : upd H a o a = some o := by unfold upd; rw [if_pos rfl]
theorem upd_ne {H : Hp} {a b : Addr} {o : HO} (h : b ≠ a) : upd H a o b = H b := by unfold upd; rw [if_neg h]
theorem ne_of {H : Hp} {a b : Addr} {o u : HO} (h : H a = some o) (h' : H b = some u) (d : o ≠ u) : a ≠ b := by
  intro e; subst e; rw [h] at h'; exact d (Option.some.inj h')
theorem ne_of_none {H : Hp} {a b : Addr} {o : HO} (h : H a = some o) (h' : H b = none) : a ≠ b := by
  intro e; subst e; rw [h] at h'; cases h'
section
variable (P : Program) (w : World)
noncomputable def ObjOk (H : Hp) (h : Heap) (a : Addr) : HO -> Prop
  | .lst xs => xs.length <= sizeLine /\ ∃ (its : List Value) (n : Nat), Vals xs its /\ h.get? a = some { cls := .type "list", data := .seq its.toArray n }
  | .tup xs => xs.length <= sizeLine /\ ∃ its : List Value, Vals xs its /\ IsTup h a its.toArray /\ ∃ o, h.get? a = some o /\ o.dict = none
  | .dK kvs => kvs.length <= sizeLine /\ (a == sysModules) = false /\ ∃ vs, KV kvs vs /\ h.DictOf (mixKind P w) a vs
  | .dT kvs => kvs.length <= sizeLine /\ (a == sysModules) = false /\ ∃ xs : List (List Key × Addr × Value),
      Paired (fun (p : List Key × V) (q : List Key × Addr × Value) => p.1 = q.1 /\ H q.2.1 = some (.tup (p.1.map kV)) /\ RelV p.2 q.2.2) kvs xs /\
      ∃ o es ep, h.get? a = some o /\ o.ExactDict /\ o.data = .dict es ep /\ es.toList = xs.map (entryOfKey (tupleKind (mixKind P w))) /\ (xs.map (·.1)).Nodup
  | .set S n => h.SetOf (intKind P w) a S n
  | .ins C dx fs => H dx = some (.own a) /\ fs.length <= 1000 /\ dx ≠ a /\ h.get? a = some (PySem.W.instObj C dx) /\
      ∃ mA, h.Ns1 dx mA /\ (∀ f, RelO (fs.lookup f) (mA f)) /\ PySem.Within mA (fs.map (·.1))
  | .own _ => ∃ o, h.get? a = some o
  | .xd fs => ∃ mA, h.Ns1 a mA /\ ∀ f, RelO (fs.lookup f) (mA f)
  | .rng lo hi => ∃ t u v, h.get? a = some { cls := .type "range", data := .fields #[.int lo t, .int hi u, .int 1 v] }
  | .frz o u => h.get? a = some o /\ ObjOk H h a u
  | .tbl ps => h.get? a = some { cls := .none, data := .fields ps }
  | .met f x => h.get? a = some (PySem.W.methodObj (.ref f) (.ref x))
  | .ext φ => φ h /\ (∃ o, h.get? a = some o) /\ ∀ h1 h2 : Heap, φ h1 -> (∀ o, h1.get? a = some o -> h2.get? a = some o) -> φ h2
noncomputable def HOk (H : Hp) (h : Heap) : Prop := ∀ a o, H a = some o -> ObjOk P w H h a o
end
section
variable {P : Program} {w : World} {H H' : Hp} {h h' : Heap} {a : Addr} {o : HO}
theorem ObjOk.lt (x : ObjOk P w H h a o) : a < h.objs.size := by
  cases o with
  | lst xs => obtain ⟨_, _, _, _, e⟩ := x; exact Heap.lt_size e
  | tup xs => obtain ⟨_, _, _, p⟩ := x; exact p.1.lt
  | dK kvs => obtain ⟨_, _, _, _, o, _, _, e, _⟩ := x; exact Heap.lt_size e
  | dT kvs => obtain ⟨_, _, _, _, o, _, _, e, _⟩ := x; exact Heap.lt_size e
  | set S n => obtain ⟨o, _, _, _, e, _⟩ := x; exact Heap.lt_size e
  | ins C dx fs => obtain ⟨_, _, _, e, _⟩ := x; exact Heap.lt_size e
  | own y => obtain ⟨_, e⟩ := x; exact Heap.lt_size e
  | xd fs => obtain ⟨_, ⟨_, _, _, e, _⟩, _⟩ := x; exact Heap.lt_size e
  | rng lo hi => obtain ⟨_, _, _, e⟩ := x; exact Heap.lt_size e
  | frz ob u => obtain ⟨e, _⟩ := x; exact Heap.lt_size e
  | tbl ps => exact Heap.lt_size (show h.get? a = some _ from x)
  | met f y => exact Heap.lt_size (show h.get? a = some _ from x)
  | ext φ => obtain ⟨_, ⟨_, e⟩, _⟩ := x; exact Heap.lt_size e
theorem Paired.mapP {α β : Type} {F G : α -> β -> Prop} : ∀ {l₁ : List α} {l₂ : List β}, Paired F l₁ l₂ -> (∀ a b, F a b -> G a b) -> Paired G l₁ l₂
  | _, _, .nil, _ => .nil
  | _, _, .cons r t, f => .cons (f _ _ r) (Paired.mapP t f)
theorem ObjOk.stay (x : ObjOk P w H h a o) (k : ∀ b u, (b = a \/ H b = some (.own a)) -> h.get? b = some u -> h'.get? b = some u)
    (ho : ∀ b, H b = some (.own a) -> H' b = some (.own a)) (ht : ∀ b xs, H b = some (.tup xs) -> H' b = some (.tup xs)) : ObjOk P w H' h' a o := by
  induction o with
  | lst xs => obtain ⟨z, its, n, r, e⟩ := x; exact ⟨z, its, n, r, k _ _ (.inl rfl) e⟩
  | tup xs => obtain ⟨z, its, r, ⟨ob, e, c⟩, od, ed, cd⟩ := x; exact ⟨z, its, r, ⟨ob, k _ _ (.inl rfl) e, c⟩, od, k _ _ (.inl rfl) ed, cd⟩
  | dK kvs => obtain ⟨z, y, vs, r, ob, es, ep, e, c⟩ := x; exact ⟨z, y, vs, r, ob, es, ep, k _ _ (.inl rfl) e, c⟩
  | dT kvs =>
    obtain ⟨z, y, xs, r, ob, es, ep, e, c⟩ := x
    exact ⟨z, y, xs, Paired.mapP r fun p q z => ⟨z.1, ht _ _ z.2.1, z.2.2⟩, ob, es, ep, k _ _ (.inl rfl) e, c⟩
  | set S n => obtain ⟨ob, es, ep, t, e, c⟩ := x; exact ⟨ob, es, ep, t, k _ _ (.inl rfl) e, c⟩
  | ins C dx fs =>
    obtain ⟨d, z, ne, e, mA, ⟨od, es, ep, e2, c⟩, r⟩ := x
    exact ⟨ho _ d, z, ne, k _ _ (.inl rfl) e, mA, ⟨od, es, ep, k _ _ (.inr d) e2, c⟩, r⟩
  | own y => obtain ⟨ob, e⟩ := x; exact ⟨ob, k _ _ (.inl rfl) e⟩
  | xd fs => obtain ⟨mA, ⟨od, es, ep, e, c⟩, r⟩ := x; exact ⟨mA, ⟨od, es, ep, k _ _ (.inl rfl) e, c⟩, r⟩
  | rng lo hi => obtain ⟨t, u, v, e⟩ := x; exact ⟨t, u, v, k _ _ (.inl rfl) e⟩
  | frz ob u ih => obtain ⟨e, q⟩ := x; exact ⟨k _ _ (.inl rfl) e, ih q⟩
  | tbl ps =>
    have e : h.get? a = some { cls := .none, data := .fields ps } := x
    show h'.get? a = some { cls := .none, data := .fields ps }
    exact k a _ (.inl rfl) e
  | met f y =>
    have e : h.get? a = some (PySem.W.methodObj (.ref f) (.ref y)) := x
    show h'.get? a = some (PySem.W.methodObj (.ref f) (.ref y))
    exact k a _ (.inl rfl) e
  | ext φ => obtain ⟨p, ⟨o, e⟩, st⟩ := x; exact ⟨st _ _ p fun o q => k _ _ (.inl rfl) q, ⟨o, k _ _ (.inl rfl) e⟩, st⟩
theorem HOk.lt (x : HOk P w H h) (e : H a = some o) : a < h.objs.size := (x a o e).lt
theorem HOk.fresh (x : HOk P w H h) (e : h.objs.size <= a) : H a = none := by
  cases q : H a with
  | none => rfl
  | some u => exact absurd (Nat.lt_of_lt_of_le (x.lt q) e) (Nat.lt_irrefl _)
theorem HOk.kept (x : HOk P w H h) (k : ∀ b u, h.get? b = some u -> h'.get? b = some u) : HOk P w H h' := fun a o e =>
  (x a o e).stay (fun b u _ q => k b u q) (fun _ q => q) fun _ _ q => q
theorem HOk.laid (x : HOk P w H h) (k : ∀ b u, h.get? b = some u -> h'.get? b = some u) (hp : h.objs.size <= a) (new : ObjOk P w (upd H a o) h' a o) : HOk P w (upd H a o) h' := fun b u e => by
  have hn := x.fresh hp
  by_cases hb : b = a
  · subst hb; rw [upd_same] at e; cases e; exact new
  · rw [upd_ne hb] at e
    exact (x b u e).stay (fun c v _ q => k c v q) (fun c q => by rw [upd_ne (ne_of_none q hn)]; exact q) fun c xs q => by rw [upd_ne (ne_of_none q hn)]; exact q
end
noncomputable def Rd (H : Hp) (a : Addr) (u : HO) : Prop := H a = some u \/ ∃ o, H a = some (.frz o u)
theorem Rd.ok {P : Program} {w : World} {H : Hp} {h : Heap} {a : Addr} {u : HO} (r : Rd H a u) (x : HOk P w H h) : ObjOk P w H h a u := by
  rcases r with r | ⟨o, r⟩
  · exact x a u r
  · obtain ⟨_, q⟩ := x a _ r
    exact q
noncomputable def Mut : Option HO -> Prop
  | some (.lst _) => True
  | some (.dK _) => True
  | some (.dT _) => True
  | some (.set _ _) => True
  | some (.ins _ _ _) => True
  | some (.ext _) => True
  | _ => False
section
variable {P : Program} {w : World} {H : Hp} {h h' : Heap} {x e : Addr} {o' : HO}
theorem HOk.write (ok : HOk P w H h) (mu : Mut (H x)) (he : e = x \/ H e = some (.own x)) (k : ∀ b u, b ≠ e -> h.get? b = some u -> h'.get? b = some u) (heo : ∃ u, h'.get? e = some u)
    (new : ObjOk P w (upd H x o') h' x o') : HOk P w (upd H x o') h' := fun b u q => by
  have nown : ∀ c y, H c = some (.own y) -> c ≠ x := fun c y r z => by subst z; rw [r] at mu; exact mu
  have ntup : ∀ c xs, H c = some (.tup xs) -> c ≠ x := fun c xs r z => by subst z; rw [r] at mu; exact mu
  by_cases hb : b = x
  · subst hb; rw [upd_same] at q; cases q; exact new
  · rw [upd_ne hb] at q
    by_cases hbe : b = e
    · have q' : H b = some (.own x) := by
        rcases he with z | z
        · exact absurd (hbe.trans z) hb
        · rw [hbe]; exact z
      rw [q] at q'; cases q'
      obtain ⟨v, hv⟩ := heo
      exact ⟨v, by rw [hbe]; exact hv⟩
    · refine (ok b u q).stay (fun c v hc r => k c v ?_ r) (fun c r => by rw [upd_ne (nown c b r)]; exact r) fun c xs r => by rw [upd_ne (ntup c xs r)]; exact r
      rcases hc with rfl | hc
      · exact hbe
      · rintro rfl
        rcases he with z | z
        · exact nown c b hc z
        · rw [hc] at z; cases z; exact hb rfl
end
structure Un (fs ex : List Addr) (H H' : Hp) (h h' : Heap) : Prop where
  keep : ∀ b o, h.get? b = some o -> H b = none -> b ∉ fs -> b ∉ ex -> h'.get? b = some o
  slot : ∀ b o, h.get? b = some o -> H b = none -> b ∈ fs -> b ∉ ex -> ∃ sl, h'.get? b = some { o with slots := sl }
  free : ∀ b o, h.get? b = some o -> H b = none -> b ∉ ex -> H' b = none
  there : ∀ b o, h.get? b = some o -> b ∉ ex -> ∃ o', h'.get? b = some o'
  tups : ∀ b xs, H b = some (.tup xs) -> H' b = some (.tup xs)
  frzs : ∀ b o u, H b = some (.frz o u) -> H' b = some (.frz o u)
  tbls : ∀ b ps, H b = some (.tbl ps) -> ∃ more, H' b = some (.tbl (ps ++ more))
section
variable {fs fs' ex ex' : List Addr} {H H1 H2 : Hp} {h h1 h2 h' : Heap} {a x e : Addr} {o : HO}
theorem Un.any (u : Un fs ex H H1 h h1) {b : Addr} {ob : Obj} (q : h.get? b = some ob) (n : H b = none) (hx : b ∉ ex) : ∃ sl, h1.get? b = some { ob with slots := sl } := by
  by_cases hb : b ∈ fs
  · exact u.slot b ob q n hb hx
  · exact ⟨ob.slots, u.keep b ob q n hb hx⟩
theorem Un.kept (k : ∀ b u, h.get? b = some u -> h'.get? b = some u) : Un fs ex H H h h' :=
  ⟨fun b ob q _ _ _ => k b ob q, fun b ob q _ _ _ => ⟨ob.slots, k b ob q⟩, fun _ _ _ n _ => n, fun b ob q _ => ⟨ob, k b ob q⟩, fun _ _ q => q, fun _ _ _ q => q, fun _ ps q => ⟨#[], by rw [q]; simp⟩⟩
theorem Un.refl : Un fs ex H H h h := Un.kept fun _ _ q => q
theorem Un.laid (k : ∀ b u, h.get? b = some u -> h'.get? b = some u) (hp : h.objs.size <= a) (hn : H a = none) : Un fs ex H (upd H a o) h h' where
  keep := fun b u q _ _ _ => k b u q
  slot := fun b u q _ _ _ => ⟨u.slots, k b u q⟩
  free := fun b u q n _ => by rw [upd_ne (Nat.ne_of_lt (Nat.lt_of_lt_of_le (Heap.lt_size q) hp))]; exact n
  there := fun b u q _ => ⟨u, k b u q⟩
  tups := fun b xs q => by rw [upd_ne (ne_of_none q hn)]; exact q
  frzs := fun b u xs q => by rw [upd_ne (ne_of_none q hn)]; exact q
  tbls := fun b ps q => ⟨#[], by rw [upd_ne (ne_of_none q hn), q]; simp⟩
theorem Un.write (mu : Mut (H x)) (he : e = x \/ H e = some (.own x)) (k : ∀ b u, b ≠ e -> h.get? b = some u -> h'.get? b = some u) (heo : ∃ u, h'.get? e = some u) : Un fs ex H (upd H x o) h h' := by
  have hx : ∀ b, H b = none -> b ≠ x := fun b n z => by subst z; rw [n] at mu; exact mu
  have hb : ∀ b, H b = none -> b ≠ e := fun b n z => by
    subst z
    rcases he with r | r
    · exact hx b n r
    · rw [n] at r; cases r
  have hm : ∀ b u, H b = some u -> ¬ Mut (some u) -> b ≠ x := fun b u q nm z => by subst z; rw [q] at mu; exact nm mu
  refine ⟨fun b u q n _ _ => k b u (hb b n) q, fun b u q n _ _ => ⟨u.slots, k b u (hb b n) q⟩, fun b u q n _ => by rw [upd_ne (hx b n)]; exact n, fun b u q _ => ?_,
    fun b xs q => by rw [upd_ne (hm b _ q fun z => z)]; exact q, fun b u xs q => by rw [upd_ne (hm b _ q fun z => z)]; exact q, fun b ps q => ⟨#[], by rw [upd_ne (hm b _ q fun z => z), q]; simp⟩⟩
  by_cases hbe : b = e
  · subst hbe; exact heo
  · exact ⟨u, k b u hbe q⟩
end
noncomputable def trk (h : Heap) (H : Hp) : List Addr := (List.range h.objs.size).filter fun a => (H a).isSome
noncomputable def hidT (h : Heap) (H : Hp) : Heap := PySem.W.hideAll h (trk h H)
theorem hidT_size (h : Heap) (H : Hp) : (hidT h H).objs.size = h.objs.size := PySem.W.hideAll_size _ _
theorem hidT_get {h : Heap} {H : Hp} {b : Addr} {o : Obj} (e : h.get? b = some o) (n : H b = none) : (hidT h H).get? b = some o :=
  PySem.W.hideAll_get _ e fun hm => by
    have q : (H b).isSome = true := (List.mem_filter.mp hm).2
    rw [n] at q; simp at q
theorem of_hidT {h : Heap} {H : Hp} {b : Addr} {o : Obj} (e : (hidT h H).get? b = some o) : h.get? b = some o /\ H b = none := by
  have e' : h.get? b = some o := PySem.W.of_hideAll (trk h H) e
  refine ⟨e', ?_⟩
  cases q : H b with
  | none => rfl
  | some x =>
    have hm : b ∈ trk h H := List.mem_filter.mpr ⟨List.mem_range.mpr (Heap.lt_size e'), by simp [q]⟩
    have z : (hidT h H).get? b = none := PySem.W.hideAll_none (trk h H) hm
    rw [z] at e; cases e
noncomputable def allNews (g h : Heap) (L : Addr) : List (Addr × Obj) := (List.range h.objs.size).filterMap fun a => if a = L \/ (g.get? a).isSome = true then none else (h.get? a).map fun o => (a, o)
noncomputable def rest (g h : Heap) (L d : Addr) : List (Addr × Obj) := (allNews g h L).filter fun p => decide (p.1 ≠ d)
end L2
namespace L2
open PySem PySem.Spec PyProof.Rows
structure Mod (K : PySem.W.Frag) (mg : Str -> Option Value) (base : Heap) : Prop where
  kin : K.In base
  glob : base.Ns mainGlobals mg
  blt : ∃ mb, base.Ns builtinsNs mb /\ ∀ x : Str, x ≠ "__name__" -> mb x = bootBuiltins x
  nolimit : base.NoLimit
structure Cx where
  prog : Program
  w : World
  K : PySem.W.Frag
  mg : Str -> Option Value
  base : Heap
  A : Around
  N : List Str
  s₀ : Shared
  H₀ : Hp
  env : Env
  outer : List Env
  stack : List Env
  ex : List Addr
  fn : Str -> Bool
  calm : Bool
  pn : List (Addr × Obj)
  xe : Value -> Shared -> Prop
noncomputable def frs (l : List Env) : List Addr := l.filterMap (·.frame)
noncomputable abbrev Cx.fs (X : Cx) : List Addr := frs X.outer
noncomputable def Vis (sc : Scope) (x : Str) : Prop := sc.names.lookup x = some .local \/ sc.names.lookup x = some .cell \/ sc.names.lookup x = some .free
noncomputable def Loc (sc : Scope) (x : Str) : Prop := sc.names.lookup x = some .local \/ sc.names.lookup x = some .cell
noncomputable def Look (env : Env) (h : Heap) (m : Str -> Option Value) (x : Str) (u : Value) : Prop :=
  (env.kindOf x = some .local /\ m x = some u) \/ ((env.kindOf x = some .cell \/ env.kindOf x = some .free) /\ ∃ c, env.cells.lookup x = some c /\ h.IsCell c (some u))
structure Cx.Ok (X : Cx) : Prop where
  mod : Mod X.K X.mg X.base
  kind : X.env.scope.kind = .function
  glob : X.env.globals = mainGlobals
  blt : X.env.builtins = builtinsNs
  above : X.s₀.heap.objs.size <= X.env.locals
  inj : ∀ x y c, X.env.cells.lookup x = some c -> X.env.cells.lookup y = some c -> x = y
  has : ∀ x, (X.env.kindOf x = some .cell \/ X.env.kindOf x = some .free) -> ∃ c, X.env.cells.lookup x = some c
  cab : ∀ x c, X.fn x = true -> X.env.cells.lookup x = some c -> X.s₀.heap.objs.size <= c
  hd : X.calm = true -> X.A.handled = none
  frames : X.A.frames = some X.stack
  stk : X.stack = X.outer \/ (X.stack = X.env :: X.outer /\ X.env.frame = some X.env.locals)
  exf : ∀ b ∈ X.ex, b ≠ X.env.locals /\ ∀ x c, X.env.cells.lookup x = some c -> c ≠ b
  bs : ∀ b o, X.base.get? b = some o -> X.s₀.heap.get? b = some o /\ X.H₀ b = none
  bsz : X.base.objs.size <= X.s₀.heap.objs.size
  noex : ∀ b o, X.base.get? b = some o -> b ∉ X.ex
  exfs : ∀ b ∈ X.ex, b ∉ X.fs
  funs : X.s₀.heap.FunFrames X.base X.outer
  frf : ∀ b ∈ X.fs, X.H₀ b = none
structure Inv (X : Cx) (pins : List (Addr × Obj)) (σ : List (Option V)) (H : Hp) (s : Shared) : Prop where
  ok : X.Ok
  os : s.os = X.s₀.os
  bare : AllBare s.gens
  base : Un X.fs X.ex X.H₀ H X.s₀.heap s.heap
  loc : ∃ m, s.heap.Ns X.env.locals m /\ ∀ (i : Nat) (x : Str) (v : V), X.N[i]? = some x -> σ[i]? = some (some v) -> Vis X.env.scope x -> ∃ u, RelV v u /\ Look X.env s.heap m x u
  cell : ∀ x c, X.env.cells.lookup x = some c -> ∃ v, s.heap.IsCell c v
  free : H X.env.locals = none
  freeC : ∀ x c, X.env.cells.lookup x = some c -> H c = none
  pin : ∀ p ∈ X.pn ++ pins, s.heap.get? p.1 = some p.2 /\ H p.1 = none /\ p.1 ≠ X.env.locals /\ p.1 ∉ X.fs /\ ∀ v, p.2.data ≠ .cell v
  hok : HOk X.prog X.w H s.heap
  len : σ.length = X.N.length
section
variable {X : Cx} {pins : List (Addr × Obj)} {σ : List (Option V)} {H H' : Hp} {s : Shared} {h' : Heap}
theorem Cx.Ok.nofr (ok : X.Ok) {b : Addr} {o : Obj} (e : X.base.get? b = some o) : b ∉ X.fs := fun hb => by
  have := (ok.funs.mem hb).1
  rw [e] at this; cases this
theorem Inv.bs (I : Inv X pins σ H s) : ∀ b o, X.base.get? b = some o -> s.heap.get? b = some o /\ H b = none := fun b o e =>
  ⟨I.base.keep b o (I.ok.bs b o e).1 (I.ok.bs b o e).2 (I.ok.nofr e) (I.ok.noex b o e), I.base.free b o (I.ok.bs b o e).1 (I.ok.bs b o e).2 (I.ok.noex b o e)⟩
theorem Inv.bk (I : Inv X pins σ H s) : ∀ b o, X.base.get? b = some o -> s.heap.get? b = some o := fun b o e => (I.bs b o e).1
theorem Inv.mod (I : Inv X pins σ H s) : Mod X.K X.mg X.base := I.ok.mod
theorem Inv.kIn (I : Inv X pins σ H s) : X.K.In s.heap := I.ok.mod.kin.keeps I.bk
theorem Inv.fr (I : Inv X pins σ H s) : ∃ m, Fr X.base X.env.locals s.heap m :=
  let ⟨m, hn, _⟩ := I.loc
  ⟨m, hn, I.bk, Nat.le_trans I.ok.bsz I.ok.above⟩
theorem Inv.lt (I : Inv X pins σ H s) : X.env.locals < s.heap.objs.size := let ⟨_, hn, _⟩ := I.loc; hn.lt
theorem Inv.sz (I : Inv X pins σ H s) : X.s₀.heap.objs.size <= s.heap.objs.size := Nat.le_trans I.ok.above (Nat.le_of_lt I.lt)
theorem Inv.nofs (I : Inv X pins σ H s) {a : Addr} (h : s.heap.objs.size <= a) : a ∉ X.fs := fun hb => by
  obtain ⟨_, o, ho, _⟩ := I.ok.funs.mem hb
  exact absurd (Nat.lt_of_lt_of_le (Heap.lt_size ho) (Nat.le_trans I.sz h)) (Nat.lt_irrefl _)
theorem Inv.cne (I : Inv X pins σ H s) : ∀ x c, X.env.cells.lookup x = some c -> c ≠ X.env.locals := fun x c e z => by
  obtain ⟨v, o, ho, hd⟩ := I.cell x c e
  obtain ⟨m, ⟨o', es, ep, ho', hd', _⟩, _⟩ := I.loc
  rw [z, ho'] at ho; cases ho; rw [hd'] at hd; cases hd
theorem Inv.funs (I : Inv X pins σ H s) : s.heap.FunFrames X.base X.outer := by
  have all : ∀ (l : List Env), (∀ b ∈ frs l, b ∈ X.fs) -> X.s₀.heap.FunFrames X.base l -> s.heap.FunFrames X.base l := by
    intro l
    induction l with
    | nil => intro _ _; trivial
    | cons env r ih =>
      intro hs hl
      obtain ⟨hk, ⟨L, o, hf, hn, ho, hd⟩, hr⟩ := hl
      have hL : L ∈ X.fs := hs L (by unfold frs; rw [List.filterMap_cons, hf]; exact List.mem_cons_self)
      obtain ⟨sl, e⟩ := I.base.slot L o ho (I.ok.frf L hL) hL fun z => I.ok.exfs L z hL
      exact ⟨hk, ⟨L, _, hf, hn, e, hd⟩, ih (fun b hb => hs b (by unfold frs; rw [List.filterMap_cons, hf]; exact List.mem_cons_of_mem _ hb)) hr⟩
  exact all X.outer (fun _ hb => hb) I.ok.funs
theorem Inv.stack (I : Inv X pins σ H s) : s.heap.FunFrames X.base X.stack := by
  rcases I.ok.stk with e | ⟨e, hf⟩
  · rw [e]; exact I.funs
  · rw [e]
    obtain ⟨m, hn, _⟩ := I.loc
    refine .cons (by rw [I.ok.kind]; decide) hf hn ?_ I.funs
    exact Heap.get?_none_of_le (Nat.le_trans I.ok.bsz I.ok.above)
theorem Inv.stkSub (I : Inv X pins σ H s) : ∀ b ∈ frs X.stack, b ∈ X.env.locals :: X.fs := fun b hb => by
  rcases I.ok.stk with e | ⟨e, hf⟩
  · rw [e] at hb; exact List.mem_cons_of_mem _ hb
  · rw [e] at hb
    unfold frs at hb
    rw [List.filterMap_cons, hf] at hb
    exact hb
theorem Inv.stkFree (I : Inv X pins σ H s) : ∀ b ∈ frs X.stack, H b = none := fun b hb => by
  rcases List.mem_cons.mp (I.stkSub b hb) with e | hb
  · rw [e]; exact I.free
  · obtain ⟨_, o, ho, _⟩ := I.ok.funs.mem hb
    exact I.base.free b o ho (I.ok.frf b hb) fun z => I.ok.exfs b z hb
theorem Inv.step {g' : Array GenState} {t' : Nat} {d' : Drawn} {ch : List Addr} (I : Inv X pins σ H s)
    (hch : ∀ b ∈ ch, (b ∈ X.ex \/ X.s₀.heap.objs.size <= b) /\ b ≠ X.env.locals /\ (∀ x c, X.env.cells.lookup x = some c -> c ≠ b) /\ ∀ p ∈ X.pn ++ pins, p.1 ≠ b)
    (keep : ∀ b o, b ≠ X.env.locals -> b ∉ X.fs -> b ∉ ch -> s.heap.get? b = some o -> H b = none -> h'.get? b = some o)
    (slot : ∀ b o, b ≠ X.env.locals -> b ∈ X.fs -> b ∉ ch -> s.heap.get? b = some o -> H b = none -> ∃ sl, h'.get? b = some { o with slots := sl }) (free : ∀ b o, b ∉ ch -> s.heap.get? b = some o -> H b = none -> H' b = none)
    (there : ∀ b o, b ∉ ch -> s.heap.get? b = some o -> ∃ o', h'.get? b = some o')
    (tups : ∀ b xs, H b = some (.tup xs) -> H' b = some (.tup xs)) (frzs : ∀ b o u, H b = some (.frz o u) -> H' b = some (.frz o u)) (tbls : ∀ b ps, H b = some (.tbl ps) -> ∃ more, H' b = some (.tbl (ps ++ more)))
    (ns : ∀ m, s.heap.Ns X.env.locals m -> h'.Ns X.env.locals m) (hok : HOk X.prog X.w H' h') (hg : AllBare g') :
    Inv X pins σ H' { s with heap := h', gens := g', drawn := d', toks := t' } := by
  have neL : ∀ b o, X.s₀.heap.get? b = some o -> b ≠ X.env.locals := fun b o e => Nat.ne_of_lt (Nat.lt_of_lt_of_le (Heap.lt_size e) I.ok.above)
  have neC : ∀ b o, X.s₀.heap.get? b = some o -> b ∉ X.ex -> b ∉ ch := fun b o e hx hb => by
    rcases (hch b hb).1 with z | z
    · exact hx z
    · exact absurd (Nat.lt_of_lt_of_le (Heap.lt_size e) z) (Nat.lt_irrefl _)
  have cellK : ∀ x c, X.env.cells.lookup x = some c -> ∀ v, s.heap.IsCell c v -> h'.IsCell c v := fun x c e v ⟨o, ho, hd⟩ => by
    have nch : c ∉ ch := fun z => (hch c z).2.2.1 x c e rfl
    by_cases hc : c ∈ X.fs
    · obtain ⟨sl, q⟩ := slot c o (I.cne x c e) hc nch ho (I.freeC x c e)
      exact ⟨_, q, hd⟩
    · exact ⟨o, keep c o (I.cne x c e) hc nch ho (I.freeC x c e), hd⟩
  refine ⟨I.ok, I.os, hg, ⟨fun b o e n hb hx => ?_, fun b o e n hb hx => ?_, fun b o e n hx => ?_, fun b o e hx => ?_, fun b xs e => tups b xs (I.base.tups b xs e), fun b o xs e => frzs b o xs (I.base.frzs b o xs e), fun b ps e => ?_⟩, ?_, fun x c e => ?_, ?_, fun x c e => ?_, fun p hp => ?_, hok, I.len⟩
  · exact keep b o (neL b o e) hb (neC b o e hx) (I.base.keep b o e n hb hx) (I.base.free b o e n hx)
  · obtain ⟨sl, e1⟩ := I.base.slot b o e n hb hx
    obtain ⟨sl', e2⟩ := slot b _ (neL b o e) hb (neC b o e hx) e1 (I.base.free b o e n hx)
    exact ⟨sl', e2⟩
  · obtain ⟨o', e1⟩ := I.base.there b o e hx
    exact free b o' (neC b o e hx) e1 (I.base.free b o e n hx)
  · obtain ⟨o', e1⟩ := I.base.there b o e hx
    exact there b o' (neC b o e hx) e1
  · obtain ⟨m1, e1⟩ := I.base.tbls b ps e
    obtain ⟨m2, e2⟩ := tbls b _ e1
    exact ⟨m1 ++ m2, by rw [e2, Array.append_assoc]⟩
  · obtain ⟨m, hn, hl⟩ := I.loc
    refine ⟨m, ns m hn, fun i x v e1 e2 e3 => ?_⟩
    obtain ⟨u, r, l⟩ := hl i x v e1 e2 e3
    refine ⟨u, r, ?_⟩
    rcases l with l | ⟨k, c, e, z⟩
    · exact .inl l
    · exact .inr ⟨k, c, e, cellK x c e _ z⟩
  · obtain ⟨v, z⟩ := I.cell x c e
    exact ⟨v, cellK x c e v z⟩
  · obtain ⟨m, ⟨o, _, _, ho, _⟩, _⟩ := I.loc
    exact free _ o (fun z => (hch _ z).2.1 rfl) ho I.free
  · obtain ⟨v, o, ho, hd⟩ := I.cell x c e
    exact free c o (fun z => (hch c z).2.2.1 x c e rfl) ho (I.freeC x c e)
  · obtain ⟨e, n, ne, nf, d⟩ := I.pin p hp
    have nch : p.1 ∉ ch := fun z => (hch p.1 z).2.2.2 p hp rfl
    exact ⟨keep p.1 p.2 ne nf nch e n, free p.1 p.2 nch e n, ne, nf, d⟩
theorem Inv.un {t' : Nat} (I : Inv X pins σ H s) (u : Un X.fs [] H H' s.heap h') (hok : HOk X.prog X.w H' h') : Inv X pins σ H' { s with heap := h', toks := t' } := by
  obtain ⟨m, ⟨o, es, ep, ho, r⟩, _⟩ := id I.loc
  obtain ⟨sl, hL⟩ := u.any ho I.free (by simp)
  exact I.step (g' := s.gens) (d' := s.drawn) (ch := []) (fun _ z => nomatch z) (fun b o _ hb _ e n => u.keep b o e n hb (by simp)) (fun b o _ hb _ e n => u.slot b o e n hb (by simp)) (fun b o _ e n => u.free b o e n (by simp)) (fun b o _ e => u.there b o e (by simp)) u.tups u.frzs u.tbls (fun m' hm => by
    obtain ⟨o', es', ep', ho', r'⟩ := hm
    rw [ho] at ho'; cases ho'
    exact ⟨_, es', ep', hL, r'⟩) hok I.bare
theorem Inv.call {g' : Array GenState} {t' : Nat} {d' : Drawn} {ch : List Addr} (I : Inv X pins σ H s) (u : Un (frs X.stack) ch H H' s.heap h') (hok : HOk X.prog X.w H' h') (hg : AllBare g')
    (hch : ∀ b ∈ ch, (b ∈ X.ex \/ X.s₀.heap.objs.size <= b) /\ b ≠ X.env.locals /\ (∀ x c, X.env.cells.lookup x = some c -> c ≠ b) /\ ∀ p ∈ X.pn ++ pins, p.1 ≠ b) :
    Inv X pins σ H' { s with heap := h', gens := g', drawn := d', toks := t' } := by
  obtain ⟨m, ⟨o, es, ep, ho, r⟩, _⟩ := id I.loc
  obtain ⟨sl, hL⟩ := u.any ho I.free fun z => (hch _ z).2.1 rfl
  exact I.step (ch := ch) hch (fun b o hL hb hc e n => u.keep b o e n (fun z => (List.mem_cons.mp (I.stkSub b z)).elim hL hb) hc) (fun b o _ _ hc e n => u.any e n hc) (fun b o hc e n => u.free b o e n hc) (fun b o hc e => u.there b o e hc) u.tups u.frzs u.tbls (fun m' hm => by
    obtain ⟨o', es', ep', ho', r'⟩ := hm
    rw [ho] at ho'; cases ho'
    exact ⟨_, es', ep', hL, r'⟩) hok hg
theorem Inv.turned {t' : Nat} {it : Addr} (I : Inv X pins σ H s) (k : ∀ b o, b ≠ it -> s.heap.get? b = some o -> h'.get? b = some o) (hn : H it = none) (hL : it ≠ X.env.locals)
    (h1 : it ∈ X.ex \/ X.s₀.heap.objs.size <= it) (h2 : ∀ x c, X.env.cells.lookup x = some c -> c ≠ it) (h3 : ∀ p ∈ X.pn ++ pins, p.1 ≠ it) : Inv X pins σ H { s with heap := h', toks := t' } := by
  have nit : ∀ b u, H b = some u -> b ≠ it := fun b u e z => by rw [z, hn] at e; cases e
  refine I.step (g' := s.gens) (d' := s.drawn) (ch := [it]) (fun b hb => ?_) (fun b o _ _ hc e _ => k b o (fun z => hc (by simp [z])) e) (fun b o _ _ hc e _ => ⟨o.slots, k b o (fun z => hc (by simp [z])) e⟩) (fun _ _ _ _ n => n)
    (fun b o hc e => ⟨o, k b o (fun z => hc (by simp [z])) e⟩) (fun _ _ e => e) (fun _ _ _ e => e) (fun b ps e => ⟨#[], by rw [e]; simp⟩) (fun m hm => ?_) (fun b u e => ?_) I.bare
  · have e : b = it := by simpa using hb
    subst e
    exact ⟨h1, hL, h2, h3⟩
  · obtain ⟨o, es, ep, ho, r⟩ := hm
    exact ⟨o, es, ep, k _ o (Ne.symm hL) ho, r⟩
  · refine (I.hok b u e).stay (fun c v hc q => k c v ?_ q) (fun _ q => q) fun _ _ q => q
    rcases hc with z | z
    · rw [z]; exact nit b u e
    · exact nit c _ z
theorem Inv.tok (I : Inv X pins σ H s) (t : Nat) : Inv X pins σ H { s with toks := t } := I.un (h' := s.heap) (t' := t) Un.refl I.hok
theorem Inv.kept {t' : Nat} (I : Inv X pins σ H s) (k : ∀ b u, s.heap.get? b = some u -> h'.get? b = some u) : Inv X pins σ H { s with heap := h', toks := t' } := I.un (Un.kept k) (I.hok.kept k)
theorem Inv.laid {a : Addr} {o : HO} {t' : Nat} (I : Inv X pins σ H s) (k : ∀ b u, s.heap.get? b = some u -> h'.get? b = some u) (hp : s.heap.objs.size <= a) (new : ObjOk X.prog X.w (upd H a o) h' a o) :
    Inv X pins σ (upd H a o) { s with heap := h', toks := t' } := I.un (Un.laid k hp (I.hok.fresh hp)) (I.hok.laid k hp new)
theorem Inv.write {x e : Addr} {o : HO} {t' : Nat} (I : Inv X pins σ H s) (mu : Mut (H x)) (he : e = x \/ H e = some (.own x)) (k : ∀ b u, b ≠ e -> s.heap.get? b = some u -> h'.get? b = some u) (heo : ∃ u, h'.get? e = some u)
    (new : ObjOk X.prog X.w (upd H x o) h' x o) : Inv X pins σ (upd H x o) { s with heap := h', toks := t' } := I.un (Un.write mu he k heo) (I.hok.write mu he k heo new)
theorem Inv.weak {σ' : List (Option V)} (I : Inv X pins σ H s) (hl : σ'.length = σ.length) (w : ∀ (i : Nat) v, σ'[i]? = some (some v) -> σ[i]? = some (some v)) : Inv X pins σ' H s :=
  ⟨I.ok, I.os, I.bare, I.base, let ⟨m, hn, hl'⟩ := I.loc; ⟨m, hn, fun i x v e1 e2 e3 => hl' i x v e1 (w i v e2) e3⟩, I.cell, I.free, I.freeC, I.pin, I.hok, hl.trans I.len⟩
theorem Inv.pins_of {pins' : List (Addr × Obj)} (I : Inv X pins σ H s) (h : ∀ p ∈ pins', s.heap.get? p.1 = some p.2 /\ H p.1 = none /\ p.1 ≠ X.env.locals /\ p.1 ∉ X.fs /\ ∀ v, p.2.data ≠ .cell v) : Inv X pins' σ H s :=
  ⟨I.ok, I.os, I.bare, I.base, I.loc, I.cell, I.free, I.freeC, fun p hp => (List.mem_append.mp hp).elim (fun z => I.pin p (List.mem_append_left _ z)) (h p), I.hok, I.len⟩
theorem nodup_ix {N : List Str} (hN : N.Nodup) {i j : Nat} {x : Str} (a : N[i]? = some x) (b : N[j]? = some x) : i = j := by
  obtain ⟨h1, e1⟩ := List.getElem?_eq_some_iff.mp a
  obtain ⟨h2, e2⟩ := List.getElem?_eq_some_iff.mp b
  exact (List.getElem_inj hN).mp (e1.trans e2.symm)
theorem store_ok2 {M : Model} {A : Around} {E : Value -> Shared -> Prop} {i : Nat} {x : Str} {v : V} {u : Value} {Q : Unit -> Shared -> Prop} (I : Inv X pins σ H s) (hN : X.N.Nodup) (hi : X.N[i]? = some x) (hx : Loc X.env.scope x) (r : RelV v u)
    (h : ∀ s', Inv X pins (σ.set i (some v)) H s' -> (∃ a, Heap.SameBut a s.heap s'.heap /\ (a = X.env.locals \/ X.env.cells.lookup x = some a)) -> Q () s') (hf : X.fn x = true \/ X.env.scope.names.lookup x = some .local := by first | exact .inl rfl | exact .inr rfl | assumption) : wpAny M A (storeName X.env x u) Q E s := by
  obtain ⟨m, hn, hl⟩ := id I.loc
  have hcls : (X.env.scope.kind == .class || (X.env.scope.kind == .module && X.env.locals != X.env.globals)) = false := by rw [I.ok.kind]; rfl
  have hiσ : i < σ.length := by rw [I.len]; exact (List.getElem?_eq_some_iff.mp hi).1
  have cne := I.cne
  have tracked : ∀ {a : Addr} {h' : Heap}, (∃ o, s.heap.get? a = some o /\ H a = none) -> Heap.SameBut a s.heap h' -> HOk X.prog X.w H h' := fun {a h'} ha hs b ob e => by
    obtain ⟨_, _, hfree⟩ := ha
    refine (I.hok b ob e).stay (fun c w' hc q => (hs.2 c ?_).trans q) (fun _ q => q) fun _ _ q => q
    rintro rfl
    rcases hc with rfl | hc
    · rw [hfree] at e; cases e
    · rw [hfree] at hc; cases hc
  rcases hx with hk | hk
  · refine wpAny_storeName_local hk hn (fun h' hn' hs => ?_) hcls
    obtain ⟨oL, _, _, hoL, _⟩ := id hn
    refine h _ ⟨I.ok, I.os, I.bare, ⟨fun b o e n hb hx => ?_, fun b o e n hb hx => ?_, I.base.free, fun b o e hx => ?_, I.base.tups, I.base.frzs, I.base.tbls⟩, ⟨_, hn', fun j y v' e1 e2 e3 => ?_⟩, fun y c e => ?_, I.free, I.freeC, fun p hp => ?_, tracked ⟨oL, hoL, I.free⟩ hs, by simpa using I.len⟩ ⟨_, hs, .inl rfl⟩
    · exact (hs.2 b (Nat.ne_of_lt (Nat.lt_of_lt_of_le (Heap.lt_size e) I.ok.above))).trans (I.base.keep b o e n hb hx)
    · obtain ⟨sl, e1⟩ := I.base.slot b o e n hb hx
      exact ⟨sl, (hs.2 b (Nat.ne_of_lt (Nat.lt_of_lt_of_le (Heap.lt_size e) I.ok.above))).trans e1⟩
    · obtain ⟨o', e1⟩ := I.base.there b o e hx
      exact ⟨o', (hs.2 b (Nat.ne_of_lt (Nat.lt_of_lt_of_le (Heap.lt_size e) I.ok.above))).trans e1⟩
    · by_cases hj : j = i
      · subst hj
        rw [hi] at e1; cases e1
        rw [List.getElem?_set_self hiσ] at e2
        cases e2
        exact ⟨u, r, .inl ⟨hk, by simp⟩⟩
      · rw [List.getElem?_set_ne (Ne.symm hj)] at e2
        obtain ⟨u', r', q⟩ := hl j y v' e1 e2 e3
        refine ⟨u', r', ?_⟩
        rcases q with ⟨k, e⟩ | ⟨k, c, e, z⟩
        · refine .inl ⟨k, ?_⟩
          have : y ≠ x := fun e => hj (nodup_ix hN e1 (e ▸ hi))
          simp [this, e]
        · exact .inr ⟨k, c, e, z.sameBut hs (cne y c e)⟩
    · obtain ⟨w', z⟩ := I.cell y c e
      exact ⟨w', z.sameBut hs (cne y c e)⟩
    · obtain ⟨e, n, ne, nf, d⟩ := I.pin p hp
      exact ⟨(hs.2 p.1 ne).trans e, n, ne, nf, d⟩
  · have hfn : X.fn x = true := by
      rcases hf with z | z
      · exact z
      · rw [z] at hk; cases hk
    obtain ⟨c, hc⟩ := I.ok.has x (.inl hk)
    obtain ⟨w', z⟩ := I.cell x c hc
    refine wpAny_storeName_cell I.ok.kind hk hc z (fun h' hc' hs => ?_)
    obtain ⟨oc, hoc, hocd⟩ := id z
    refine h { s with heap := h' } ⟨I.ok, I.os, I.bare, ⟨fun b o e n hb hx => ?_, fun b o e n hb hx => ?_, I.base.free, fun b o e hx => ?_, I.base.tups, I.base.frzs, I.base.tbls⟩, ⟨m, hn.sameBut hs (Ne.symm (cne x c hc)), fun j y v' e1 e2 e3 => ?_⟩, fun y c' e => ?_, I.free, I.freeC, fun p hp => ?_, tracked ⟨oc, hoc, I.freeC x c hc⟩ hs, by simpa using I.len⟩ ⟨c, hs, .inr hc⟩
    · exact (hs.2 b (Nat.ne_of_lt (Nat.lt_of_lt_of_le (Heap.lt_size e) (I.ok.cab x c hfn hc)))).trans (I.base.keep b o e n hb hx)
    · obtain ⟨sl, e1⟩ := I.base.slot b o e n hb hx
      exact ⟨sl, (hs.2 b (Nat.ne_of_lt (Nat.lt_of_lt_of_le (Heap.lt_size e) (I.ok.cab x c hfn hc)))).trans e1⟩
    · obtain ⟨o', e1⟩ := I.base.there b o e hx
      exact ⟨o', (hs.2 b (Nat.ne_of_lt (Nat.lt_of_lt_of_le (Heap.lt_size e) (I.ok.cab x c hfn hc)))).trans e1⟩
    · by_cases hj : j = i
      · subst hj
        rw [hi] at e1; cases e1
        rw [List.getElem?_set_self hiσ] at e2
        cases e2
        exact ⟨u, r, .inr ⟨.inl hk, c, hc, hc'⟩⟩
      · rw [List.getElem?_set_ne (Ne.symm hj)] at e2
        obtain ⟨u', r', q⟩ := hl j y v' e1 e2 e3
        refine ⟨u', r', ?_⟩
        rcases q with q | ⟨k, c', e, z'⟩
        · exact .inl q
        · refine .inr ⟨k, c', e, z'.sameBut hs ?_⟩
          rintro rfl
          exact hj (nodup_ix hN e1 (I.ok.inj _ _ _ e hc ▸ hi))
    · by_cases hcc : c' = c
      · subst hcc; exact ⟨_, hc'⟩
      · obtain ⟨w2, z2⟩ := I.cell y c' e
        exact ⟨w2, z2.sameBut hs hcc⟩
    · obtain ⟨e, n, ne, nf, d⟩ := I.pin p hp
      refine ⟨(hs.2 p.1 ?_).trans e, n, ne, nf, d⟩
      intro q
      rw [q, hoc] at e
      have q' : oc = p.2 := Option.some.inj e
      exact d w' (by rw [<- q']; exact hocd)
theorem store_ok {M : Model} {A : Around} {E : Value -> Shared -> Prop} {i : Nat} {x : Str} {v : V} {u : Value} {Q : Unit -> Shared -> Prop} (I : Inv X pins σ H s) (hN : X.N.Nodup) (hi : X.N[i]? = some x) (hx : Loc X.env.scope x) (r : RelV v u)
    (h : ∀ s', Inv X pins (σ.set i (some v)) H s' -> Q () s') (hf : X.fn x = true \/ X.env.scope.names.lookup x = some .local := by first | exact .inl rfl | exact .inr rfl | assumption) : wpAny M A (storeName X.env x u) Q E s :=
  store_ok2 I hN hi hx r (fun s' I' _ => h s' I') hf
theorem Inv.call' {s' : Shared} {ch : List Addr} (I : Inv X pins σ H s) (ho : s'.os = s.os) (u : Un (frs X.stack) ch H H' s.heap s'.heap) (hok : HOk X.prog X.w H' s'.heap) (hg : AllBare s'.gens)
    (hch : ∀ b ∈ ch, (b ∈ X.ex \/ X.s₀.heap.objs.size <= b) /\ b ≠ X.env.locals /\ (∀ x c, X.env.cells.lookup x = some c -> c ≠ b) /\ ∀ p ∈ X.pn ++ pins, p.1 ≠ b) : Inv X pins σ H' s' := by
  obtain ⟨h', g', d', t', o'⟩ := s'
  have e : o' = s.os := ho
  subst e
  exact I.call (g' := g') (t' := t') (d' := d') u hok hg hch
end
noncomputable abbrev XK := Value -> Option Addr -> Hp -> Prop
noncomputable abbrev St := List (Option V)
noncomputable abbrev VK := V -> Hp -> Prop
noncomputable abbrev TE := St -> Hp -> VK -> Prop
noncomputable abbrev TT := St -> Hp -> (Bool -> Hp -> Prop) -> Prop
noncomputable abbrev TA := St -> Hp -> (List V -> Hp -> Prop) -> Prop
structure Ends where
  nx : St -> Hp -> Prop
  rt : VK
  bk : St -> Hp -> Prop := fun _ _ => False
  ct : St -> Hp -> Prop := fun _ _ => False
noncomputable abbrev TS := Ends -> St -> Hp -> Prop
noncomputable def EP (X : Cx) (pins : List (Addr × Obj)) (σ : St) (Q : VK) (u : Value) (s' : Shared) : Prop := ∃ v H', Inv X pins σ H' s' /\ RelV v u /\ Q v H'
noncomputable def TP (X : Cx) (pins : List (Addr × Obj)) (σ : St) (Q : Bool -> Hp -> Prop) (b : Bool) (s' : Shared) : Prop := ∃ H', Inv X pins σ H' s' /\ Q b H'
noncomputable def AP (X : Cx) (pins : List (Addr × Obj)) (σ : St) (Q : List V -> Hp -> Prop) (us : List Value) (s' : Shared) : Prop := ∃ vs H', Inv X pins σ H' s' /\ Vals vs us /\ Q vs H'
noncomputable def SP (X : Cx) (pins : List (Addr × Obj)) (D : Ends) (f : Flow) (s' : Shared) : Prop :=
  match f with
  | .next => ∃ σ' H', Inv X pins σ' H' s' /\ D.nx σ' H'
  | .brk => ∃ σ' H', Inv X pins σ' H' s' /\ D.bk σ' H'
  | .cont => ∃ σ' H', Inv X pins σ' H' s' /\ D.ct σ' H'
  | .ret u => ∃ v σ' H', Inv X pins σ' H' s' /\ RelV v u /\ D.rt v H'
noncomputable def PE (X : Cx) (e : Expr) (t : TE) : Prop :=
  ∀ (pins : List (Addr × Obj)) (s : Shared) (σ : St) (H : Hp) (Q : VK), Inv X pins σ H s -> t σ H Q -> wpAny (model X.prog X.w) X.A (eval e X.env) (EP X pins σ Q) X.xe s
noncomputable def PT (X : Cx) (e : Expr) (t : TT) : Prop :=
  ∀ (pins : List (Addr × Obj)) (s : Shared) (σ : St) (H : Hp) (Q : Bool -> Hp -> Prop), Inv X pins σ H s -> t σ H Q -> wpAny (model X.prog X.w) X.A (isTrue e X.env (eval e X.env)) (TP X pins σ Q) X.xe s
noncomputable def PW (X : Cx) (e : Expr) (t : TT) : Prop :=
  ∀ (whole : Sem Value) (pins : List (Addr × Obj)) (s : Shared) (σ : St) (H : Hp) (Q : Bool -> Hp -> Prop), Inv X pins σ H s -> t σ H Q -> wpAny (model X.prog X.w) X.A (isTrue e X.env whole) (TP X pins σ Q) X.xe s
theorem PW.pt {X : Cx} {e : Expr} {t : TT} (h : PW X e t) : PT X e t := h _
noncomputable def PA (X : Cx) (es : List Expr) (t : TA) : Prop :=
  ∀ (pos : Pos) (pins : List (Addr × Obj)) (s : Shared) (σ : St) (H : Hp) (Q : List V -> Hp -> Prop), Inv X pins σ H s -> t σ H Q -> wpAny (model X.prog X.w) X.A (spliced (backTo pos (starEach es X.env))) (AP X pins σ Q) X.xe s
noncomputable def PS (X : Cx) (st : Stmt) (t : TS) : Prop :=
  ∀ (pins : List (Addr × Obj)) (s : Shared) (σ : St) (H : Hp) (D : Ends), Inv X pins σ H s -> t D σ H -> wpAny (model X.prog X.w) X.A (exec st X.env) (SP X pins D) X.xe s
noncomputable def PSs (X : Cx) (st : List Stmt) (t : TS) : Prop :=
  ∀ (pins : List (Addr × Obj)) (s : Shared) (σ : St) (H : Hp) (D : Ends), Inv X pins σ H s -> t D σ H -> wpAny (model X.prog X.w) X.A (execs st X.env) (SP X pins D) X.xe s
theorem thn {α : Type} {t : Sem α} {Q Q' : α -> Shared -> Prop} {M : Model} {A : Around} {E : Value -> Shared -> Prop} {s : Shared} (h : wpAny M A t Q E s) (hQ : ∀ a s, Q a s -> Q' a s) : wpAny M A t Q' E s := wpAny_mono h hQ fun _ _ x => x
end L2
namespace L2
open PySem PySem.Spec PyProof.Rows
section
variable {X : Cx}
noncomputable def tVar (i : Nat) : TE := fun σ H Q => ∃ v, σ[i]? = some (some v) /\ Q v H
noncomputable def tC (v : V) : TE := fun _ H Q => Q v H
theorem pe_var {i : Nat} {x : Str} {pos : Pos} (hN : X.N[i]? = some x) (hv : Vis X.env.scope x) (hd : (x == ("__debug__" : Str)) = false := by decide) (hcd : (x == ("__classdict__" : Str)) = false := by decide) : PE X (.Name x pos) (tVar i) := by
  intro pins s σ H Q I h
  obtain ⟨v, e, h⟩ := h
  obtain ⟨m, hn, hl⟩ := I.loc
  obtain ⟨u, r, l⟩ := hl i x v hN e hv
  have fin : EP X pins σ Q u s := ⟨v, H, I, r, h⟩
  rcases l with ⟨hk, hm⟩ | ⟨hk, c, hc, hcell⟩
  · exact wpAny_Name (wpAny_loadName_local I.ok.kind hk hn hm fin) hd
  · rcases hk with hk | hk
    · exact wpAny_Name (wpAny_loadName_cell I.ok.kind hk hc hcell fin) hd
    · exact wpAny_Name (wpAny_loadName_free I.ok.kind hk hc hcell fin hcd) hd
theorem pe_int {i j pos} : PE X (.Constant (.int i) j pos) (tC (.int i)) := fun _ _ _ H _ I h => wpAny_Constant_int ⟨.int i, H, I.tok _, ⟨_, rfl⟩, h⟩
theorem pe_bl {b j pos} : PE X (.Constant (.bool b) j pos) (tC (.bl b)) := fun _ _ _ H _ I h => Constant_bool ⟨.bl b, H, I, rfl, h⟩
theorem pe_non {j pos} : PE X (.Constant .none j pos) (tC .non) := fun _ _ _ H _ I h => Constant_none ⟨.non, H, I, rfl, h⟩
theorem pe_str {x j pos} : PE X (.Constant (.str x) j pos) (tC (.str x)) := fun _ _ _ H _ I h => Calls.Constant_str ⟨.str x, H, I.tok _, ⟨_, rfl⟩, h⟩
noncomputable def Gl (X : Cx) (x : Str) : Prop := X.env.kindOf x = some .globalImplicit
theorem ld_glob {E : Value -> Shared -> Prop} {pins : List (Addr × Obj)} {s : Shared} {σ : St} {H : Hp} {x : Str} {u : Value} {pos : Pos} {Q : Value -> Shared -> Prop} (I : Inv X pins σ H s) (hg : Gl X x) (hm : X.mg x = some u) (h : Q u s)
    (hd : (x == ("__debug__" : Str)) = false := by decide) : wpAny (model X.prog X.w) X.A (eval (.Name x pos) X.env) Q E s :=
  Calls.Name_function_global I.ok.kind hg (Calls.loadGlobal_global (by rw [I.ok.glob]; exact I.mod.glob.keeps I.bk) hm h) hd
theorem ld_blt {E : Value -> Shared -> Prop} {pins : List (Addr × Obj)} {s : Shared} {σ : St} {H : Hp} {x : Str} {u : Value} {pos : Pos} {Q : Value -> Shared -> Prop} (I : Inv X pins σ H s) (hg : Gl X x) (hm : X.mg x = none) (hv : bootBuiltins x = some u) (h : Q u s)
    (hn : x ≠ "__name__" := by decide) (hd : (x == ("__debug__" : Str)) = false := by decide) : wpAny (model X.prog X.w) X.A (eval (.Name x pos) X.env) Q E s := by
  obtain ⟨mb, h1, h2⟩ := I.mod.blt
  exact Calls.Name_function_global I.ok.kind hg (Calls.loadGlobal_builtin (by rw [I.ok.glob]; exact I.mod.glob.keeps I.bk) hm (by rw [I.ok.blt]; exact h1.keeps I.bk) ((h2 x hn).trans hv) h) hd
theorem pe_glob {x : Str} {v : V} {u : Value} {pos : Pos} (hg : Gl X x) (hm : X.mg x = some u) (r : RelV v u) (hd : (x == ("__debug__" : Str)) = false := by decide) : PE X (.Name x pos) (tC v) :=
  fun _ _ _ H _ I h => ld_glob I hg hm ⟨v, H, I, r, h⟩ hd
theorem pe_bltn {x : Str} {v : V} {u : Value} {pos : Pos} (hg : Gl X x) (hm : X.mg x = none) (hv : bootBuiltins x = some u) (r : RelV v u) (hn : x ≠ "__name__" := by decide) (hd : (x == ("__debug__" : Str)) = false := by decide) : PE X (.Name x pos) (tC v) :=
  fun _ _ _ H _ I h => ld_blt I hg hm hv ⟨v, H, I, r, h⟩ hn hd
variable {a b : Expr} {ta tb : TE} {pos : Pos}
variable {tA tB' : TT} {rest : List Expr}
noncomputable def tAnd (t u : TT) : TT := fun σ H Q => t σ H fun c H1 => if c = true then u σ H1 Q else Q false H1
noncomputable def tOr (t u : TT) : TT := fun σ H Q => t σ H fun c H1 => if c = true then Q true H1 else u σ H1 Q
noncomputable def tNot (t : TT) : TT := fun σ H Q => t σ H fun c H1 => Q (!c) H1
theorem pw_and1 (ha : PT X a tA) : PW X (.BoolOp .And [a] pos) tA := by
  intro wh pins s σ H Q I h
  refine isTrue_and (thn (ha pins s σ H Q I h) fun c s1 e => ?_)
  cases c with
  | true => exact isTrue_and_nil e
  | false => exact e
theorem pw_or1 (ha : PT X a tA) : PW X (.BoolOp .Or [a] pos) tA := by
  intro wh pins s σ H Q I h
  refine isTrue_or (thn (ha pins s σ H Q I h) fun c s1 e => ?_)
  cases c with
  | false => exact isTrue_or_nil e
  | true => exact e
theorem pw_and (ha : PT X a tA) (hb : PW X (.BoolOp .And (b :: rest) pos) tB') : PW X (.BoolOp .And (a :: b :: rest) pos) (tAnd tA tB') := by
  intro wh pins s σ H Q I h
  refine isTrue_and (thn (ha pins s σ H _ I h) fun c s1 ⟨H1, I1, q1⟩ => ?_)
  cases c with
  | true => exact hb wh pins s1 σ H1 Q I1 q1
  | false => exact ⟨H1, I1, q1⟩
theorem pw_or (ha : PT X a tA) (hb : PW X (.BoolOp .Or (b :: rest) pos) tB') : PW X (.BoolOp .Or (a :: b :: rest) pos) (tOr tA tB') := by
  intro wh pins s σ H Q I h
  refine isTrue_or (thn (ha pins s σ H _ I h) fun c s1 ⟨H1, I1, q1⟩ => ?_)
  cases c with
  | true => exact ⟨H1, I1, q1⟩
  | false => exact hb wh pins s1 σ H1 Q I1 q1
theorem pt_not (ha : PT X a tA) : PT X (.UnaryOp .Not a pos) (tNot tA) := by
  intro pins s σ H Q I h
  exact isTrue_not (ha pins s σ H (fun c H1 => Q (!c) H1) I h)
noncomputable def tAndV (ta tb : TE) : TE := fun σ H Q => ta σ H fun x H1 => ∃ c, x = .bl c /\ if c = true then tb σ H1 Q else Q (.bl false) H1
noncomputable def tNotV (ta : TE) : TE := fun σ H Q => ta σ H fun x H1 => ∃ c, x = .bl c /\ Q (.bl (!c)) H1
theorem pe_one {op} {t : TE} (h : PE X a t) : PE X (.BoolOp op [a] pos) t := fun pins s σ H Q I hw => BoolOp_one (h pins s σ H Q I hw)
theorem pe_and (ha : PE X a ta) (hb : PE X (.BoolOp .And (b :: rest) pos) tb) : PE X (.BoolOp .And (a :: b :: rest) pos) (tAndV ta tb) := by
  intro pins s σ H Q I h
  refine BoolOp_and (thn (ha pins s σ H _ I h) fun v s1 ⟨x, H1, I1, r1, q1⟩ => ?_)
  obtain ⟨c, rfl, q1⟩ := q1
  cases r1
  refine wpAny_truthy_bool ?_
  cases c with
  | true => exact hb pins s1 σ H1 Q I1 q1
  | false => exact ⟨.bl false, H1, I1, rfl, q1⟩
theorem pe_not (ha : PE X a ta) : PE X (.UnaryOp .Not a pos) (tNotV ta) := by
  intro pins s σ H Q I h
  refine UnaryOp_ (thn (ha pins s σ H _ I h) fun v s1 ⟨x, H1, I1, r1, q1⟩ => ?_)
  obtain ⟨c, rfl, q1⟩ := q1
  cases r1
  exact not_of (wpAny_truthy_bool ⟨.bl (!c), H1, I1, rfl, q1⟩)
noncomputable def tIf (t : TT) (ta tb : TE) : TE := fun σ H Q => t σ H fun c H1 => if c = true then ta σ H1 Q else tb σ H1 Q
theorem pe_ifExp {c : Expr} (hc : PT X c tA) (ha : PE X a ta) (hb : PE X b tb) : PE X (.IfExp c a b pos) (tIf tA ta tb) := by
  intro pins s σ H Q I h
  refine wpAny_IfExp (thn (hc pins s σ H _ I h) fun d s1 ⟨H1, I1, q1⟩ => ?_)
  cases d with
  | true => exact ha pins s1 σ H1 Q I1 q1
  | false => exact hb pins s1 σ H1 Q I1 q1
end
end L2
namespace L2
open PySem PySem.Spec PyProof.Rows
noncomputable def SqL (K : PySem.W.Frag) (H : Hp) (a : Addr) (xs : List V) : Prop :=
  Rd H a (.lst xs) \/
    ∃ (o : Obj) (its : Array Value) (n : Nat), K.lookup a = some o /\ o.cls = .type "list" /\ o.dict = none /\ o.data = .seq its n /\ its.size <= sizeLine /\ Vals xs its.toList
noncomputable def SqT (K : PySem.W.Frag) (H : Hp) (a : Addr) (xs : List V) : Prop :=
  Rd H a (.tup xs) \/
    ∃ (o : Obj) (its : Array Value) (n : Nat), K.lookup a = some o /\ o.cls = .type "tuple" /\ o.data = .seq its n /\ its.size <= sizeLine /\ Vals xs its.toList
noncomputable def absV : Value -> Option V
  | .none => some .non
  | .bool b => some (.bl b)
  | .int i _ => some (.int i)
  | .str x _ => some (.str x)
  | .bytes b _ => some (.byt b)
  | .float b _ => some (.flt b)
  | .ref a => some (.ref a)
  | .type n => some (.ty n)
  | _ => none
theorem RelV.abs {x : V} {u : Value} (r : RelV x u) : absV u = some x := by
  cases x with
  | non => cases r; rfl
  | bl _ => cases r; rfl
  | int _ => obtain ⟨t, rfl⟩ := r; rfl
  | str _ => obtain ⟨t, rfl⟩ := r; rfl
  | byt _ => obtain ⟨t, rfl⟩ := r; rfl
  | flt _ => obtain ⟨t, rfl⟩ := r; rfl
  | ref _ => cases r; rfl
  | ty _ => cases r; rfl
theorem RelV.inj {x y : V} {u : Value} (r : RelV x u) (q : RelV y u) : x = y := Option.some.inj (r.abs.symm.trans q.abs)
theorem Vals.inj : ∀ {xs ys : List V} {us : List Value}, Vals xs us -> Vals ys us -> xs = ys
  | _, _, _, .nil, .nil => rfl
  | _, _, _, .cons r t, .cons r' t' => by rw [r.inj r', Vals.inj t t']
section
variable {X : Cx} {pins : List (Addr × Obj)} {σ : St} {H : Hp} {s : Shared} {a : Addr} {xs ys : List V}
theorem SqL.of {K : PySem.W.Frag} (h : H a = some (.lst xs)) : SqL K H a xs := .inl (.inl h)
theorem SqT.of {K : PySem.W.Frag} (h : H a = some (.tup xs)) : SqT K H a xs := .inl (.inl h)
theorem Inv.list (I : Inv X pins σ H s) (h : SqL X.K H a xs) : ∃ its : List Value, Vals xs its /\ PlainL s.heap a its.toArray /\ xs.length <= sizeLine := by
  rcases h with h | ⟨o, its, n, hk, hc, hd, hs, hz, r⟩
  · obtain ⟨z, its, n, r, e⟩ := h.ok I.hok
    exact ⟨its, r, ⟨_, n, e, rfl, rfl, rfl⟩, z⟩
  · refine ⟨its.toList, r, ⟨o, n, I.kIn a o hk, hc, hd, by simpa using hs⟩, ?_⟩
    have e := r.length
    simp only [Array.length_toList] at e
    omega
theorem Inv.tuple (I : Inv X pins σ H s) (h : SqT X.K H a xs) : ∃ its : List Value, Vals xs its /\ IsTup s.heap a its.toArray /\ xs.length <= sizeLine := by
  rcases h with h | ⟨o, its, n, hk, hc, hs, hz, r⟩
  · obtain ⟨z, its, r, p⟩ := h.ok I.hok
    exact ⟨its, r, p.1, z⟩
  · refine ⟨its.toList, r, ⟨o, I.kIn a o hk, hc, n, by simpa using hs⟩, ?_⟩
    have e := r.length
    simp only [Array.length_toList] at e
    omega
theorem Inv.list_inj (I : Inv X pins σ H s) (h : SqL X.K H a xs) (h' : SqL X.K H a ys) : xs = ys := by
  obtain ⟨its, r, ⟨o, n, e, _, _, d⟩, _⟩ := I.list h
  obtain ⟨its', r', ⟨o', n', e', _, _, d'⟩, _⟩ := I.list h'
  rw [e] at e'; cases e'
  rw [d] at d'
  injection d' with d1 _
  have : its = its' := by simpa using congrArg Array.toList d1
  subst this
  exact r.inj r'
theorem Inv.tuple_inj (I : Inv X pins σ H s) (h : SqT X.K H a xs) (h' : SqT X.K H a ys) : xs = ys := by
  obtain ⟨its, r, ⟨o, e, _, n, d⟩, _⟩ := I.tuple h
  obtain ⟨its', r', ⟨o', e', _, n', d'⟩, _⟩ := I.tuple h'
  rw [e] at e'; cases e'
  rw [d] at d'
  injection d' with d1 _
  have : its = its' := by simpa using congrArg Array.toList d1
  subst this
  exact r.inj r'
end
noncomputable abbrev Cx.wish (X : Cx) (E : Value -> Shared -> Prop) : Cx := { X with xe := E }
noncomputable abbrev Cx.nox (X : Cx) : Cx := X.wish fun _ _ => False
theorem Cx.Ok.wish {X : Cx} (ok : X.Ok) (E : Value -> Shared -> Prop) : (X.wish E).Ok :=
  ⟨ok.mod, ok.kind, ok.glob, ok.blt, ok.above, ok.inj, ok.has, ok.cab, ok.hd, ok.frames, ok.stk, ok.exf, ok.bs, ok.bsz, ok.noex, ok.exfs, ok.funs, ok.frf⟩
theorem Cx.Ok.unwish {X : Cx} {E : Value -> Shared -> Prop} (ok : (X.wish E).Ok) : X.Ok :=
  ⟨ok.mod, ok.kind, ok.glob, ok.blt, ok.above, ok.inj, ok.has, ok.cab, ok.hd, ok.frames, ok.stk, ok.exf, ok.bs, ok.bsz, ok.noex, ok.exfs, ok.funs, ok.frf⟩
section
variable {X : Cx} {pins : List (Addr × Obj)} {σ : St} {H : Hp} {s : Shared} {E : Value -> Shared -> Prop}
theorem Inv.wish (I : Inv X pins σ H s) (E : Value -> Shared -> Prop) : Inv (X.wish E) pins σ H s := ⟨I.ok.wish E, I.os, I.bare, I.base, I.loc, I.cell, I.free, I.freeC, I.pin, I.hok, I.len⟩
theorem Inv.unwish (I : Inv (X.wish E) pins σ H s) : Inv X pins σ H s := ⟨I.ok.unwish, I.os, I.bare, I.base, I.loc, I.cell, I.free, I.freeC, I.pin, I.hok, I.len⟩
theorem SP.unwish {D : Ends} {f : Flow} {s' : Shared} (h : SP (X.wish E) pins D f s') : SP X pins D f s' := by
  cases f with
  | next => obtain ⟨σ', H', I, q⟩ := h; exact ⟨σ', H', I.unwish, q⟩
  | brk => obtain ⟨σ', H', I, q⟩ := h; exact ⟨σ', H', I.unwish, q⟩
  | cont => obtain ⟨σ', H', I, q⟩ := h; exact ⟨σ', H', I.unwish, q⟩
  | ret u => obtain ⟨v, σ', H', I, r, q⟩ := h; exact ⟨v, σ', H', I.unwish, r, q⟩
theorem PSs.nox {st : List Stmt} {t : TS} (h : PSs X.nox st t) : PSs X st t := fun pins s σ H D I hw =>
  wpAny_mono (h pins s σ H D (I.wish _) hw) (fun _ _ q => q.unwish) fun _ _ z => False.elim z
end
section
variable {X : Cx} {st : Stmt} {rest : List Stmt} {t u : TS} {e : Expr} {te : TE} {pos : Pos}
noncomputable def tNext : TS := fun D σ H => D.nx σ H
noncomputable def tSeq (t u : TS) : TS := fun D σ H => t { D with nx := u D } σ H
theorem pss_nil : PSs X [] tNext := fun _ _ σ H _ I h => wpAny_execs_nil ⟨σ, H, I, h⟩
theorem pss_cons (h1 : PS X st t) (h2 : PSs X rest u) : PSs X (st :: rest) (tSeq t u) := by
  intro pins s σ H D I h
  refine wpAny_execs_cons (thn (h1 pins s σ H { D with nx := u D } I h) fun f s1 q => ?_)
  cases f with
  | next =>
    obtain ⟨σ', H', I', q⟩ := q
    exact h2 pins s1 σ' H' D I' q
  | ret v => exact q
  | brk => exact q
  | cont => exact q
theorem pss_one (h1 : PS X st t) : PSs X [st] t := by
  intro pins s σ H D I h
  refine wpAny_execs_cons (thn (h1 pins s σ H D I h) fun f s1 q => ?_)
  cases f with
  | next => exact wpAny_execs_nil q
  | ret v => exact q
  | brk => exact q
  | cont => exact q
theorem Inv.quiet {pins : List (Addr × Obj)} {σ : St} {H : Hp} {s : Shared} (I : Inv X pins σ H s) : interactive X.env = false := by simp [interactive, I.ok.kind]
noncomputable def tDrop (te : TE) : TS := fun D σ H => te σ H fun _ H1 => D.nx σ H1
theorem ps_expr (he : PE X e te) (hs : swapsWith e none pos.line X.env = pure false := by rfl) : PS X (.Expr e pos) (tDrop te) := by
  intro pins s σ H D I h
  exact wpAny_Expr_any (thn (he pins s σ H _ I h) fun v s1 ⟨x, H1, I1, r1, q1⟩ => ⟨σ, H1, I1, q1⟩) I.quiet hs
noncomputable def tRet (te : TE) : TS := fun D σ H => te σ H D.rt
theorem ps_ret (he : PE X e te) : PS X (.Return (some e) pos) (tRet te) := by
  intro pins s σ H D I h
  exact wpAny_Return_some (thn (he pins s σ H _ I h) fun v s1 ⟨x, H1, I1, r1, q1⟩ => ⟨x, σ, H1, I1, r1, q1⟩)
noncomputable def tIfS (c : TT) (t u : TS) : TS := fun D σ H => c σ H fun b H1 => if b = true then t D σ H1 else u D σ H1
theorem ps_if {c : Expr} {a b : List Stmt} {tc : TT} (hc : PT X c tc) (ha : PSs X a t) (hb : PSs X b u) : PS X (.If c a b pos) (tIfS tc t u) := by
  intro pins s σ H D I h
  refine wpAny_If (thn (hc pins s σ H _ I h) fun d s1 ⟨H1, I1, q1⟩ => ?_)
  cases d with
  | true => exact ha pins s1 σ H1 D I1 q1
  | false => exact hb pins s1 σ H1 D I1 q1
noncomputable def tNever : TS := fun _ _ _ => False
theorem pss_never {sts : List Stmt} : PSs X sts tNever := fun _ _ _ _ _ _ h => h.elim
end
noncomputable abbrev TG := V -> St -> Hp -> (St -> Hp -> Prop) -> Prop
noncomputable abbrev TGs := List V -> St -> Hp -> (St -> Hp -> Prop) -> Prop
noncomputable def PG (X : Cx) (target : Expr) (t : TG) : Prop :=
  ∀ (pins : List (Addr × Obj)) (s : Shared) (σ : St) (H : Hp) (v : V) (u : Value) (Q : St -> Hp -> Prop), Inv X pins σ H s -> RelV v u -> t v σ H Q ->
    wpAny (model X.prog X.w) X.A (assign target X.env u) (fun _ s' => ∃ σ' H', Inv X pins σ' H' s' /\ Q σ' H') X.xe s
noncomputable def PGs (X : Cx) (ts : List Expr) (t : TGs) : Prop :=
  ∀ (pins : List (Addr × Obj)) (s : Shared) (σ : St) (H : Hp) (vs : List V) (us : List Value) (Q : St -> Hp -> Prop), Inv X pins σ H s -> Vals vs us -> t vs σ H Q ->
    wpAny (model X.prog X.w) X.A (assignInOrder ((assignEach ts X.env).map (·.2)) us) (fun _ s' => ∃ σ' H', Inv X pins σ' H' s' /\ Q σ' H') X.xe s
noncomputable abbrev TSet := V -> V -> V -> Hp -> (Hp -> Prop) -> Prop
noncomputable def PSet (X : Cx) (t : TSet) : Prop :=
  ∀ (pins : List (Addr × Obj)) (s : Shared) (σ : St) (H : Hp) (o i v : V) (ov iv u : Value) (Q : Hp -> Prop), Inv X pins σ H s -> RelV o ov -> RelV i iv -> RelV v u -> t o i v H Q ->
    wpAny (model X.prog X.w) X.A (setItem ov iv u) (fun _ s' => ∃ H', Inv X pins σ H' s' /\ Q H') X.xe s
section
variable {X : Cx} {pos : Pos}
noncomputable def gName (i : Nat) : TG := fun v σ H Q => Q (σ.set i (some v)) H
theorem pg_name {i : Nat} {x : Str} (hN : X.N.Nodup) (hi : X.N[i]? = some x) (hx : Loc X.env.scope x) (hf : X.fn x = true \/ X.env.scope.names.lookup x = some .local := by first | exact .inl rfl | exact .inr rfl | assumption) : PG X (.Name x pos) (gName i) := by
  intro pins s σ H v u Q I r h
  exact wpAny_assign_Name (store_ok I hN hi hx r (fun s' I' => ⟨_, H, I', h⟩) hf)
noncomputable def gNil : TGs := fun vs σ H Q => vs = [] /\ Q σ H
noncomputable def gCons (t : TG) (u : TGs) : TGs := fun vs σ H Q => ∃ v r, vs = v :: r /\ t v σ H fun σ' H' => u r σ' H' Q
theorem pgs_nil : PGs X [] gNil := by
  intro pins s σ H vs us Q I r h
  obtain ⟨e, h⟩ := h
  subst e
  cases r
  exact assignInOrder_nil ⟨σ, H, I, h⟩
theorem pgs_cons {e : Expr} {es : List Expr} {t : TG} {u : TGs} (h1 : PG X e t) (h2 : PGs X es u)
    (hs : (assignEach (e :: es) X.env).map (·.2) = assign e X.env :: (assignEach es X.env).map (·.2) := by rfl) : PGs X (e :: es) (gCons t u) := by
  intro pins s σ H vs us Q I r h
  obtain ⟨v, vr, e1, h⟩ := h
  subst e1
  cases r with
  | cons r rr =>
    rw [hs]
    refine assignInOrder_cons (thn (h1 pins s σ H _ _ _ I r h) fun _ s1 ⟨σ1, H1, I1, q1⟩ => ?_)
    exact h2 pins s1 σ1 H1 _ _ Q I1 rr q1
noncomputable def gTup (K : PySem.W.Frag) (n : Nat) (t : TGs) : TG := fun v σ H Q => ∃ a xs, v = .ref a /\ SqT K H a xs /\ xs.length = n /\ t xs σ H Q
theorem pg_tup {es : List Expr} {k : Nat} {t : TGs} {n : Nat} (hc : X.calm = true) (h : PGs X es t)
    (hn : (assignEach es X.env).length = n := by rfl) (hst : (assignEach es X.env).findIdx? (·.1) = none := by rfl) : PG X (.Tuple es k pos) (gTup X.K n t) := by
  intro pins s σ H v u Q I r hw
  obtain ⟨a, xs, e1, hq, hl, hw⟩ := hw
  subst e1
  cases r
  obtain ⟨its, rv, ht, hz⟩ := I.tuple hq
  refine assign_Tuple_tuple (I.ok.hd hc) ht (by simp [hn, <- hl, rv.length]) hst fun h' hx => ?_
  have I1 : Inv X pins σ H { s with heap := h' } := I.kept (t' := s.toks) fun b o e => hx b o (Nat.ne_of_lt (Heap.lt_size e)) e
  exact h pins _ σ H xs _ Q I1 (by simpa using rv) hw
noncomputable def gSub (to ti : TE) (t : TSet) : TG := fun v σ H Q => to σ H fun o H1 => ti σ H1 fun i H2 => t o i v H2 fun H3 => Q σ H3
theorem pg_sub {o i : Expr} {to ti : TE} {t : TSet} (ho : PE X o to) (hi : PE X i ti) (hs : PSet X t)
    (ha : ∀ v, assign (.Subscript o i pos) X.env v = (do
      let ov <- holding [v] (eval o X.env)
      let iv <- holding [v, ov] (eval i X.env)
      standAt pos
      holding [v, ov, iv] (setItem ov iv v)
      release [v, ov, iv] []) := by intro _; rfl) : PG X (.Subscript o i pos) (gSub to ti t) := by
  intro pins s σ H v u Q I r h
  rw [ha]
  refine wpAny_bind (wpAny_holding (thn (ho pins s σ H _ I h) fun ov s1 ⟨x, H1, I1, r1, q1⟩ => ?_))
  refine wpAny_bind (wpAny_holding (thn (hi pins s1 σ H1 _ I1 q1) fun iv s2 ⟨y, H2, I2, r2, q2⟩ => ?_))
  refine wpAny_bind (wpAny_standAt (wpAny_bind (wpAny_holding (thn (hs pins s2 σ H2 x y v ov iv u _ I2 r1 r2 r q2) fun _ s3 ⟨H3, I3, q3⟩ => ?_))))
  exact wpAny_release ⟨σ, H3, I3, q3⟩
noncomputable def tAsg (te : TE) (g : TG) : TS := fun D σ H => te σ H fun x H1 => g x σ H1 D.nx
theorem ps_asg {tg e : Expr} {te : TE} {g : TG} (he : PE X e te) (hg : PG X tg g) (hs : swapsWithSole [tg] e pos.line X.env = pure false := by rfl) (hw : swappedStores [tg] e X.env = pure none := by rfl)
    (h1 : (assignEach [tg] X.env).map (·.2) = [assign tg X.env] := by rfl) : PS X (.Assign [tg] e pos) (tAsg te g) := by
  intro pins s σ H D I h
  refine wpAny_Assign_stores (thn (he pins s σ H _ I h) fun v s1 ⟨x, H1, I1, r1, q1⟩ => ?_) hs hw
  rw [h1]
  exact thn (hg pins s1 σ H1 x v _ I1 r1 q1) fun _ s2 q => q
theorem ps_set {i : Nat} {x : Str} {e : Expr} {te : TE} {pos' : Pos} (hN : X.N.Nodup) (hi : X.N[i]? = some x) (hx : Loc X.env.scope x) (he : PE X e te) (hs : swapsWith e (some (.Name x pos')) pos.line X.env = pure false := by rfl) (hf : X.fn x = true \/ X.env.scope.names.lookup x = some .local := by first | exact .inl rfl | exact .inr rfl | assumption) :
    PS X (.Assign [.Name x pos'] e pos) (tAsg te (gName i)) := by
  intro pins s σ H D I h
  refine wpAny_Assign_Name (thn (he pins s σ H _ I h) fun v s1 ⟨y, H1, I1, r1, q1⟩ => ?_) hs
  exact store_ok I1 hN hi hx r1 (fun s2 I2 => ⟨_, H1, I2, q1⟩) hf
end
structure It where
  go : Nat -> Hp -> Prop
  yld : Nat -> Hp -> V -> Hp -> Prop
  stop : Nat -> Hp -> Prop
noncomputable def FpOk (X : Cx) (pins : List (Addr × Obj)) (H : Hp) (b : Addr) : Prop :=
  H b = none /\ b ≠ X.env.locals /\ b ∉ X.fs /\ (b ∈ X.ex \/ X.s₀.heap.objs.size <= b) /\ (∀ x c, X.env.cells.lookup x = some c -> c ≠ b) /\ ∀ p ∈ X.pn ++ pins, p.1 ≠ b
theorem Inv.fpOk {X : Cx} {pins : List (Addr × Obj)} {σ : St} {H H' : Hp} {s : Shared} {b : Addr} (I : Inv X pins σ H s) (hb : s.heap.objs.size <= b) (hn : H' b = none) : FpOk X pins H' b := by
  refine ⟨hn, Nat.ne_of_gt (Nat.lt_of_lt_of_le I.lt hb), I.nofs hb, .inr (Nat.le_trans I.sz hb), fun x c e z => ?_, fun p hp z => ?_⟩
  · obtain ⟨v, q⟩ := I.cell x c e
    exact absurd (Nat.lt_of_lt_of_le q.lt (by rw [z]; exact hb)) (Nat.lt_irrefl _)
  · exact absurd (Nat.lt_of_lt_of_le (Heap.lt_size (I.pin p hp).1) (by rw [z]; exact hb)) (Nat.lt_irrefl _)
structure Turn (P : Program) (w : World) (K : PySem.W.Frag) (tg : Expr) (J : It) (fp : List Addr) (it : Addr) (tn : Nat -> Heap -> Prop) : Prop where
  mem : it ∈ fp
  obj : ∀ i h, tn i h -> ∀ b ∈ fp, ∃ o, h.get? b = some o /\ ∀ v, o.data ≠ .cell v
  keep : ∀ i h h', tn i h -> (∀ b ∈ fp, ∀ o, h.get? b = some o -> h'.get? b = some o) -> tn i h'
  item : ∀ (X : Cx), X.prog = P -> X.w = w -> X.K = K -> X.calm = true -> ∀ (i : Nat) (pins : List (Addr × Obj)) (s : Shared) (σ : St) (H : Hp) (E : Value -> Shared -> Prop), Inv X pins σ H s -> (∀ b ∈ fp, FpOk X pins H b) -> tn i s.heap -> J.go i H ->
    wpAny (model P w) X.A (pyNext (.ref it)) (fun r s1 => ∃ u, r = some u /\
      wpAny (model P w) X.A (letOwnedTupleGo tg (.ref it) u) (fun _ s2 => ∃ x H', Inv X pins σ H' s2 /\ RelV x u /\ J.yld i H x H' /\ tn (i + 1) s2.heap /\ ∀ b ∈ fp, H' b = none) E s1) E s
  done : ∀ (X : Cx), X.prog = P -> X.w = w -> X.K = K -> X.calm = true -> ∀ (i : Nat) (pins : List (Addr × Obj)) (s : Shared) (σ : St) (H : Hp) (E : Value -> Shared -> Prop), Inv X pins σ H s -> (∀ b ∈ fp, FpOk X pins H b) -> tn i s.heap -> J.stop i H ->
    wpAny (model P w) X.A (pyNext (.ref it)) (fun r s1 => r = none /\ Inv X pins σ H s1) E s
  self : ∀ (A : Around) (i : Nat) (s : Shared) (Q : Value -> Shared -> Prop) (E : Value -> Shared -> Prop), tn i s.heap -> Q (.ref it) s -> wpAny (model P w) A (pyIter (.ref it)) Q E s
noncomputable abbrev TI := St -> Hp -> (It -> Hp -> Prop) -> Prop
noncomputable def PIE (X : Cx) (pins : List (Addr × Obj)) (σ : St) (tg : Expr) (R : It -> Hp -> Prop) (itv : Value) (s2 : Shared) : Prop :=
  ∃ (it : Addr) (fp : List Addr) (tn : Nat -> Heap -> Prop) (J : It) (H' : Hp), itv = .ref it /\ Inv X pins σ H' s2 /\ Turn X.prog X.w X.K tg J fp it tn /\ tn 0 s2.heap /\ (∀ b ∈ fp, FpOk X pins H' b) /\ R J H'
noncomputable def PI (X : Cx) (tg iter : Expr) (wi : TI) : Prop :=
  ∀ (pins : List (Addr × Obj)) (s : Shared) (σ : St) (H : Hp) (R : It -> Hp -> Prop), Inv X pins σ H s -> wi σ H R ->
    wpAny (model X.prog X.w) X.A (eval iter X.env) (fun v s1 => wpAny (model X.prog X.w) X.A (pyIter v) (PIE X pins σ tg R) X.xe s1) X.xe s
theorem go_of {M : Model} {A : Around} {E : Value -> Shared -> Prop} {s : Shared} {tg : Expr} {it : Addr} {u : Value} {o : Obj} {n : String} {vs : Array Value} {Q : Unit -> Shared -> Prop} (ho : s.heap.get? it = some o) (hc : o.cls = .type n) (hd : o.data = .fields vs)
    (hn : ["enumerate", "zip", "dict_itemiterator", "dict_reverseitemiterator", "odict_iterator", "itertools.zip_longest", "itertools.pairwise"].contains n = false) (hQ : Q () s) : wpAny M A (letOwnedTupleGo tg (.ref it) u) Q E s := by
  unfold letOwnedTupleGo
  cases tg <;> first
    | exact wpAny_pure hQ
    | (cases u <;> first
        | exact wpAny_pure hQ
        | (refine wpAny_bind (wpAny_load ho ?_)
           rw [hc, hd]
           show wpAny M A (if (["enumerate", "zip", "dict_itemiterator", "dict_reverseitemiterator", "odict_iterator", "itertools.zip_longest", "itertools.pairwise"].contains n && vs[0]? == some (rawInt _)) = true then _ else _) Q E s
           rw [if_neg (by intro h; rw [hn, Bool.false_and] at h; cases h)]
           exact wpAny_pure hQ))
noncomputable def Itl (K : PySem.W.Frag) (a : Addr) : It :=
  ⟨fun i H => ∃ xs x, SqL K H a xs /\ xs[i]? = some x, fun i H x H' => H' = H /\ ∀ xs, SqL K H a xs -> xs[i]? = some x, fun i H => ∃ xs, SqL K H a xs /\ xs.length <= i⟩
noncomputable def Itt (K : PySem.W.Frag) (a : Addr) : It :=
  ⟨fun i H => ∃ xs x, SqT K H a xs /\ xs[i]? = some x, fun i H x H' => H' = H /\ ∀ xs, SqT K H a xs -> xs[i]? = some x, fun i H => ∃ xs, SqT K H a xs /\ xs.length <= i⟩
noncomputable def Itr (lo : Int) (n : Nat) : It := ⟨fun i _ => i < n, fun i H x H' => H' = H /\ x = .int (lo + i), fun i _ => n <= i⟩
theorem turn_list {P : Program} {w : World} {K : PySem.W.Frag} {tg : Expr} (a it : Addr) : Turn P w K tg (Itl K a) [it] it (fun i h => h.IsListIter it a i) where
  mem := by simp
  obj := fun i h st b hb => by
    have e : b = it := by simpa using hb
    subst e
    obtain ⟨o, e, c, d⟩ := st
    exact ⟨o, e, fun v z => by rw [d] at z; cases z⟩
  keep := fun i h h' st k => st.at fun o e => k it (by simp) o e
  item := by
    intro X hP hw hK hc i pins s σ H E I hf st hg
    subst hP hw hK
    obtain ⟨xs, x, hq, hx⟩ := hg
    obtain ⟨its, rv, p, hz⟩ := I.list hq
    obtain ⟨u, hu, ru⟩ := rv.get hx
    obtain ⟨f0, f1, f2, f3, f4, f5⟩ := hf it (by simp)
    refine wpAny_pyNext_list_item st p.isList (x := u) (by simpa using hu) fun h' st' sb => ?_
    have I1 : Inv X pins σ H { s with heap := h' } := I.turned (t' := s.toks) (fun b o hb e => (sb.2 b hb).trans e) f0 f1 f3 f4 f5
    obtain ⟨o, e, c, d⟩ := id st'
    exact ⟨u, rfl, go_of (s := { s with heap := h' }) e c d (by decide) ⟨x, H, I1, ru, ⟨rfl, fun ys hy => by rw [I.list_inj hy hq]; exact hx⟩, st', fun b hb => (hf b hb).1⟩⟩
  done := by
    intro X hP hw hK hc i pins s σ H E I hf st hg
    subst hP hw hK
    obtain ⟨xs, hq, hx⟩ := hg
    obtain ⟨its, rv, p, hz⟩ := I.list hq
    obtain ⟨f0, f1, f2, f3, f4, f5⟩ := hf it (by simp)
    have hl := rv.length
    exact wpAny_pyNext_list_end (I.ok.hd hc) st p.isList (by simp; omega) fun h' eb => ⟨rfl, I.turned (t' := s.toks) (fun b o hb e => eb b o hb e) f0 f1 f3 f4 f5⟩
  self := fun _ _ _ _ _ st h => wpAny_pyIter_listiter st h
theorem turn_tuple {P : Program} {w : World} {K : PySem.W.Frag} {tg : Expr} (a it : Addr) : Turn P w K tg (Itt K a) [it] it (fun i h => h.IsTupleIter it a i) where
  mem := by simp
  obj := fun i h st b hb => by
    have e : b = it := by simpa using hb
    subst e
    obtain ⟨o, e, c, d⟩ := st
    exact ⟨o, e, fun v z => by rw [d] at z; cases z⟩
  keep := fun i h h' st k => st.at fun o e => k it (by simp) o e
  item := by
    intro X hP hw hK hc i pins s σ H E I hf st hg
    subst hP hw hK
    obtain ⟨xs, x, hq, hx⟩ := hg
    obtain ⟨its, rv, p, hz⟩ := I.tuple hq
    obtain ⟨u, hu, ru⟩ := rv.get hx
    obtain ⟨f0, f1, f2, f3, f4, f5⟩ := hf it (by simp)
    refine wpAny_pyNext_tuple_item st (show s.heap.IsTuple a its.toArray from p) (x := u) (by simpa using hu) fun h' st' sb => ?_
    have I1 : Inv X pins σ H { s with heap := h' } := I.turned (t' := s.toks) (fun b o hb e => (sb.2 b hb).trans e) f0 f1 f3 f4 f5
    obtain ⟨o, e, c, d⟩ := id st'
    exact ⟨u, rfl, go_of (s := { s with heap := h' }) e c d (by decide) ⟨x, H, I1, ru, ⟨rfl, fun ys hy => by rw [I.tuple_inj hy hq]; exact hx⟩, st', fun b hb => (hf b hb).1⟩⟩
  done := by
    intro X hP hw hK hc i pins s σ H E I hf st hg
    subst hP hw hK
    obtain ⟨xs, hq, hx⟩ := hg
    obtain ⟨its, rv, p, hz⟩ := I.tuple hq
    obtain ⟨f0, f1, f2, f3, f4, f5⟩ := hf it (by simp)
    have hl := rv.length
    exact wpAny_pyNext_tuple_end (I.ok.hd hc) st (show s.heap.IsTuple a its.toArray from p) (by simp; omega) fun h' eb => ⟨rfl, I.turned (t' := s.toks) (fun b o hb e => eb b o hb e) f0 f1 f3 f4 f5⟩
  self := fun _ _ _ _ _ st h => wpAny_pyIter_tupleiter st h
theorem turn_range {P : Program} {w : World} {K : PySem.W.Frag} {tg : Expr} (it : Addr) (lo : Int) (n : Nat) : Turn P w K tg (Itr lo n) [it] it (fun i h => IsRangeIter h it (lo + (i : Nat) * 1) ((n : Int) - (i : Nat)) 1) where
  mem := by simp
  obj := fun i h st b hb => by
    have e : b = it := by simpa using hb
    subst e
    exact ⟨_, st, fun v z => by
      have z' : Data.fields _ = Data.cell v := z
      cases z'⟩
  keep := fun i h h' st k => k it (by simp) _ st
  item := by
    intro X hP hw hK hc i pins s σ H E I hf st hg
    subst hP hw hK
    obtain ⟨f0, f1, f2, f3, f4, f5⟩ := hf it (by simp)
    have W := Walks.range (prog := X.prog) (w := X.w) (I.ok.hd hc) it lo 1 n
    refine W.item i s _ _ hg st fun v h' tk hv st' kk => ?_
    obtain ⟨t, rfl⟩ := hv
    have I1 : Inv X pins σ H { s with heap := h', toks := tk } := I.turned (fun b o hb e => kk b o (by simpa using hb) e) f0 f1 f3 f4 f5
    refine ⟨_, rfl, go_of (s := { s with heap := h', toks := tk }) (n := "range_iterator") st' rfl rfl (by decide) ⟨.int (lo + i), H, I1, ⟨t, ?_⟩, ⟨rfl, rfl⟩, st', fun b hb => (hf b hb).1⟩⟩
    rw [Int.mul_one]
  done := by
    intro X hP hw hK hc i pins s σ H E I hf st hg
    subst hP hw hK
    obtain ⟨f0, f1, f2, f3, f4, f5⟩ := hf it (by simp)
    exact wpAny_pyNext_range_end (I.ok.hd hc) st (by have : n <= i := hg; omega) fun h' eb => ⟨rfl, I.turned (t' := s.toks) (fun b o hb e => eb b o hb e) f0 f1 f3 f4 f5⟩
  self := fun _ _ _ _ _ st h => wpAny_pyIter_rangeiter st h
end L2
namespace L2
open PySem PySem.Spec PyProof.Rows
section
variable {X : Cx} {tg : Expr}
noncomputable def iList (K : PySem.W.Frag) (tl : TE) : TI := fun σ H R => tl σ H fun x H1 => ∃ a, x = .ref a /\ (∃ xs, SqL K H1 a xs) /\ R (Itl K a) H1
theorem pi_list {l : Expr} {tl : TE} (hl : PE X l tl) : PI X tg l (iList X.K tl) := by
  intro pins s σ H R I h
  refine thn (hl pins s σ H _ I h) fun v s1 ⟨x, H1, I1, r1, q1⟩ => ?_
  obtain ⟨a, e, ⟨xs, hq⟩, q⟩ := q1
  subst e
  cases r1
  obtain ⟨its, rv, p, hz⟩ := I1.list hq
  refine wpAny_pyIter_list p.isList ?_
  refine ⟨s1.heap.objs.size, [s1.heap.objs.size], _, _, H1, rfl, I1.kept (t' := s1.toks) fun b o e => Heap.get?_push_of_some _ e, turn_list a _, ⟨_, Heap.get?_push_size _ rfl, rfl, rfl⟩, fun b hb => ?_, q⟩
  have e : b = s1.heap.objs.size := by simpa using hb
  subst e
  exact I1.fpOk (Nat.le_refl _) (I1.hok.fresh (Nat.le_refl _))
theorem range_it {pins : List (Addr × Obj)} {σ : St} {H : Hp} {s : Shared} {R : It -> Hp -> Prop} {E : Value -> Shared -> Prop} {lo hi : Int} {t u v : Tok} {tk : Nat} (I : Inv X pins σ H s) (h1 : -(2 ^ 62) <= lo) (h2 : lo < 2 ^ 62) (h3 : -(2 ^ 62) <= hi) (h4 : hi < 2 ^ 62)
    (q : R (Itr lo (hi - lo).toNat) H) : wpAny (model X.prog X.w) X.A (pyIter (.ref s.heap.objs.size)) (PIE X pins σ tg R) E { s with heap := s.heap.push { cls := .type "range", data := .fields #[.int lo t, .int hi u, .int 1 v] }, toks := tk } := by
  refine wpAny_pyIter_range (IsRange.new ..) (small_one h1 h2 h3 h4) ?_
  have I1 : Inv X pins σ H { s with heap := s.heap.push { cls := .type "range", data := .fields #[.int lo t, .int hi u, .int 1 v] }, toks := tk } := I.kept fun b o e => Heap.get?_push_of_some _ e
  refine ⟨(s.heap.push { cls := .type "range", data := .fields #[.int lo t, .int hi u, .int 1 v] }).objs.size, [(s.heap.push { cls := .type "range", data := .fields #[.int lo t, .int hi u, .int 1 v] }).objs.size], _, _, H, rfl,
    I1.kept (t' := tk) fun b o e => Heap.get?_push_of_some _ e, turn_range _ lo (hi - lo).toNat, ?_, fun b hb => ?_, q⟩
  · have e1 : lo + ((0 : Nat) : Int) * 1 = lo := by simp
    have e2 : (((hi - lo).toNat : Nat) : Int) - ((0 : Nat) : Int) = Builtin.Range.rangeSize lo hi 1 := by rw [rangeSize_one]; split <;> omega
    show IsRangeIter _ _ (lo + ((0 : Nat) : Int) * 1) ((((hi - lo).toNat : Nat) : Int) - ((0 : Nat) : Int)) 1
    rw [e1, e2]
    exact Heap.get?_push_size _ rfl
  · have e : b = (s.heap.push { cls := .type "range", data := .fields #[.int lo t, .int hi u, .int 1 v] }).objs.size := by simpa using hb
    subst e
    exact I1.fpOk (Nat.le_refl _) (I1.hok.fresh (Nat.le_refl _))
noncomputable def iRng1 (ta : TA) : TI := fun σ H R => ta σ H fun vs H1 => ∃ j : Int, vs = [.int j] /\ -(2 ^ 62) <= j /\ j < 2 ^ 62 /\ R (Itr 0 j.toNat) H1
theorem pi_range1 {a : Expr} {ta : TA} {p pos : Pos} (hg : Gl X "range") (hm : X.mg "range" = none) (ha : PA X [a] ta) (hs : starEach [a] X.env = [(false, eval a X.env)] := by rfl) : PI X tg (.Call (.Name "range" p) [a] [] pos) (iRng1 ta) := by
  intro pins s σ H R I h
  refine Call_ (ld_blt I hg hm boot_range (PyProof.Rows.callWith_type1 (thn (ha pos pins s σ H _ I h) fun us s1 ⟨vs, H1, I1, r1, q1⟩ => ?_) hs rfl))
  obtain ⟨j, e, q1, q2, q⟩ := q1
  subst e
  cases r1 with
  | cons r rr =>
    cases rr
    obtain ⟨t, rfl⟩ := r
    exact call_range_1 (range_it I1 (by omega) (by omega) q1 q2 (by simpa using q))
noncomputable def tFor (wi : TI) (g : TG) (tb : TS) : TS := fun D σ H => wi σ H fun J H1 => ∃ W : Nat -> Nat -> St -> Hp -> Prop, (∃ m, W 0 m σ H1) /\ ∀ i m σ H, W i m σ H ->
  (J.stop i H /\ D.nx σ H) \/ (J.go i H /\ ∃ N : St -> Hp -> Prop, (∀ σ' H', N σ' H' -> ∃ m', m' < m /\ W (i + 1) m' σ' H') /\ ∀ x H', J.yld i H x H' -> g x σ H' fun σ2 H2 => tb { D with nx := N, ct := N, bk := D.nx } σ2 H2)
noncomputable def pinsAt (fp : List Addr) (h : Heap) : List (Addr × Obj) := fp.filterMap fun b => (h.get? b).map fun o => (b, o)
theorem mem_pinsAt {fp : List Addr} {h : Heap} {b : Addr} {o : Obj} (hb : b ∈ fp) (e : h.get? b = some o) : (b, o) ∈ pinsAt fp h := List.mem_filterMap.mpr ⟨b, hb, by rw [e]; rfl⟩
theorem of_pinsAt {fp : List Addr} {h : Heap} {p : Addr × Obj} (hp : p ∈ pinsAt fp h) : p.1 ∈ fp /\ h.get? p.1 = some p.2 := by
  obtain ⟨b, hb, e⟩ := List.mem_filterMap.mp hp
  cases q : h.get? b with
  | none => rw [q] at e; cases e
  | some o =>
    rw [q] at e
    have e' : (b, o) = p := Option.some.inj e
    subst e'
    exact ⟨hb, q⟩
theorem Inv.pinned {pins : List (Addr × Obj)} {σ : St} {H : Hp} {s : Shared} {fp : List Addr} (I : Inv X pins σ H s) (hf : ∀ b ∈ fp, FpOk X pins H b) (ho : ∀ b ∈ fp, ∃ o, s.heap.get? b = some o /\ ∀ v, o.data ≠ .cell v) : Inv X (pins ++ pinsAt fp s.heap) σ H s :=
  I.pins_of fun p hp => (List.mem_append.mp hp).elim (fun z => I.pin p (List.mem_append_right _ z)) fun z => by
    obtain ⟨hb, e⟩ := of_pinsAt z
    obtain ⟨f0, f1, f2, _⟩ := hf p.1 hb
    obtain ⟨o, e', d⟩ := ho p.1 hb
    rw [e] at e'; cases e'
    exact ⟨e, f0, f1, f2, d⟩
theorem Inv.unpinned {pins pl : List (Addr × Obj)} {σ : St} {H : Hp} {s : Shared} (I : Inv X (pins ++ pl) σ H s) : Inv X pins σ H s := I.pins_of fun p hp => I.pin p (List.mem_append_right _ (List.mem_append_left _ hp))
theorem ps_for {iter : Expr} {body : List Stmt} {wi : TI} {g : TG} {tb : TS} {pos : Pos} (hp : PassesOwn (model X.prog X.w) X.A X.env X.xe) (hc : X.calm = true) (hi : PI X tg iter wi) (hg : PG X tg g) (hb : PSs X body tb)
    (hs : ∀ x, foldedSetIterable iter X.env x = pure x := by intro _; rfl) : PS X (.For tg iter body [] pos) (tFor wi g tb) := by
  intro pins s σ H D I h
  refine wpAny_For (thn (hi pins s σ H _ I h) fun v s1 h1 => thn h1 fun itv s2 h2 => ?_) hs
  obtain ⟨it, fp, tn, J, H2, e, I2, T, st2, f2, W, ⟨m0, w0⟩, turn⟩ := h2
  subst e
  have stat : ∀ {H' : Hp}, (∀ b ∈ fp, H' b = none) -> ∀ b ∈ fp, FpOk X pins H' b := fun hn b hb => ⟨hn b hb, (f2 b hb).2⟩
  refine codeAny_forLoop_any (fun n s' => ∃ i σ' H', Inv X pins σ' H' s' /\ tn i s'.heap /\ (∀ b ∈ fp, H' b = none) /\ W i n σ' H') ?_ m0 ⟨0, σ, H2, I2, st2, fun b hb => (f2 b hb).1, w0⟩
  rintro n s3 ⟨i, σ3, H3, I3, st3, fr3, w3⟩
  rcases turn i n σ3 H3 w3 with ⟨stop, qn⟩ | ⟨go, N, hN, step⟩
  · refine wpAny_passesOwn hp (thn (T.done X rfl rfl rfl hc i pins s3 σ3 H3 X.xe I3 (stat fr3) st3 stop) fun r s4 ⟨hr, I4⟩ => ?_)
    subst hr
    exact wpAny_execs_nil ⟨σ3, H3, I4, qn⟩
  · refine wpAny_passesOwn hp (thn (T.item X rfl rfl rfl hc i pins s3 σ3 H3 X.xe I3 (stat fr3) st3 go) fun r s4 ⟨u, hr, h4⟩ => ?_)
    subst hr
    refine wpAny_passesOwn hp (thn h4 fun _ s5 ⟨x, H5, I5, r5, y5, st5, fr5⟩ => ?_)
    have I5' := I5.pinned (stat fr5) (T.obj _ _ st5)
    refine wpAny_passesOwn hp (thn (hg _ s5 σ3 H5 x u _ I5' r5 (step x H5 y5)) fun _ s6 ⟨σ6, H6, I6, q6⟩ => ?_)
    refine wpAny_passesOwn hp (thn (hb _ s6 σ6 H6 _ I6 q6) fun f s7 q7 => ?_)
    have again : ∀ {σ7 : St} {H7 : Hp}, Inv X (pins ++ pinsAt fp s5.heap) σ7 H7 s7 -> N σ7 H7 -> ∃ m, m < n /\ ∃ i σ' H', Inv X pins σ' H' s7 /\ tn i s7.heap /\ (∀ b ∈ fp, H' b = none) /\ W i m σ' H' := fun {σ7 H7} I7 n7 => by
      obtain ⟨m', hm, w7⟩ := hN σ7 H7 n7
      refine ⟨m', hm, i + 1, σ7, H7, I7.unpinned, T.keep _ _ _ st5 fun b hb o e => (I7.pin (b, o) (List.mem_append_right _ (List.mem_append_right _ (mem_pinsAt hb e)))).1, fun b hb => ?_, w7⟩
      obtain ⟨o, e, d⟩ := T.obj _ _ st5 b hb
      exact (I7.pin (b, o) (List.mem_append_right _ (List.mem_append_right _ (mem_pinsAt hb e)))).2.1
    cases f with
    | next => obtain ⟨σ7, H7, I7, n7⟩ := q7; exact again I7 n7
    | cont => obtain ⟨σ7, H7, I7, n7⟩ := q7; exact again I7 n7
    | brk => obtain ⟨σ7, H7, I7, q7⟩ := q7; exact ⟨σ7, H7, I7.unpinned, q7⟩
    | ret v => obtain ⟨x7, σ7, H7, I7, r7, q7⟩ := q7; exact ⟨x7, σ7, H7, I7.unpinned, r7, q7⟩
end
theorem for_list {K : PySem.W.Frag} {a : Addr} {xs : List V} {g : TG} {tb : TS} {D : Ends} {σ : St} {H : Hp} (Pv : Nat -> St -> Hp -> Prop) (h0 : Pv 0 σ H) (hl : ∀ i σ H, i <= xs.length -> Pv i σ H -> SqL K H a xs)
    (hs : ∀ i x σ H, xs[i]? = some x -> Pv i σ H -> g x σ H fun σ2 H2 => tb { D with nx := Pv (i + 1), ct := Pv (i + 1), bk := D.nx } σ2 H2) (hd : ∀ σ H, Pv xs.length σ H -> D.nx σ H) :
    ∃ W : Nat -> Nat -> St -> Hp -> Prop, (∃ m, W 0 m σ H) /\ ∀ i m σ H, W i m σ H ->
      ((Itl K a).stop i H /\ D.nx σ H) \/ ((Itl K a).go i H /\ ∃ N : St -> Hp -> Prop, (∀ σ' H', N σ' H' -> ∃ m', m' < m /\ W (i + 1) m' σ' H') /\ ∀ x H', (Itl K a).yld i H x H' -> g x σ H' fun σ2 H2 => tb { D with nx := N, ct := N, bk := D.nx } σ2 H2) := by
  refine ⟨fun i m σ H => m = xs.length - i /\ i <= xs.length /\ Pv i σ H, ⟨xs.length, by simp, Nat.zero_le _, h0⟩, ?_⟩
  rintro i m σ H ⟨rfl, hi, p⟩
  have q := hl i σ H hi p
  by_cases hlt : i < xs.length
  · refine .inr ⟨⟨xs, xs[i], q, by simp [hlt]⟩, Pv (i + 1), fun σ' H' p' => ⟨xs.length - (i + 1), by omega, rfl, hlt, p'⟩, fun x H' y => ?_⟩
    obtain ⟨e, y⟩ := y
    subst e
    exact hs i x σ _ (y xs q) p
  · have e : i = xs.length := by omega
    subst e
    exact .inl ⟨⟨xs, q, Nat.le_refl _⟩, hd σ H p⟩
theorem for_range {lo : Int} {n : Nat} {g : TG} {tb : TS} {D : Ends} {σ : St} {H : Hp} (Pv : Nat -> St -> Hp -> Prop) (h0 : Pv 0 σ H)
    (hs : ∀ i σ H, i < n -> Pv i σ H -> g (.int (lo + i)) σ H fun σ2 H2 => tb { D with nx := Pv (i + 1), ct := Pv (i + 1), bk := D.nx } σ2 H2) (hd : ∀ σ H, Pv n σ H -> D.nx σ H) :
    ∃ W : Nat -> Nat -> St -> Hp -> Prop, (∃ m, W 0 m σ H) /\ ∀ i m σ H, W i m σ H ->
      ((Itr lo n).stop i H /\ D.nx σ H) \/ ((Itr lo n).go i H /\ ∃ N : St -> Hp -> Prop, (∀ σ' H', N σ' H' -> ∃ m', m' < m /\ W (i + 1) m' σ' H') /\ ∀ x H', (Itr lo n).yld i H x H' -> g x σ H' fun σ2 H2 => tb { D with nx := N, ct := N, bk := D.nx } σ2 H2) := by
  refine ⟨fun i m σ H => m = n - i /\ i <= n /\ Pv i σ H, ⟨n, by simp, Nat.zero_le _, h0⟩, ?_⟩
  rintro i m σ H ⟨rfl, hi, p⟩
  by_cases hlt : i < n
  · refine .inr ⟨hlt, Pv (i + 1), fun σ' H' p' => ⟨n - (i + 1), by omega, rfl, hlt, p'⟩, fun x H' y => ?_⟩
    obtain ⟨e, y⟩ := y
    subst e y
    exact hs i σ _ hlt p
  · have e : i = n := by omega
    subst e
    exact .inl ⟨Nat.le_refl _, hd σ H p⟩
end L2
namespace L2
open PySem PySem.Spec PyProof.Rows
noncomputable abbrev R2 := V -> V -> Hp -> VK -> Prop
noncomputable def OpR (X : Cx) (f : Value -> Value -> Sem Value) (r : R2) : Prop :=
  ∀ (pins : List (Addr × Obj)) (s : Shared) (σ : St) (H : Hp) (x y : V) (v u : Value) (Q : VK), Inv X pins σ H s -> RelV x v -> RelV y u -> r x y H Q ->
    wpAny (model X.prog X.w) X.A (f v u) (EP X pins σ Q) X.xe s
noncomputable def UnR (X : Cx) (f : Value -> Sem Value) (r : V -> Hp -> VK -> Prop) : Prop :=
  ∀ (pins : List (Addr × Obj)) (s : Shared) (σ : St) (H : Hp) (x : V) (v : Value) (Q : VK), Inv X pins σ H s -> RelV x v -> r x H Q ->
    wpAny (model X.prog X.w) X.A (f v) (EP X pins σ Q) X.xe s
noncomputable def CallR (X : Cx) (f : Value) (r : List V -> Hp -> VK -> Prop) : Prop :=
  ∀ (pins : List (Addr × Obj)) (s : Shared) (σ : St) (H : Hp) (xs : List V) (us : List Value) (Q : VK), Inv X pins σ H s -> Vals xs us -> r xs H Q ->
    wpAny (model X.prog X.w) X.A (call f us) (EP X pins σ Q) X.xe s
noncomputable def TruR (X : Cx) (r : V -> Hp -> (Bool -> Hp -> Prop) -> Prop) : Prop :=
  ∀ (pins : List (Addr × Obj)) (s : Shared) (σ : St) (H : Hp) (x : V) (v : Value) (Q : Bool -> Hp -> Prop), Inv X pins σ H s -> RelV x v -> r x H Q ->
    wpAny (model X.prog X.w) X.A (truthy v) (TP X pins σ Q) X.xe s
noncomputable def tOp (r : R2) (ta tb : TE) : TE := fun σ H Q => ta σ H fun x H1 => tb σ H1 fun y H2 => r x y H2 Q
noncomputable def tUn (r : V -> Hp -> VK -> Prop) (ta : TE) : TE := fun σ H Q => ta σ H fun x H1 => r x H1 Q
noncomputable def rI (C : Int -> Int -> Prop) (g : Int -> Int -> V) : R2 := fun x y H Q => ∃ i j, x = .int i /\ y = .int j /\ C i j /\ Q (g i j) H
noncomputable def rI0 (g : Int -> Int -> V) : R2 := fun x y H Q => ∃ i j, x = .int i /\ y = .int j /\ Q (g i j) H
noncomputable def rU (g : Int -> V) : V -> Hp -> VK -> Prop := fun x H Q => ∃ i, x = .int i /\ Q (g i) H
section
variable {X : Cx} {a b c : Expr} {ta tb tc : TE} {pos : Pos}
theorem binT (ha : PE X a ta) (hb : PE X b tb) {pins : List (Addr × Obj)} {s : Shared} {σ : St} {H : Hp} {R : V -> V -> Hp -> Prop} (I : Inv X pins σ H s)
    (h : ta σ H fun x H1 => tb σ H1 fun y H2 => R x y H2) {Q : Value -> Shared -> Prop} {f : Value -> Value -> Sem Value}
    (hf : ∀ v u s2 x y H2, Inv X pins σ H2 s2 -> RelV x v -> RelV y u -> R x y H2 -> wpAny (model X.prog X.w) X.A (f v u) Q X.xe s2) :
    wpAny (model X.prog X.w) X.A (eval a X.env) (fun v s₁ => wpAny (model X.prog X.w) X.A (eval b X.env) (fun u s₂ => wpAny (model X.prog X.w) X.A (f v u) Q X.xe s₂) X.xe s₁) X.xe s := by
  refine thn (ha pins s σ H _ I h) fun v s1 ⟨x, H1, I1, r1, q1⟩ => ?_
  refine thn (hb pins s1 σ H1 _ I1 q1) fun u s2 ⟨y, H2, I2, r2, q2⟩ => ?_
  exact hf v u s2 x y H2 I2 r1 r2 q2
theorem pe_op {op : Operator} {r : R2} (ho : OpR X (binaryOp op) r) (ha : PE X a ta) (hb : PE X b tb) : PE X (.BinOp a op b pos) (tOp r ta tb) := by
  intro pins s σ H Q I h
  exact wpAny_BinOp (binT ha hb I h fun v u s2 x y H2 I2 rx ry q => ho pins s2 σ H2 x y v u Q I2 rx ry q)
theorem pe_un {op : UnaryOp} {r : V -> Hp -> VK -> Prop} (ho : UnR X (unaryOp op) r) (ha : PE X a ta) : PE X (.UnaryOp op a pos) (tUn r ta) := by
  intro pins s σ H Q I h
  exact UnaryOp_ (thn (ha pins s σ H _ I h) fun v s1 ⟨x, H1, I1, r1, q1⟩ => ho pins s1 σ H1 x v Q I1 r1 q1)
theorem opI {f : Value -> Value -> Sem Value} {C : Int -> Int -> Prop} {g : Int -> Int -> Int}
    (rule : ∀ (i j : Int) (t u : Tok) (s : Shared) (Q : Value -> Shared -> Prop) (E : Value -> Shared -> Prop), C i j -> Q (.int (g i j) s.toks) { s with toks := s.toks + 1 } -> wpAny (model X.prog X.w) X.A (f (.int i t) (.int j u)) Q E s) :
    OpR X f (rI C fun i j => .int (g i j)) := by
  intro pins s σ H x y v u Q I rx ry h
  obtain ⟨i, j, rfl, rfl, hc, q⟩ := h
  obtain ⟨t, rfl⟩ := rx
  obtain ⟨t', rfl⟩ := ry
  exact rule i j t t' s _ _ hc ⟨.int (g i j), H, I.tok _, ⟨_, rfl⟩, q⟩
theorem opI0 {f : Value -> Value -> Sem Value} {g : Int -> Int -> Int}
    (rule : ∀ (i j : Int) (t u : Tok) (s : Shared) (Q : Value -> Shared -> Prop) (E : Value -> Shared -> Prop), Q (.int (g i j) s.toks) { s with toks := s.toks + 1 } -> wpAny (model X.prog X.w) X.A (f (.int i t) (.int j u)) Q E s) :
    OpR X f (rI0 fun i j => .int (g i j)) := by
  intro pins s σ H x y v u Q I rx ry h
  obtain ⟨i, j, rfl, rfl, q⟩ := h
  obtain ⟨t, rfl⟩ := rx
  obtain ⟨t', rfl⟩ := ry
  exact rule i j t t' s _ _ ⟨.int (g i j), H, I.tok _, ⟨_, rfl⟩, q⟩
theorem opB0 {f : Value -> Value -> Sem Value} {g : Int -> Int -> Bool}
    (rule : ∀ (i j : Int) (t u : Tok) (s : Shared) (Q : Value -> Shared -> Prop) (E : Value -> Shared -> Prop), Q (.bool (g i j)) s -> wpAny (model X.prog X.w) X.A (f (.int i t) (.int j u)) Q E s) :
    OpR X f (rI0 fun i j => .bl (g i j)) := by
  intro pins s σ H x y v u Q I rx ry h
  obtain ⟨i, j, rfl, rfl, q⟩ := h
  obtain ⟨t, rfl⟩ := rx
  obtain ⟨t', rfl⟩ := ry
  exact rule i j t t' s _ _ ⟨.bl (g i j), H, I, rfl, q⟩
noncomputable def CPow (i j : Int) : Prop := 0 <= j /\ j <= 1000000 /\ i.natAbs < 2 ^ 64
theorem op_add : OpR X (binaryOp .Add) (rI0 fun i j => .int (i + j)) := opI0 fun _ _ _ _ _ _ _ q => add_int q
theorem op_modN : OpR X (binaryOp .Mod) (rI (fun _ j => j ≠ 0) fun i j => .int (i.fmod j)) := opI fun _ _ _ _ _ _ _ hc q => mod_int' hc q
theorem op_pow : OpR X (binaryOp .Pow) (rI CPow fun i j => .int (i ^ j.toNat)) := opI fun _ _ _ _ _ _ _ hc q => pow_int_small hc.1 hc.2.1 hc.2.2 q
theorem unI {f : Value -> Sem Value} {g : Int -> Int}
    (rule : ∀ (i : Int) (t : Tok) (s : Shared) (Q : Value -> Shared -> Prop) (E : Value -> Shared -> Prop), Q (.int (g i) s.toks) { s with toks := s.toks + 1 } -> wpAny (model X.prog X.w) X.A (f (.int i t)) Q E s) :
    UnR X f (rU fun i => .int (g i)) := by
  intro pins s σ H x v Q I rx h
  obtain ⟨i, rfl, q⟩ := h
  obtain ⟨t, rfl⟩ := rx
  exact rule i t s _ _ ⟨.int (g i), H, I.tok _, ⟨_, rfl⟩, q⟩
theorem un_neg : UnR X (unaryOp .USub) (rU fun i => .int (-i)) := unI fun _ _ _ _ _ q => neg_int q
end
section
variable {X : Cx} {a b c : Expr} {ta tb tc : TE} {pos : Pos}
theorem fin_bl {pins : List (Addr × Obj)} {σ : St} {H : Hp} {s : Shared} {Q : VK} {k k' : Bool} (I : Inv X pins σ H s) (q : Q (.bl k) H) (e : k = k') : EP X pins σ Q (.bool k') s := by
  subst e
  exact ⟨.bl k, H, I, rfl, q⟩
theorem op_lt : OpR X (compareOp .Lt) (rI0 fun i j => .bl (decide (i < j))) := opB0 fun _ _ _ _ _ _ _ q => lt_int q
theorem op_le : OpR X (compareOp .LtE) (rI0 fun i j => .bl (decide (i <= j))) := opB0 fun _ _ _ _ _ _ _ q => le_int q
theorem op_ge : OpR X (compareOp .GtE) (rI0 fun i j => .bl (decide (j <= i))) := opB0 fun _ _ _ _ _ _ _ q => ge_int q
theorem op_in_str : OpR X (compareOp .In) (fun x y H Q => ∃ i j, x = .str i /\ y = .str j /\ Q (.bl (!(Builtin.Str.occurrences j i 0 j.length 1).isEmpty)) H) := by
  intro pins s σ H x y v u Q I rx ry h
  obtain ⟨i, j, rfl, rfl, q⟩ := h
  obtain ⟨t, rfl⟩ := rx
  obtain ⟨t', rfl⟩ := ry
  exact in_str (fin_bl I q rfl)
theorem OpR.or {f : Value -> Value -> Sem Value} {r r' : R2} (h : OpR X f r) (h' : OpR X f r') : OpR X f (fun x y H Q => r x y H Q \/ r' x y H Q) := by
  intro pins s σ H x y v u Q I rx ry q
  rcases q with q | q
  · exact h pins s σ H x y v u Q I rx ry q
  · exact h' pins s σ H x y v u Q I rx ry q
theorem nomark (b : Expr) {op : CmpOp} (h : op ≠ .In := by decide) (h2 : op ≠ .NotIn := by decide) : behindInMarks op b = false := by
  have e1 : (op == CmpOp.In) = false := by cases op <;> first | rfl | exact absurd rfl h
  have e2 : (op == CmpOp.NotIn) = false := by cases op <;> first | rfl | exact absurd rfl h2
  cases b <;> simp [behindInMarks, e1, e2]
theorem pe_cmpR {op : CmpOp} {r : R2} (ho : OpR X (compareOp op) r) (ha : PE X a ta) (hb : PE X b tb) (hm : behindInMarks op b = false) : PE X (.Compare a [op] [b] pos) (tOp r ta tb) := by
  intro pins s σ H Q I h
  exact wpAny_Compare1 (binT ha hb I h fun v u s2 x y H2 I2 rx ry q => ho pins s2 σ H2 x y v u Q I2 rx ry q) hm
noncomputable def tTest (t : TE) : TT := fun σ H Q => t σ H fun x H' => ∃ k, x = .bl k /\ Q k H'
theorem pt_cmpR {op : CmpOp} {r : R2} (ho : OpR X (compareOp op) r) (ha : PE X a ta) (hb : PE X b tb) (hm : behindInMarks op b = false) : PT X (.Compare a [op] [b] pos) (tTest (tOp r ta tb)) := by
  intro pins s σ H Q I h
  refine wpAny_isTrue_Compare1 (thn (ha pins s σ H _ I h) fun v s1 ⟨x, H1, I1, r1, q1⟩ => thn (hb pins s1 σ H1 _ I1 q1) fun u s2 ⟨y, H2, I2, r2, q2⟩ =>
    thn (ho pins s2 σ H2 x y v u _ I2 r1 r2 q2) fun c s3 ⟨z, H3, I3, r3, k, e, q3⟩ => ?_) hm
  subst e
  cases r3
  exact wpAny_truthy_bool ⟨H3, I3, q3⟩
noncomputable def tChain (r r' : R2) (ta tb tc : TE) : TE := fun σ H Q => ta σ H fun x H1 => tb σ H1 fun y H2 => r x y H2 fun z H3 => ∃ k, z = .bl k /\
  (if k = true then tc σ H3 fun w' H4 => r' y w' H4 Q else Q (.bl false) H3)
theorem pt_chain {op op' : CmpOp} {r r' : R2} (ho : OpR X (compareOp op) r) (ho' : OpR X (compareOp op') r') (ha : PE X a ta) (hb : PE X b tb) (hc : PE X c tc)
    (hm : lastMarks [op, op'] [b, c] = false := by with_unfolding_all rfl) : PT X (.Compare a [op, op'] [b, c] pos) (tTest (tChain r r' ta tb tc)) := by
  intro pins s σ H Q I h
  refine isTrue_chain (thn (ha pins s σ H _ I h) fun v s1 ⟨x, H1, I1, r1, q1⟩ => test_link (thn (hb pins s1 σ H1 _ I1 q1) fun u s2 ⟨y, H2, I2, r2, q2⟩ =>
    thn (ho pins s2 σ H2 x y v u _ I2 r1 r2 q2) fun d s3 ⟨z, H3, I3, r3, k, e, q3⟩ => ?_)) hm
  subst e
  cases r3
  refine wpAny_truthy_bool ?_
  cases k with
  | false =>
    obtain ⟨k', e', q'⟩ := q3
    cases e'
    exact ite_ff ⟨H3, I3, q'⟩
  | true =>
    refine ite_tt (test_last (thn (hc pins s3 σ H3 _ I3 q3) fun w' s4 ⟨z', H4, I4, r4, q4⟩ => thn (ho' pins s4 σ H4 y z' u w' _ I4 r2 r4 q4) fun d' s5 ⟨z2, H5, I5, r5, k2, e2, q5⟩ => ?_))
    subst e2
    cases r5
    exact wpAny_truthy_bool ⟨H5, I5, q5⟩
noncomputable def TruV (K : PySem.W.Frag) (x : V) (H : Hp) (k : Bool) : Prop :=
  match x with
  | .non => k = false
  | .bl b => k = b
  | .int i => k = (i != 0)
  | .str y => y.length <= sizeLine /\ k = ((y.length : Int) != 0)
  | .byt y => y.size <= sizeLine /\ k = ((y.size : Int) != 0)
  | .ref p => (∃ xs, SqL K H p xs /\ k = !xs.isEmpty) \/ (∃ xs, SqT K H p xs /\ k = !xs.isEmpty) \/ ∃ kvs, H p = some (.dK kvs) /\ k = !kvs.isEmpty
  | _ => False
theorem isEmpty_kv {κ : Type} {kvs : List (κ × V)} {vs : List (κ × Value)} (r : KV kvs vs) : (!vs.isEmpty) = !kvs.isEmpty := by
  cases r <;> rfl
theorem isEmpty_of {xs : List V} {its : List Value} (r : Vals xs its) : (!its.toArray.isEmpty) = !xs.isEmpty := by
  cases r <;> simp
theorem line63 : (sizeLine : Nat) < 2 ^ 63 := by rw [sizeLine_eq]; decide
theorem tru_ok : TruR X (fun x H Q => ∃ k, TruV X.K x H k /\ Q k H) := by
  intro pins s σ H x v Q I rx h
  obtain ⟨k, e, q⟩ := h
  have hl := line63
  have hs : sizeLine = 16777216 := sizeLine_eq
  cases x with
  | non =>
    cases rx
    have e' : k = false := e
    subst e'
    exact truthy_none ⟨H, I, q⟩
  | bl b =>
    cases rx
    have e' : k = b := e
    subst e'
    exact wpAny_truthy_bool ⟨H, I, q⟩
  | int i =>
    obtain ⟨t, rfl⟩ := rx
    have e' : k = (i != 0) := e
    subst e'
    exact PySem.P.truthy_int ⟨H, I, q⟩
  | str y =>
    obtain ⟨t, rfl⟩ := rx
    obtain ⟨hy, e'⟩ : y.length <= sizeLine /\ k = ((y.length : Int) != 0) := e
    subst e'
    exact PySem.P.truthy_str (by omega) ⟨H, I.tok _, q⟩
  | byt y =>
    obtain ⟨t, rfl⟩ := rx
    obtain ⟨hy, e'⟩ : y.size <= sizeLine /\ k = ((y.size : Int) != 0) := e
    subst e'
    exact PySem.W.truthy_bytes (by omega) ⟨H, I.tok _, q⟩
  | ref p =>
    cases rx
    have e' : (∃ xs, SqL X.K H p xs /\ k = !xs.isEmpty) \/ (∃ xs, SqT X.K H p xs /\ k = !xs.isEmpty) \/ ∃ kvs, H p = some (.dK kvs) /\ k = !kvs.isEmpty := e
    rcases e' with ⟨xs, hx, e'⟩ | ⟨xs, hx, e'⟩ | ⟨kvs, hx, e'⟩
    · subst e'
      obtain ⟨its, r, pl, hz⟩ := I.list hx
      have hlen := r.length
      exact wpAny_truthy_list pl.isList (by simp only [List.size_toArray]; omega) ⟨H, I.tok _, by rw [isEmpty_of r]; exact q⟩
    · subst e'
      obtain ⟨its, r, pl, hz⟩ := I.tuple hx
      have hlen := r.length
      exact truthy_tuple pl (by simp only [List.size_toArray]; omega) ⟨H, I.tok _, by rw [isEmpty_of r]; exact q⟩
    · subst e'
      obtain ⟨hz, hS, vs, r, m⟩ : kvs.length <= sizeLine /\ (p == sysModules) = false /\ ∃ vs, KV kvs vs /\ s.heap.DictOf (mixKind X.prog X.w) p vs := I.hok p _ hx
      have hlen : kvs.length = vs.length := Paired.length r
      exact wpAny_truthy_dict hS m (by omega) ⟨H, I.tok _, by rw [isEmpty_kv r]; exact q⟩
  | _ => exact (show False from e).elim
theorem pt_truth (ha : PE X a ta) (he : ∀ whole, isTrue a X.env whole = (do let v <- whole; standAt a.pos; holding [v] (truthy v))) :
    PT X a (fun σ H Q => ta σ H fun x H' => ∃ k, TruV X.K x H' k /\ Q k H') := by
  intro pins s σ H Q I h
  exact isTrue_plain (thn (ha pins s σ H _ I h) fun v s1 ⟨x, H1, I1, r1, q1⟩ => tru_ok pins s1 σ H1 x v Q I1 r1 q1) (he _)
theorem op_add_str : OpR X (binaryOp .Add) (fun x y H Q => ∃ i j, x = .str i /\ y = .str j /\ i.length + j.length <= sizeLine /\ Q (.str (i ++ j)) H) := by
  intro pins s σ H x y v u Q I rx ry h
  obtain ⟨i, j, rfl, rfl, hz, q⟩ := h
  obtain ⟨t, rfl⟩ := rx
  obtain ⟨t', rfl⟩ := ry
  exact add_str (fun t' tk => ⟨.str (i ++ j), H, I.tok _, ⟨_, rfl⟩, q⟩) hz
theorem vals1 {x : V} {us : List Value} (r : Vals [x] us) : ∃ u, us = [u] /\ RelV x u := by
  cases r with
  | cons r1 r2 => cases r2; exact ⟨_, rfl, r1⟩
theorem vals2 {x y : V} {us : List Value} (r : Vals [x, y] us) : ∃ u w', us = [u, w'] /\ RelV x u /\ RelV y w' := by
  cases r with
  | cons r1 r2 =>
    cases r2 with
    | cons r3 r4 => cases r4; exact ⟨_, _, rfl, r1, r3⟩
theorem call_max2 (hc : X.calm = true) : CallR X (.builtin "max") (fun xs H Q => ∃ i j, xs = [.int i, .int j] /\ Q (.int (if j > i then j else i)) H) := by
  intro pins s σ H xs us Q I r h
  obtain ⟨i, j, rfl, q⟩ := h
  obtain ⟨u, w', rfl, ⟨t, rfl⟩, ⟨t', rfl⟩⟩ := vals2 r
  refine max_two_ints (I.ok.hd hc) fun h' tk k => ⟨_, H, I.kept k, ?_, q⟩
  by_cases hj : j > i
  · rw [if_pos hj, if_pos hj]; exact ⟨_, rfl⟩
  · rw [if_neg hj, if_neg hj]; exact ⟨_, rfl⟩
theorem call_int1 : CallR X (.type "int") (fun xs H Q => (∃ i, xs = [.int i] /\ Q (.int i) H) \/ ∃ k, xs = [.bl k] /\ Q (.int (if k then 1 else 0)) H) := by
  intro pins s σ H xs us Q I r h
  rcases h with ⟨i, rfl, q⟩ | ⟨k, rfl, q⟩
  · obtain ⟨u, rfl, t, rfl⟩ := vals1 r
    exact call_int_int ⟨.int i, H, I, ⟨_, rfl⟩, q⟩
  · obtain ⟨u, rfl, r1⟩ := vals1 r
    cases r1
    exact call_int_bool ⟨.int (if k then 1 else 0), H, I.tok _, ⟨_, rfl⟩, q⟩
end
end L2
namespace L2
open PySem PySem.Spec PyProof.Rows
structure ObjM (h : Heap) (x dx C : Addr) (mA : Str -> Option Value) : Prop where
  obj : h.get? x = some (PySem.W.instObj C dx)
  ns : h.Ns1 dx mA
  ne : dx ≠ x
theorem lookIn_ns {h : Heap} {dx : Addr} {mA : Str -> Option Value} (n : h.Ns1 dx mA) : ∃ od, h.get? dx = some od /\ ∀ name, PySem.W.lookIn name od = some (mA name) := by
  obtain ⟨o, es, ep, ho, hd, hk, _, hm⟩ := n
  refine ⟨o, ho, fun name => ?_⟩
  have e := hm name
  unfold nsFind findBy at e
  rw [<- Array.find?_toList] at e
  unfold PySem.W.lookIn
  rw [hd]
  dsimp only
  split
  · rename_i y q
    rw [q] at e
    exact congrArg some e
  · rename_i q
    rw [q] at e
    have a : es.toList.any (·.refKey) = false := by
      rw [List.any_eq_false]
      intro y hy
      obtain ⟨z, t, hkey⟩ := hk y (Array.mem_toList_iff.mp hy)
      simp [DictEntry.refKey, hkey]
    have a' : ¬ es.toList.any (·.refKey) = true := by rw [a]; exact Bool.false_ne_true
    rw [if_neg a']
    exact congrArg some e
theorem ObjM.look {h : Heap} {x dx C : Addr} {mA : Str -> Option Value} (I : ObjM h x dx C mA) : ∃ od, PySem.W.InstAt h x (PySem.W.instObj C dx) C (some od) /\ ∀ name, PySem.W.lookIn name od = some (mA name) :=
  let ⟨od, ho, hl⟩ := lookIn_ns I.ns
  ⟨od, ⟨I.obj, rfl, rfl, ho⟩, hl⟩
theorem RelO.some_of {v : V} {o : Option Value} (r : RelO (some v) o) : ∃ u, o = some u /\ RelV v u := by
  cases o with
  | none => exact (show False from r).elim
  | some u => exact ⟨u, rfl, r⟩
section
variable {P : Program} {w : World} {H H' : Hp} {h h' : Heap} {a C dx : Addr} {fs fs' : List (Str × V)}
theorem ins_get (hok : HOk P w H h) (e : H a = some (.ins C dx fs)) : ∃ mA, ObjM h a dx C mA /\ (∀ f, RelO (fs.lookup f) (mA f)) /\ PySem.Within mA (fs.map (·.1)) /\ fs.length <= 1000 /\ H dx = some (.own a) := by
  obtain ⟨d, z, ne, ob, mA, n, r, q⟩ := (show ObjOk P w H h a (.ins C dx fs) from hok a _ e)
  exact ⟨mA, ⟨ob, n, ne⟩, r, q, z, d⟩
end
structure Cls (K : PySem.W.Frag) (C : Addr) : Prop where
  pg : PySem.W.plainGet K C Str.empty = true
  hd : PySem.W.hasDictIn K C = true
  po : PySem.W.plainOver K C = true
  sa : PySem.W.findIn K (.ref C) "__setattr__" = some (some (.builtin "object.__setattr__"))
theorem Cls.get {K : PySem.W.Frag} {C : Addr} (c : Cls K C) (f : Str) : PySem.W.plainGet K C f = true := c.pg
structure Con (K : PySem.W.Frag) (C : Addr) (f : Str) (v : V) (u : Value) : Prop where
  at_ : PySem.W.findIn K (.ref C) f = some (some u)
  rel : RelV v u
  get : PySem.W.specialIn K u "__get__" = some none
  cp : PySem.W.copiedNames.contains f = false
section
variable {X : Cx} {pins : List (Addr × Obj)} {σ : St} {H : Hp} {s : Shared} {A : Around} {E : Value -> Shared -> Prop} {Q : Value -> Shared -> Prop} {c : Value} {b : Bool}
inductive TyOf (K : PySem.W.Frag) (H : Hp) : V -> Value -> Prop where
  | non : TyOf K H .non (.type "NoneType")
  | bl (x : Bool) : TyOf K H (.bl x) (.type "bool")
  | int (i : Int) : TyOf K H (.int i) (.type "int")
  | str (x : Str) : TyOf K H (.str x) (.type "str")
  | flt (x : UInt64) : TyOf K H (.flt x) (.type "float")
  | lst {a : Addr} {xs : List V} (e : H a = some (.lst xs)) : TyOf K H (.ref a) (.type "list")
  | frz {a : Addr} {o : Obj} {xs : List V} (e : H a = some (.frz o (.lst xs))) : TyOf K H (.ref a) (.type "list")
  | tup {a : Addr} {xs : List V} (e : H a = some (.tup xs)) : TyOf K H (.ref a) (.type "tuple")
  | dK {a : Addr} {kvs : List (Key × V)} (e : H a = some (.dK kvs)) : TyOf K H (.ref a) (.type "dict")
  | dT {a : Addr} {kvs : List (List Key × V)} (e : H a = some (.dT kvs)) : TyOf K H (.ref a) (.type "dict")
  | ins {a C dx : Addr} {fs : List (Str × V)} (e : H a = some (.ins C dx fs)) (cl : Cls K C) (ha : PySem.W.findIn K (.ref C) "__class__" = some (some (.builtin "object.__class__")))
      (hn : PySem.W.specialIn K (.builtin "object.__class__") "__get__" = some (some (.builtin "getset_descriptor.__get__"))) (htk : PySem.W.takesIn K (.builtin "object.__class__") = some true)
      (hm : PySem.W.mroIn K C (.type "object") = some true) : TyOf K H (.ref a) (.ref C)
theorem isinst_ok {x : V} {u t : Value} (I : Inv X pins σ H s) (rx : RelV x u) (ty : TyOf X.K H x t) (e : PySem.W.kitOne X.K t c = some b) (h : ∀ tk, Q (.bool b) { s with toks := tk }) :
    wpAny (model X.prog X.w) A (call (.builtin "isinstance") [u, c]) Q E s := by
  cases ty with
  | non => cases (show u = Value.none from rx); exact PySem.W.kia_one PySem.W.kitx_none I.kIn True.intro e (fun z => nomatch z) h
  | bl y => cases (show u = Value.bool y from rx); exact PySem.W.kia_one PySem.W.kitx_bool I.kIn True.intro e (fun z => nomatch z) h
  | int i => obtain ⟨t, q⟩ := (show ∃ t, u = Value.int i t from rx); cases q; exact PySem.W.kia_one PySem.W.kitx_int I.kIn True.intro e (fun z => nomatch z) h
  | str y => obtain ⟨t, q⟩ := (show ∃ t, u = Value.str y t from rx); cases q; exact PySem.W.kia_one PySem.W.kitx_str I.kIn True.intro e (fun z => nomatch z) h
  | flt y => obtain ⟨t, q⟩ := (show ∃ t, u = Value.float y t from rx); cases q; exact PySem.W.kia_one PySem.W.kitx_float I.kIn True.intro e (fun z => nomatch z) h
  | @lst a xs ea =>
    cases (show u = Value.ref a from rx)
    obtain ⟨_, _, n, _, h1⟩ := (show ObjOk X.prog X.w H s.heap a (.lst xs) from I.hok a _ ea)
    exact PySem.W.kia_one PySem.W.kitx_list I.kIn ⟨_, h1, rfl⟩ e (fun z => nomatch z) h
  | @frz a ob xs ea =>
    cases (show u = Value.ref a from rx)
    obtain ⟨_, _, _, n, _, h1⟩ := (show ObjOk X.prog X.w H s.heap a (.frz ob (.lst xs)) from I.hok a _ ea)
    exact PySem.W.kia_one PySem.W.kitx_list I.kIn ⟨_, h1, rfl⟩ e (fun z => nomatch z) h
  | @tup a xs ea =>
    cases (show u = Value.ref a from rx)
    obtain ⟨_, _, _, p⟩ := (show ObjOk X.prog X.w H s.heap a (.tup xs) from I.hok a _ ea)
    obtain ⟨o, h1, h2, _⟩ := p.1
    exact PySem.W.kia_one PySem.W.kitx_tuple I.kIn ⟨o, h1, h2⟩ e (fun z => nomatch z) h
  | @dK a kvs ea =>
    cases (show u = Value.ref a from rx)
    obtain ⟨_, _, vs, _, p⟩ := (show ObjOk X.prog X.w H s.heap a (.dK kvs) from I.hok a _ ea)
    obtain ⟨o, es, ep, h1, h2, _⟩ := p
    exact PySem.W.kia_one PySem.W.kitx_dict I.kIn ⟨o, h1, h2.1⟩ e (fun z => nomatch z) h
  | @dT a kvs ea =>
    cases (show u = Value.ref a from rx)
    obtain ⟨_, _, xs, _, o, es, ep, h1, h2, _⟩ := (show ObjOk X.prog X.w H s.heap a (.dT kvs) from I.hok a _ ea)
    exact PySem.W.kia_one PySem.W.kitx_dict I.kIn ⟨o, h1, h2.1⟩ e (fun z => nomatch z) h
  | @ins a C dx fs ea cl ha hn htk hm =>
    cases (show u = Value.ref a from rx)
    obtain ⟨mA, O, _⟩ := ins_get I.hok ea
    obtain ⟨od, J, _⟩ := O.look
    exact PySem.W.kia_one (PySem.W.kitx_own (cl.get _) cl.hd ha hn htk hm) I.kIn J e (fun z => nomatch z) h
end
end L2
namespace L2
open PySem PySem.Spec PyProof.Rows
structure Room (k : Nat) (A : Around) : Prop where
  hd : A.handled = none
  dp : A.depth + 3 * k + 5 < recursionLimit
  un : A.units + 16 * k + 200 < cLine
theorem Room.mono {j k : Nat} {A : Around} (r : Room k A) (h : j <= k) : Room j A := ⟨r.hd, by have := r.dp; omega, by have := r.un; omega⟩
theorem Room.deeper {k : Nat} {A : Around} (r : Room (k + 1) A) (env : Env) : Room k (A.deeper env) :=
  ⟨r.hd, by have := r.dp; show A.depth + 1 + 3 * k + 5 < _; omega, by have := r.un; show A.units + 3 + 16 * k + 200 < _; omega⟩
theorem Room.depth {k : Nat} {A : Around} (r : Room k A) : A.depth < recursionLimit := by have := r.dp; omega
theorem Room.units {k : Nat} {A : Around} (r : Room k A) : A.units + 64 < cLine := by have := r.un; omega
noncomputable def tNil : TA := fun _ H Q => Q [] H
noncomputable def tCons (ta : TE) (tr : TA) : TA := fun σ H Q => ta σ H fun x H1 => tr σ H1 fun xs H2 => Q (x :: xs) H2
section
variable {X : Cx} {e : Expr} {es : List Expr} {te : TE} {t : TA} {pos : Pos}
theorem pa_nil : PA X [] tNil := fun _ _ _ _ H Q I h => Calls.spliced_nil ⟨[], H, I, .nil, h⟩
theorem pa_cons (ha : PE X e te) (hr : PA X es t) (hs : starEach (e :: es) X.env = (false, eval e X.env) :: starEach es X.env := by rfl) : PA X (e :: es) (tCons te t) := by
  intro pos pins s σ H Q I h
  rw [hs]
  show wpAny _ _ (spliced ((false, eval e X.env) :: backTo pos (starEach es X.env))) _ _ s
  refine Calls.spliced_cons (thn (ha pins s σ H _ I h) fun u s1 ⟨x, H1, I1, r1, q1⟩ => ?_)
  exact thn (hr pos pins s1 σ H1 _ I1 q1) fun us s2 ⟨xs, H2, I2, r2, q2⟩ => ⟨x :: xs, H2, I2, .cons r1 r2, q2⟩
noncomputable def tTup (t : TA) : TE := fun σ H Q => t σ H fun xs H1 => xs.length <= sizeLine /\ ∀ p, H1 p = none -> Q (.ref p) (upd H1 p (.tup xs))
noncomputable def tLst (t : TA) : TE := fun σ H Q => t σ H fun xs H1 => xs.length <= sizeLine /\ ∀ p, H1 p = none -> Q (.ref p) (upd H1 p (.lst xs))
theorem pe_tup {x1} (h : PA X es t) : PE X (.Tuple es x1 pos) (tTup t) := by
  intro pins s σ H Q I hq
  refine wpAny_Tuple_spliced (thn (h pos pins s σ H _ I hq) fun us s1 ⟨xs, H1, I1, r, z, q⟩ => ⟨by rw [<- r.length]; exact z, ?_⟩)
  have hf : H1 s1.heap.objs.size = none := I1.hok.fresh (Nat.le_refl _)
  refine ⟨.ref s1.heap.objs.size, upd H1 s1.heap.objs.size (.tup xs), I1.laid (t' := s1.toks) (fun b u e => Heap.get?_push_of_some _ e) (Nat.le_refl _) ?_, rfl, q _ hf⟩
  exact ⟨z, us, r, ⟨_, Heap.get?_push_size _ rfl, rfl, _, rfl⟩, _, Heap.get?_push_size _ rfl, rfl⟩
theorem pe_lst (h : PA X es t) : PE X (.List es pos) (tLst t) := by
  intro pins s σ H Q I hq
  refine wpAny_List_spliced (thn (h pos pins s σ H _ I hq) fun us s1 ⟨xs, H1, I1, r, z, q⟩ => ⟨by rw [<- r.length]; exact z, ?_⟩)
  have hf : H1 s1.heap.objs.size = none := I1.hok.fresh (Nat.le_refl _)
  refine ⟨.ref s1.heap.objs.size, upd H1 s1.heap.objs.size (.lst xs), I1.laid (t' := s1.toks) (fun b u e => Heap.get?_push_of_some _ e) (Nat.le_refl _) ?_, rfl, q _ hf⟩
  exact ⟨z, us, 0, r, Heap.get?_push_size _ rfl⟩
end
noncomputable abbrev Sp := List V -> Hp -> VK -> XK -> Prop
noncomputable abbrev CXT := List Env -> Hp -> Shared -> XK -> Value -> Shared -> Prop
structure Env0 (P : Program) (w : World) (K : PySem.W.Frag) (mg : Str -> Option Value) (base : Heap) (A : Around) (outer : List Env) (s : Shared) (H : Hp) : Prop where
  frames : A.frames = some outer
  mod : Mod K mg base
  bs : ∀ b o, base.get? b = some o -> s.heap.get? b = some o /\ H b = none
  bsz : base.objs.size <= s.heap.objs.size
  funs : s.heap.FunFrames base outer
  frf : ∀ b ∈ frs outer, H b = none
  hok : HOk P w H s.heap
  bare : AllBare s.gens
noncomputable def CE (outer : List Env) (P : Program) (w : World) (H : Hp) (s : Shared) (Q : VK) (u : Value) (s' : Shared) : Prop :=
  ∃ v H', s'.os = s.os /\ AllBare s'.gens /\ Un (frs outer) [] H H' s.heap s'.heap /\ HOk P w H' s'.heap /\ RelV v u /\ Q v H'
noncomputable def CR (CX : CXT) (outer : List Env) (P : Program) (w : World) (H : Hp) (s : Shared) (Q : VK) (E : XK) (r : Result) (s' : Shared) : Prop :=
  match r with
  | .ok (.ret u) => CE outer P w H s Q u s'
  | .ok _ => False
  | .error e => CX outer H s E e s'
structure FnOk (P : Program) (w : World) (K : PySem.W.Frag) (mg : Str -> Option Value) (base : Heap) (CX : CXT) (k : Nat) (f : Addr) (fd : FuncData) (ps : List Str) (sp : Sp) : Prop where
  len : ∀ vs H Q E, sp vs H Q E -> vs.length = ps.length
  run : ∀ (A : Around) (outer : List Env) (s : Shared) (H : Hp) (args : Args) (us : List Value) (vs : List V) (Q : VK) (E : XK), Room k A -> Env0 P w K mg base A outer s H -> BindsTo s fd args (ps.zip us) -> Vals vs us -> sp vs H Q E ->
    codeAny (model P w) A (.call (.ref f) args) (CR CX outer P w H s Q E) s
section
variable {X : Cx} {pins : List (Addr × Obj)} {σ : St} {H : Hp} {s s' : Shared}
theorem Inv.env0 (I : Inv X pins σ H s) : Env0 X.prog X.w X.K X.mg X.base X.A X.stack s H :=
  ⟨I.ok.frames, I.ok.mod, I.bs, Nat.le_trans I.ok.bsz I.sz, I.stack, I.stkFree, I.hok, I.bare⟩
theorem Inv.after {Q : VK} {u : Value} (I : Inv X pins σ H s) (h : CE X.stack X.prog X.w H s Q u s') : EP X pins σ Q u s' := by
  obtain ⟨v, H', os, bare, un, hok, r, q⟩ := h
  obtain ⟨hh, g, d, t, os'⟩ := s'
  obtain rfl : os' = s.os := os
  exact ⟨v, H', I.call (h' := hh) (g' := g) (d' := d) (t' := t) (ch := []) un hok bare (fun b z => absurd z (by simp)), r, q⟩
end
noncomputable def tCall (sp : Sp) (dvs : List V) (E : XK) (t : TA) : TE := fun σ H Q => t σ H fun vs H1 => sp (vs ++ dvs) H1 Q E
noncomputable def Binds (K : PySem.W.Frag) (fd : FuncData) (ps : List Str) (ds : List Value) : Prop :=
  ∀ (s : Shared) (us : List Value), K.In s.heap -> (us ++ ds).length = ps.length -> BindsTo s fd ⟨us, []⟩ (ps.zip (us ++ ds))
theorem Binds.all {K : PySem.W.Frag} {fd : FuncData} {ps : List Str} (h : ∀ us : List Value, us.length = ps.length -> bindArgs fd ⟨us, []⟩ = pure (ps.zip us)) : Binds K fd ps [] := fun s us _ hl => by
  rw [List.append_nil] at hl ⊢
  exact .of_eq (h us hl)
noncomputable def Passes (CX : CXT) (X : Cx) (E : XK) : Prop := ∀ (pins : List (Addr × Obj)) (σ : St) (H : Hp) (s : Shared) (e : Value) (s' : Shared), Inv X pins σ H s -> CX X.stack H s E e s' -> X.xe e s'
section
variable {X : Cx} {CX : CXT} {k : Nat} {f C : Addr} {fd : FuncData} {ps : List Str} {sp : Sp} {dvs : List V} {ds : List Value} {E : XK} {x m : Str} {p pos apos : Pos} {e o : Expr} {es : List Expr} {ta : TE} {t : TA}
theorem run_fn {pins : List (Addr × Obj)} {σ : St} {H : Hp} {s : Shared} {Q : VK} {us : List Value} {vs : List V} (F : FnOk X.prog X.w X.K X.mg X.base CX k f fd ps sp) (hr : Room k X.A) (hb : Binds X.K fd ps ds) (hd : Vals dvs ds) (hx : Passes CX X E)
    (I : Inv X pins σ H s) (r : Vals vs us) (h : sp (vs ++ dvs) H Q E) : wpAny (model X.prog X.w) X.A (call (.ref f) us) (EP X pins σ Q) X.xe s := by
  have r2 : Vals (vs ++ dvs) (us ++ ds) := r.append hd
  have hl : (us ++ ds).length = ps.length := by rw [<- r2.length]; exact F.len _ _ _ _ h
  refine wpAny_call (codeAny_mono (F.run X.A X.stack s H ⟨us, []⟩ (us ++ ds) (vs ++ dvs) Q E hr I.env0 (hb s us I.kIn hl) r2 h) fun r s' hq => ?_)
  cases r with
  | error e => exact hx pins σ H s e s' I hq
  | ok fl =>
    cases fl with
    | ret u => exact I.after hq
    | next => exact False.elim hq
    | brk => exact False.elim hq
    | cont => exact False.elim hq
theorem pe_call (F : FnOk X.prog X.w X.K X.mg X.base CX k f fd ps sp) (hr : Room k X.A) (hg : Gl X x) (hm : X.mg x = some (.ref f)) (hk : PySem.W.keepIn X.K (.ref f) = true) (hb : Binds X.K fd ps ds) (hd : Vals dvs ds) (hx : Passes CX X E)
    (ha : PA X (e :: es) t) (hdb : (x == ("__debug__" : Str)) = false := by decide) (he : starEach (e :: es) X.env = (false, eval e X.env) :: starEach es X.env := by rfl) (hpl : (backTo pos (starEach es X.env)).any (·.1) = false := by rfl) :
    PE X (.Call (.Name x p) (e :: es) [] pos) (tCall sp dvs E t) := by
  intro pins s σ H Q I h
  refine wpAny_Call_Name_kw (ld_glob I hg hm ?_ hdb)
  refine PySem.W.callWith_K (h₀ := X.base) I.ok.mod.kin hk (thn (ha pos pins s σ H _ I h) fun us s1 ⟨vs, H1, I1, r, q⟩ => ⟨I1.kIn, ?_⟩) he hpl
  exact run_fn F hr hb hd hx I1 r q
end
structure FnScope (N P : List Str) (sc : Scope) : Prop where
  kind : sc.kind = .function
  co : sc.isCoroutine = false
  gen : sc.isGenerator = false
  nd : N.Nodup
  pre : N.take P.length = P
  par : ∀ x ∈ P, sc.names.lookup x = some .local \/ sc.names.lookup x = some .cell
  nofree : ∀ y ∈ sc.names, y.2 ≠ .free
theorem bindL_out {kindOf : Str -> Option NameKind} {x : Str} : ∀ {binds : List (Str × Value)} {m : Str -> Option Value}, (∀ v, (x, v) ∉ binds) -> bindL kindOf binds m x = m x
  | [], _, _ => rfl
  | (n, v) :: r, m, h => by
    unfold bindL
    rw [bindL_out fun w hw => h w (List.mem_cons_of_mem _ hw)]
    split
    · have : x ≠ n := by rintro rfl; exact h v List.mem_cons_self
      simp [this]
    · rfl
theorem bindC_out {kindOf : Str -> Option NameKind} {x : Str} : ∀ {binds : List (Str × Value)} {m : Str -> Option Value}, (∀ v, (x, v) ∉ binds) -> bindC kindOf binds m x = m x
  | [], _, _ => rfl
  | (n, v) :: r, m, h => by
    unfold bindC
    rw [bindC_out fun w hw => h w (List.mem_cons_of_mem _ hw)]
    split
    · rfl
    · have : x ≠ n := by rintro rfl; exact h v List.mem_cons_self
      simp [this]
theorem bindL_get {kindOf : Str -> Option NameKind} {x : Str} {v : Value} : ∀ {P : List Str} {vs : List Value} {i : Nat} {m : Str -> Option Value}, P.Nodup -> P[i]? = some x -> vs[i]? = some v -> kindOf x = some .local ->
    bindL kindOf (P.zip vs) m x = some v
  | [], _, _, _, _, h, _, _ => by simp at h
  | _ :: _, [], _, _, _, _, h, _ => by simp at h
  | p :: P, w :: vs, 0, m, nd, h1, h2, hk => by
    simp at h1 h2; subst h1; subst h2
    show bindL kindOf ((p, w) :: P.zip vs) m p = _
    unfold bindL
    rw [bindL_out fun v hv => (List.nodup_cons.mp nd).1 (List.of_mem_zip hv).1, if_pos hk]
    simp
  | p :: P, w :: vs, i + 1, m, nd, h1, h2, hk => by
    show bindL kindOf ((p, w) :: P.zip vs) m x = _
    unfold bindL
    exact bindL_get (i := i) (List.nodup_cons.mp nd).2 (by simpa using h1) (by simpa using h2) hk
theorem bindC_get {kindOf : Str -> Option NameKind} {x : Str} {v : Value} : ∀ {P : List Str} {vs : List Value} {i : Nat} {m : Str -> Option Value}, P.Nodup -> P[i]? = some x -> vs[i]? = some v -> kindOf x ≠ some .local ->
    bindC kindOf (P.zip vs) m x = some v
  | [], _, _, _, _, h, _, _ => by simp at h
  | _ :: _, [], _, _, _, _, h, _ => by simp at h
  | p :: P, w :: vs, 0, m, nd, h1, h2, hk => by
    simp at h1 h2; subst h1; subst h2
    show bindC kindOf ((p, w) :: P.zip vs) m p = _
    unfold bindC
    rw [bindC_out fun v hv => (List.nodup_cons.mp nd).1 (List.of_mem_zip hv).1, if_neg hk]
    simp
  | p :: P, w :: vs, i + 1, m, nd, h1, h2, hk => by
    show bindC kindOf ((p, w) :: P.zip vs) m x = _
    unfold bindC
    exact bindC_get (i := i) (List.nodup_cons.mp nd).2 (by simpa using h1) (by simpa using h2) hk
noncomputable def start (N : List Str) (vs : List V) : St := vs.map some ++ List.replicate (N.length - vs.length) none
noncomputable def cxOf (CX : CXT) (P : Program) (w : World) (K : PySem.W.Frag) (mg : Str -> Option Value) (base : Heap) (N : List Str) (qual : Str) (scope : Scope) (f : Addr) (cd : Value) (A : Around) (outer : List Env) (s : Shared) (H : Hp) (E : XK) : Cx where
  prog := P
  w := w
  K := K
  mg := mg
  base := base
  A := A.deeper (envOfC qual scope s.heap.objs.size f cd)
  N := N
  s₀ := s
  H₀ := H
  env := envOfC qual scope s.heap.objs.size f cd
  outer := outer
  stack := envOfC qual scope s.heap.objs.size f cd :: outer
  ex := []
  calm := true
  fn := fun _ => true
  pn := []
  xe := fun e s' => wpAny (model P w) (A.deeper (envOfC qual scope s.heap.objs.size f cd)) (leaving (envOfC qual scope s.heap.objs.size f cd) e) (fun _ s'' => CX outer H s E e s'') (fun e' s'' => CX outer H s E e' s'') s'
theorem cell_has {sc : Scope} {n : Nat} {x : Str} (h : sc.names.lookup x = some .cell) : ∃ c, (cellsFrom n sc.names []).lookup x = some c := by
  have q := PySem.W.cellsFrom_some sc.names n [] (.inl h)
  exact Option.isSome_iff_exists.mp q
theorem inv_start {CX : CXT} {P : Program} {w : World} {K : PySem.W.Frag} {mg : Str -> Option Value} {base : Heap} {N ps : List Str} {qual : Str} {scope : Scope} {f : Addr} {cd : Value} {A : Around} {outer : List Env} {s s1 : Shared} {H : Hp} {E : XK} {us : List Value} {vs : List V}
    (S : FnScope N ps scope) (hd : A.handled = none) (e0 : Env0 P w K mg base A outer s H) (hl : vs.length = ps.length) (r : Vals vs us)
    (x : InCallC s s.heap.objs.size (bindL (envOfC qual scope s.heap.objs.size f cd).kindOf (ps.zip us) fun _ => none) (cellsFrom (s.heap.objs.size + 1) scope.names []) (bindC (envOfC qual scope s.heap.objs.size f cd).kindOf (ps.zip us) fun _ => none) s1) :
    Inv (cxOf CX P w K mg base N qual scope f cd A outer s H E) [] (start N vs) H s1 := by
  have hpl : ps.length <= N.length := by have := congrArg List.length S.pre; rw [List.length_take] at this; omega
  obtain ⟨h1, tk, rfl, hk⟩ := x.done
  have noA : ∀ b : Addr, b ∉ (cxOf CX P w K mg base N qual scope f cd A outer s H E).ex := fun b z => absurd (show b ∈ ([] : List Addr) from z) (by simp)
  refine ⟨⟨e0.mod, S.kind, rfl, rfl, Nat.le_refl _, fun y z c h1 h2 => ?_, fun y hy => ?_, fun y c _ h => ?_, fun _ => hd, Around.frames_deeper e0.frames, .inr ⟨rfl, rfl⟩, fun b z => absurd z (noA b), e0.bs, e0.bsz, fun b _ _ => noA b, fun b z => absurd z (noA b), e0.funs, e0.frf⟩,
    rfl, e0.bare, Un.kept hk, ⟨_, x.toInCall.ns, fun i y v h1 h2 h3 => ?_⟩, fun y c h => ⟨_, x.cell y c h⟩, e0.hok.fresh (Nat.le_refl _), fun y c h => ?_, fun p hp => absurd (show p ∈ ([] : List (Addr × Obj)) from hp) (by simp), e0.hok.kept hk, ?_⟩
  · exact name_of_addr x.apart (PySem.mem_of_lookup h1) (PySem.mem_of_lookup h2)
  · have hy : scope.names.lookup y = some .cell \/ scope.names.lookup y = some .free := hy
    rcases hy with hy | hy
    · exact cell_has hy
    · exact absurd rfl (S.nofree _ (PySem.mem_of_lookup hy))
  · exact Nat.le_of_lt (x.above y c (PySem.mem_of_lookup h))
  · have hi : i < vs.length := by
      unfold start at h2
      by_cases hi : i < vs.length
      · exact hi
      · rw [List.getElem?_append_right (by simpa using hi)] at h2
        rw [List.getElem?_replicate] at h2
        split at h2 <;> cases h2
    have ha : vs[i]? = some v := by
      unfold start at h2
      rw [List.getElem?_append_left (by simpa using hi), List.getElem?_map] at h2
      cases e : vs[i]? with
      | none => rw [e] at h2; cases h2
      | some a => rw [e] at h2; cases h2; rfl
    obtain ⟨u, hu, rv⟩ := r.get ha
    have hp : ps[i]? = some y := by
      rw [<- S.pre, List.getElem?_take_of_lt (by omega)]; exact h1
    have ndP : ps.Nodup := by rw [<- S.pre]; exact S.nd.sublist (List.take_sublist _ _)
    refine ⟨u, rv, ?_⟩
    rcases S.par y (List.mem_of_getElem? hp) with k | k
    · exact .inl ⟨k, bindL_get ndP hp hu k⟩
    · obtain ⟨c, e⟩ := cell_has (n := s.heap.objs.size + 1) k
      refine .inr ⟨.inl k, c, e, ?_⟩
      have q := x.cell y c e
      rw [bindC_get ndP hp hu (by show scope.names.lookup y ≠ _; rw [k]; decide)] at q
      exact q
  · exact e0.hok.fresh (Nat.le_of_lt (x.above y c (PySem.mem_of_lookup h)))
  · unfold start
    show _ = N.length
    rw [List.length_append, List.length_map, List.length_replicate]
    omega
theorem fn_of {CX : CXT} {P : Program} {w : World} {K : PySem.W.Frag} {mg : Str -> Option Value} {base : Heap} {k : Nat} {f : Addr} {name qual : Str} {params : Arguments} {body : List Stmt} {scope : Scope} {dV kV doc pm cdv ct oc : Value} {an od : Option Addr}
    {osl : Array (Option Value)} {N ps : List Str} {sp : Sp} (lk : K.lookup f = some ⟨oc, od, .func (PySem.W.fnOf name qual params body scope dV kV doc pm an cdv ct), osl⟩) (hcd : PySem.W.codeIn K cdv qual = true) (S : FnScope N ps scope)
    (len : ∀ vs H Q E, sp vs H Q E -> vs.length = ps.length)
    (hbody : ∀ (A : Around) (outer : List Env) (s : Shared) (H : Hp) (vs : List V) (Q : VK) (E : XK), Room k (A.deeper (envOfC qual scope s.heap.objs.size f cdv)) -> sp vs H Q E ->
      ∃ t, PSs (cxOf CX P w K mg base N qual scope f cdv A outer s H E) body t /\ t { nx := fun _ H' => Q .non H', rt := Q } (start N vs) H) :
    FnOk P w K mg base CX (k + 1) f (PySem.W.fnOf name qual params body scope dV kV doc pm an cdv ct) ps sp := by
  refine ⟨len, fun A outer s H args us vs Q E hr e0 hb r hsp => ?_⟩
  have hl := len _ _ _ _ hsp
  have KX : K.In s.heap := e0.mod.kin.keeps fun b o e => (e0.bs b o e).1
  have lim : s.heap.NoLimit := e0.mod.nolimit.keeps fun b o e => (e0.bs b o e).1
  have hkind : ∀ y ∈ ps.zip us, scope.names.lookup y.1 = some .local \/ (scope.names.lookup y.1 = some .cell /\ ((cellsFrom (s.heap.objs.size + 1) scope.names []).lookup y.1).isSome = true) := fun ⟨n, v⟩ hy => by
    rcases S.par n (List.of_mem_zip hy).1 with q | q
    · exact .inl q
    · exact .inr ⟨q, PySem.W.cellsFrom_some _ _ _ (.inl q)⟩
  refine codeAny_call_function hr.depth (KX _ _ lk) rfl S.co S.gen rfl (PySem.W.codeRec_of KX hcd) (hb _ _ _ _ ?_)
  refine wpAny_newFunctionEnv_cells S.kind hkind fun env he s1 x => ?_
  subst he
  refine ⟨lim.keeps x.toInCall.keep, codeAny_func ?_⟩
  obtain ⟨t, ht, hq⟩ := hbody A outer s H vs Q E (hr.deeper _) hsp
  have I : Inv (cxOf CX P w K mg base N qual scope f cdv A outer s H E) [] (start N vs) H s1 := inv_start S hr.hd e0 hl r x
  refine wpAny_mono (ht [] s1 (start N vs) H _ I hq) (fun fl s' hs => ?_) fun e s' hs => hs
  have fin : ∀ {σ' : St} {H' : Hp} {v : V} {u : Value}, Inv (cxOf CX P w K mg base N qual scope f cdv A outer s H E) [] σ' H' s' -> RelV v u -> Q v H' -> CE outer P w H s Q u s' :=
    fun {σ' H' v u} J rv q => ⟨v, H', J.os, J.bare, J.base, J.hok, rv, q⟩
  cases fl with
  | ret u =>
    obtain ⟨v, σ', H', J, rv, q⟩ := hs
    exact fin J rv q
  | next =>
    obtain ⟨σ', H', J, q⟩ := hs
    exact fin (v := V.non) (u := Value.none) J rfl q
  | brk =>
    obtain ⟨_, _, _, q⟩ := hs
    exact False.elim q
  | cont =>
    obtain ⟨_, _, _, q⟩ := hs
    exact False.elim q
end L2
namespace L2
open PySem PySem.Spec PyProof.Rows
section
variable {X : Cx} {x : Str} {p pos : Pos} {e : Expr} {es : List Expr} {t : TA} {id T : String} {r : List V -> Hp -> VK -> Prop}
noncomputable def tCB (r : List V -> Hp -> VK -> Prop) (t : TA) : TE := fun σ H Q => t σ H fun vs H1 => r vs H1 Q
theorem pe_callB (hc : CallR X (.builtin id) r) (hg : Gl X x) (hm : X.mg x = none) (hv : bootBuiltins x = some (.builtin id)) (ha : PA X (e :: es) t) (hn : x ≠ "__name__" := by decide) (hdb : (x == ("__debug__" : Str)) = false := by decide)
    (he : starEach (e :: es) X.env = (false, eval e X.env) :: starEach es X.env := by rfl) (hpl : (backTo pos (starEach es X.env)).any (·.1) = false := by rfl) : PE X (.Call (.Name x p) (e :: es) [] pos) (tCB r t) := by
  intro pins s σ H Q I h
  refine wpAny_Call_Name_kw (ld_blt I hg hm hv ?_ hn hdb)
  exact PyProof.Rows.callWith_builtin1 (thn (ha pos pins s σ H _ I h) fun us s1 ⟨vs, H1, I1, r1, q1⟩ => hc pins s1 σ H1 vs us Q I1 r1 q1) he hpl
theorem pe_callTy (hc : CallR X (.type T) r) (hg : Gl X x) (hm : X.mg x = none) (hv : bootBuiltins x = some (.type T)) (ha : PA X (e :: es) t) (hn : x ≠ "__name__" := by decide) (hdb : (x == ("__debug__" : Str)) = false := by decide)
    (he : starEach (e :: es) X.env = (false, eval e X.env) :: starEach es X.env := by rfl) (hpl : (backTo pos (starEach es X.env)).any (·.1) = false := by rfl) : PE X (.Call (.Name x p) (e :: es) [] pos) (tCB r t) := by
  intro pins s σ H Q I h
  refine wpAny_Call_Name_kw (ld_blt I hg hm hv ?_ hn hdb)
  exact PyProof.Rows.callWith_type1 (thn (ha pos pins s σ H _ I h) fun us s1 ⟨vs, H1, I1, r1, q1⟩ => hc pins s1 σ H1 vs us Q I1 r1 q1) he hpl
end
end L2
namespace HT
open PySem PyProof.Rows
section
open PySem.SeqAt
open PySem.AutoSeq1 (wpAny_loadPart')
open PySem.MeetsSeq PySem.MeetsSeq2 PySem.MeetsSeq3
end
section
variable {prog : Program} {w : World} {A : Around} {E : Value -> Shared -> Prop} {s : Shared}
theorem cat_tup {t b : Addr} {vs ws : List Value} {Q : Value -> Shared -> Prop} (ht : IsTup s.heap t vs.toArray) (hb : IsTup s.heap b ws.toArray) (hv : vs ≠ [])
    (h1 : ws = [] -> Q (.ref t) s) (h2 : ws ≠ [] -> Q (.ref s.heap.objs.size) { s with heap := s.heap.push { cls := .type "tuple", data := .seq (vs ++ ws).toArray } })
    (hsz : vs.length + ws.length <= sizeLine) : wpAny (model prog w) A (binaryOp .Add (.ref t) (.ref b)) Q E s := by
  obtain ⟨⟨cls, dd, data, sl⟩, ho, hc, n, hd⟩ := id ht
  obtain ⟨⟨cls2, dd2, data2, sl2⟩, ho2, hc2, n2, hd2⟩ := id hb
  simp only at hc hd hc2 hd2
  subst hc hd hc2 hd2
  have e : vs.toArray ++ ws.toArray = (vs ++ ws).toArray := by simp
  by_cases hw : ws = []
  · exact concat_meets ⟨_, ho, rfl⟩ ⟨_, ho2, rfl⟩ noFill_tuple_add seq_tuple_add PySem.F.slot_tuple_add PySem.F.entry_tuple_add (PySem.F.args_tuple_add_2 _ _)
      (tuple_addW1 t b vs.toArray ws.toArray n n2 dd dd2 sl sl2 (by simpa using hv) (by simp [hw])) ⟨ho, ho2, h1 hw⟩
  · refine concat_meets ⟨_, ho, rfl⟩ ⟨_, ho2, rfl⟩ noFill_tuple_add seq_tuple_add PySem.F.slot_tuple_add PySem.F.entry_tuple_add (PySem.F.args_tuple_add_2 _ _)
      (tuple_addW2 t b vs.toArray ws.toArray n n2 dd dd2 sl sl2 (by simpa using hv) (by simpa using hw) (by rw [List.size_toArray, List.size_toArray]; exact hsz)) ⟨ho, ho2, ?_⟩
    rw [e]
    exact h2 hw
noncomputable def sIx (n d : Nat) : Option Int -> Nat
  | none => d
  | some v => if v < 0 then (v + (n : Int)).toNat else min v.toNat n
theorem sIx_none (n d : Nat) : sIx n d none = d := rfl
theorem sIx_nat (n d k : Nat) : sIx n d (some (k : Int)) = min k n := by
  show (if (k : Int) < 0 then ((k : Int) + (n : Int)).toNat else min (k : Int).toNat n) = min k n
  rw [if_neg (by omega), Int.toNat_natCast]
theorem sIx_le (n d : Nat) (hd : d <= n) (o : Option Int) : sIx n d o <= n := by
  cases o with
  | none => exact hd
  | some v =>
    show (if v < 0 then (v + (n : Int)).toNat else min v.toNat n) <= n
    by_cases hv : v < 0
    · rw [if_pos hv]; omega
    · rw [if_neg hv]; exact Nat.min_le_right _ _
theorem clip_eq (v : Int) (n d : Nat) : (if v < 0 then max (v + (n : Int)) 0 else min v (n : Int)) = ((sIx n d (some v) : Nat) : Int) := by
  show (if v < 0 then max (v + (n : Int)) 0 else min v (n : Int)) = (((if v < 0 then (v + (n : Int)).toNat else min v.toNat n) : Nat) : Int)
  by_cases hv : v < 0
  · simp only [if_pos hv]; omega
  · simp only [if_neg hv]; omega
theorem adjust_gen (lo hi : Option Int) (n : Nat) : Builtin.Slice.sliceAdjust lo hi 1 (n : Int) = (((sIx n 0 lo : Nat) : Int), ((sIx n n hi : Nat) : Int)) := by
  have h1 : ¬ ((1 : Int) < 0) := by omega
  unfold Builtin.Slice.sliceAdjust
  simp only [h1, if_false]
  refine Prod.ext ?_ ?_
  · cases lo with
    | none => rfl
    | some v => exact clip_eq v n 0
  · cases hi with
    | none => rfl
    | some v => exact clip_eq v n n
theorem places_gen (i j : Nat) : Builtin.Slice.slicePlaces (i : Int) (j : Int) 1 = j - i := by
  unfold Builtin.Slice.slicePlaces
  have h1 : (1 : Int) > 0 := by omega
  simp only [h1, if_true, Int.ediv_one]
  split <;> omega
theorem slicePart_ {v : Value} {o : Option Int} {Q : Option Int -> Shared -> Prop} (p : IsPart v o) (h : Q o s) : wpAny (model prog w) A (Builtin.Slice.slicePartIndex v) Q E s := by
  cases p with
  | none => exact slicePart_none h
  | int i t => exact slicePart_int h
theorem sliceApplied_gen {sl : Addr} {vl vu : Value} {lo hi : Option Int} {n : Nat} {Q : Int × Int × Nat -> Shared -> Prop} (hs : s.heap.IsSliceOf sl vl vu .none) (pl : IsPart vl lo) (pu : IsPart vu hi)
    (h : Q (((sIx n 0 lo : Nat) : Int), 1, sIx n n hi - sIx n 0 lo) s) : wpAny (model prog w) A (Builtin.Slice.sliceApplied (.ref sl) (pure (n : Int))) Q E s := by
  obtain ⟨os, hos, hcs, hds⟩ := id hs
  unfold Builtin.Slice.sliceApplied Builtin.Slice.sliceFields
  refine wpAny_bind (wpAny_bind (wpAny_field hos hds (x := vl) rfl (wpAny_bind (wpAny_field hos hds (x := vu) rfl (wpAny_bind (wpAny_field hos hds (x := .none) rfl (wpAny_pure ?_)))))))
  refine wpAny_bind (slicePart_none ?_)
  show wpAny _ _ (if ((1 : Int) == 0) = true then _ else _) _ _ s
  rw [if_neg (by decide)]
  refine wpAny_bind (slicePart_ pl (wpAny_bind (slicePart_ pu (wpAny_bind (wpAny_pure ?_)))))
  show wpAny _ _ (match Builtin.Slice.sliceAdjust lo hi 1 (n : Int) with | (lo, hi) => pure (lo, (1 : Int), Builtin.Slice.slicePlaces lo hi 1)) _ _ s
  rw [adjust_gen lo hi n]
  show wpAny _ _ (pure (((sIx n 0 lo : Nat) : Int), (1 : Int), Builtin.Slice.slicePlaces ((sIx n 0 lo : Nat) : Int) ((sIx n n hi : Nat) : Int) 1)) _ _ s
  rw [places_gen]
  exact wpAny_pure h
theorem pick_gen (xs : Array Value) (i k : Nat) : ((List.range k).filterMap fun (m : Nat) => xs[((i : Int) + (m : Int) * 1).toNat]?).toArray = ((xs.toList.drop i).take k).toArray := by
  have e : (fun (m : Nat) => xs[((i : Int) + (m : Int) * 1).toNat]?) = fun m => xs[i + m]? := by
    funext m
    have : ((i : Int) + (m : Int) * 1).toNat = i + m := by omega
    rw [this]
  rw [e]
  have := pick_run xs i k
  rw [List.filterMap_map] at this
  have e2 : ((fun x => xs[x]?) ∘ fun x => i + x) = fun m => xs[i + m]? := rfl
  rw [e2] at this
  rw [this]
theorem getItem_tuple_cut {t sl : Addr} {items : Array Value} {vl vu : Value} {lo hi : Option Int} {Q : Value -> Shared -> Prop} (ht : IsTup s.heap t items) (hs : s.heap.IsSliceOf sl vl vu .none) (pl : IsPart vl lo) (pu : IsPart vu hi)
    (hw : ¬ (sIx items.size 0 lo = 0 /\ sIx items.size items.size hi = items.size))
    (h : Q (.ref s.heap.objs.size) { s with heap := s.heap.push { cls := .type "tuple", data := .seq ((items.toList.drop (sIx items.size 0 lo)).take (sIx items.size items.size hi - sIx items.size 0 lo)).toArray } })
    (hsz : items.size <= sizeLine) : wpAny (model prog w) A (getItem (.ref t) (.ref sl)) Q E s := by
  have htake : sizeOk (.seq ((items.toList.drop (sIx items.size 0 lo)).take (sIx items.size items.size hi - sIx items.size 0 lo)).toArray) := by
    show ((items.toList.drop (sIx items.size 0 lo)).take (sIx items.size items.size hi - sIx items.size 0 lo)).toArray.size <= sizeLine
    rw [List.size_toArray, List.length_take, List.length_drop, Array.length_toList]
    omega
  have hj : sIx items.size items.size hi <= items.size := sIx_le _ _ (Nat.le_refl _) hi
  obtain ⟨os, hos, hcs, hds⟩ := id hs
  have hTs : s.TypeIs (.ref sl) "slice" := ⟨os, hos, hcs⟩
  unfold getItem
  try with_reducible refine wpAny_holding ?_
  first | refine wpAny_bind (wpAny_pure ?_) | skip
  refine wpAny_bind (wpAny_sequenceKey ht.typeIs (by decide) ?_)
  refine wpAny_bind (wpAny_callSpecial?_slot (name := Str.ofString "__getitem__") ht.typeIs PyProof.Rows.slot_tuple_getitem
    (wpAny_call_entry PyProof.Rows.slot_tuple_getitem ht.typeIs entry_tuple_getitem ?_ (args_tuple_getitem _ _)))
  show wpAny _ _ (Builtin.Tuple.tupleItemsOf (.ref t) >>= _) _ _ s
  refine wpAny_bind (tupleItemsOf_ ht ?_)
  refine wpAny_bind (wpAny_typeOf hTs ?_)
  rw [if_pos (by decide)]
  refine wpAny_bind (sliceApplied_gen hs pl pu ?_)
  have hno : ¬ ((((sIx items.size 0 lo : Nat) : Int) == 0 && (1 : Int) == 1 && (sIx items.size items.size hi - sIx items.size 0 lo) == items.size) = true) := by
    intro q
    rw [Bool.and_eq_true, Bool.and_eq_true] at q
    have q1 : ((sIx items.size 0 lo : Nat) : Int) = 0 := eq_of_beq q.1.1
    have q2 : sIx items.size items.size hi - sIx items.size 0 lo = items.size := eq_of_beq q.2
    exact hw ⟨by omega, by omega⟩
  show wpAny _ _ (if (((sIx items.size 0 lo : Nat) : Int) == 0 && (1 : Int) == 1 && (sIx items.size items.size hi - sIx items.size 0 lo) == items.size) = true then _ else _) _ _ s
  rw [if_neg hno, pick_gen]
  first
    | exact wpAny_bind (m := Builtin.Tuple.tupleExact _) (wpAny_newObj_type (wpAny_pure ⟨_, rfl, wpAny_pure h⟩) htake)
    | exact wpAny_bind (m := Builtin.Tuple.tupleExact _) (wpAny_newObj_type (wpAny_bind (wpAny_pure (wpAny_pure ⟨_, rfl, wpAny_pure h⟩))) htake)
    | exact wpAny_bind (wpAny_bind (m := Builtin.Tuple.tupleExact _) (wpAny_newObj_type (wpAny_pure (wpAny_pure ⟨_, rfl, wpAny_pure h⟩)) htake))
    | exact wpAny_bind (wpAny_bind (m := Builtin.Tuple.tupleExact _) (wpAny_newObj_type (wpAny_pure ⟨_, rfl, wpAny_pure h⟩) htake))
end
end HT
namespace L2
open PySem PySem.Spec PyProof.Rows
noncomputable abbrev TO := St -> Hp -> (Option Int -> Hp -> Prop) -> Prop
noncomputable def PO (X : Cx) (e : Option Expr) (t : TO) : Prop :=
  ∀ (pins : List (Addr × Obj)) (s : Shared) (σ : St) (H : Hp) (Q : Option Int -> Hp -> Prop), Inv X pins σ H s -> t σ H Q ->
    wpAny (model X.prog X.w) X.A (evalPart e X.env) (fun u s' => ∃ o H', Inv X pins σ H' s' /\ IsPart u o /\ Q o H') X.xe s
noncomputable def tNoPart : TO := fun _ H Q => Q none H
noncomputable def tPart (t : TE) : TO := fun σ H Q => t σ H fun x H1 => ∃ i, x = .int i /\ Q (some i) H1
section
variable {X : Cx} {e : Expr} {te : TE} {lo hi : Option Expr} {tl th : TO} {pos p2 : Pos}
theorem po_none : PO X none tNoPart := by
  intro pins s σ H Q I h
  rw [evalPart_none]
  exact wpAny_pure ⟨none, H, I, .none, h⟩
theorem po_some (h : PE X e te) : PO X (some e) (tPart te) := by
  intro pins s σ H Q I hw
  rw [evalPart_some]
  refine thn (h pins s σ H _ I hw) fun u s1 ⟨x, H1, I1, r1, q1⟩ => ?_
  obtain ⟨i, rfl, q⟩ := q1
  obtain ⟨t, rfl⟩ := r1
  exact ⟨some i, H1, I1, .int i t, q⟩
noncomputable def SlR (X : Cx) (r : V -> Option Int -> Option Int -> Hp -> VK -> Prop) : Prop :=
  ∀ (pins : List (Addr × Obj)) (s : Shared) (σ : St) (H : Hp) (x : V) (v vl vu : Value) (lo hi : Option Int) (sl : Addr) (Q : VK), Inv X pins σ H s -> RelV x v -> s.heap.IsSliceOf sl vl vu .none -> IsPart vl lo -> IsPart vu hi -> r x lo hi H Q ->
    ∃ T id, typeLookup (.type T) "__getitem__" = pure (some (.builtin id)) /\ s.TypeIs v T /\ wpAny (model X.prog X.w) X.A (getItem v (.ref sl)) (EP X pins σ Q) X.xe s
theorem SlR.or {r r' : V -> Option Int -> Option Int -> Hp -> VK -> Prop} (h : SlR X r) (h' : SlR X r') : SlR X (fun x lo hi H Q => r x lo hi H Q \/ r' x lo hi H Q) := by
  intro pins s σ H x v vl vu lo hi sl Q I rx hs pl pu q
  rcases q with q | q
  · exact h pins s σ H x v vl vu lo hi sl Q I rx hs pl pu q
  · exact h' pins s σ H x v vl vu lo hi sl Q I rx hs pl pu q
noncomputable def tSl (r : V -> Option Int -> Option Int -> Hp -> VK -> Prop) (te : TE) (tl th : TO) : TE := fun σ H Q => te σ H fun x H1 => tl σ H1 fun l H2 => th σ H2 fun u H3 => r x l u H3 Q
theorem pe_slice {r : V -> Option Int -> Option Int -> Hp -> VK -> Prop} (hr : SlR X r) (he : PE X e te) (hl : PO X lo tl) (hu : PO X hi th) : PE X (.Subscript e (.Slice lo hi none p2) pos) (tSl r te tl th) := by
  intro pins s σ H Q I h
  refine Subscript_ (thn (he pins s σ H _ I h) fun v s1 ⟨x, H1, I1, r1, q1⟩ => ?_)
  refine wpAny_Slice (thn (hl pins s1 σ H1 _ I1 q1) fun vl s2 ⟨l, H2, I2, pl, q2⟩ => thn (hu pins s2 σ H2 _ I2 q2) fun vu s3 ⟨u, H3, I3, pu, q3⟩ => ?_)
  rw [evalPart_none]
  refine wpAny_pure ?_
  have I4 : Inv X pins σ H3 { s3 with heap := s3.heap.push { cls := .type "slice", data := .fields #[vl, vu, .none] } } := I3.kept (t' := s3.toks) fun b ob q => Heap.get?_push_of_some _ q
  obtain ⟨T, id, hT, ht, hg⟩ := hr pins { s3 with heap := s3.heap.push { cls := .type "slice", data := .fields #[vl, vu, .none] } } σ H3 x v vl vu l u s3.heap.objs.size Q I4 r1 (Heap.IsSliceOf.new ..) pl pu q3
  show wpAny (model X.prog X.w) X.A (subscriptTail e (.Slice lo hi none p2) v (.ref s3.heap.objs.size)) (EP X pins σ Q) X.xe { s3 with heap := s3.heap.push { cls := .type "slice", data := .fields #[vl, vu, .none] } }
  exact tail_any (ops := [.ref s3.heap.objs.size, v]) ht hT hg (by with_unfolding_all rfl)
noncomputable def cutV (xs : List V) (lo hi : Option Int) : List V := (xs.drop (HT.sIx xs.length 0 lo)).take (HT.sIx xs.length xs.length hi - HT.sIx xs.length 0 lo)
theorem cutV_length (xs : List V) (lo hi : Option Int) : (cutV xs lo hi).length <= xs.length := by
  unfold cutV
  rw [List.length_take, List.length_drop]
  omega
noncomputable def rSlT (K : PySem.W.Frag) : V -> Option Int -> Option Int -> Hp -> VK -> Prop := fun x lo hi H Q => ∃ a xs, x = .ref a /\ SqT K H a xs /\
  ¬ (HT.sIx xs.length 0 lo = 0 /\ HT.sIx xs.length xs.length hi = xs.length) /\ ∀ p, H p = none -> Q (.ref p) (upd H p (.tup (cutV xs lo hi)))
theorem sl_tup : SlR X (rSlT X.K) := by
  intro pins s σ H x v vl vu lo hi sl Q I rx hs pl pu h
  obtain ⟨a, xs, rfl, hx, hw, q⟩ := h
  cases rx
  obtain ⟨its, r, ht, hz⟩ := I.tuple hx
  have hlen : its.toArray.size = xs.length := by rw [List.size_toArray]; exact r.length.symm
  refine ⟨"tuple", _, PyProof.Rows.slot_tuple_getitem.lookup, ht.typeIs, ?_⟩
  refine HT.getItem_tuple_cut ht hs pl pu (by rw [hlen]; exact hw) ?_ (by rw [hlen]; exact hz)
  rw [hlen]
  refine ⟨.ref s.heap.objs.size, _, I.laid (t' := s.toks) (o := .tup (cutV xs lo hi)) (fun b ob q => Heap.get?_push_of_some _ q) (Nat.le_refl _) ?_, rfl, q _ (I.hok.fresh (Nat.le_refl _))⟩
  exact ⟨Nat.le_trans (cutV_length xs lo hi) hz, _, (r.drop (HT.sIx xs.length 0 lo)).take (HT.sIx xs.length xs.length hi - HT.sIx xs.length 0 lo), IsTup.new _ _, _, Heap.get?_push_size _ rfl, rfl⟩
noncomputable def rCatT (K : PySem.W.Frag) : R2 := fun x y H Q => ∃ a b xs ys, x = .ref a /\ y = .ref b /\ SqT K H a xs /\ SqT K H b ys /\ xs ≠ [] /\ xs.length + ys.length <= sizeLine /\
  (ys = [] -> Q (.ref a) H) /\ (ys ≠ [] -> ∀ p, H p = none -> Q (.ref p) (upd H p (.tup (xs ++ ys))))
theorem Vals.nil_iff {xs : List V} {us : List Value} (r : Vals xs us) : us = [] ↔ xs = [] := by
  cases r with
  | nil => simp
  | cons _ _ => simp
theorem op_catT : OpR X (binaryOp .Add) (rCatT X.K) := by
  intro pins s σ H x y v u Q I rx ry h
  obtain ⟨a, b, xs, ys, rfl, rfl, ha, hb, hx, hz, q1, q2⟩ := h
  cases rx
  cases ry
  obtain ⟨its, r1, p1, _⟩ := I.tuple ha
  obtain ⟨its2, r2, p2, _⟩ := I.tuple hb
  refine HT.cat_tup p1 p2 (fun z => hx (r1.nil_iff.mp z)) (fun z => ⟨.ref a, H, I, rfl, q1 (r2.nil_iff.mp z)⟩) (fun z => ?_) (by rw [<- r1.length, <- r2.length]; exact hz)
  refine ⟨.ref s.heap.objs.size, _, I.laid (t' := s.toks) (o := .tup (xs ++ ys)) (fun b ob q => Heap.get?_push_of_some _ q) (Nat.le_refl _) ?_, rfl, q2 (fun w => z (r2.nil_iff.mpr w)) _ (I.hok.fresh (Nat.le_refl _))⟩
  exact ⟨by rw [List.length_append]; exact hz, _, r1.append r2, IsTup.new _ _, _, Heap.get?_push_size _ rfl, rfl⟩
end
end L2
namespace L2
open PySem PySem.Spec PyProof.Rows
noncomputable def ixN (n : Nat) (i : Int) : Option Nat := if 0 <= i then (if i < n then some i.toNat else none) else if -(n : Int) <= i then some (i + n).toNat else none
noncomputable def atI {α : Type} (xs : List α) (i : Int) : Option α := (ixN xs.length i).bind fun j => xs[j]?
theorem ixN_seq {n : Nat} {i : Int} {j : Nat} (h : ixN n i = some j) : seqIndex? i n = some j /\ j < n /\ -(n : Int) <= i /\ i < n := by
  unfold ixN at h
  by_cases h0 : 0 <= i
  · rw [if_pos h0] at h
    by_cases h1 : i < n
    · rw [if_pos h1] at h
      have e : i.toNat = j := Option.some.inj h
      exact ⟨by rw [seqIndex_of h0 h1, e], by omega, by omega, h1⟩
    · rw [if_neg h1] at h; cases h
  · rw [if_neg h0] at h
    by_cases h1 : -(n : Int) <= i
    · rw [if_pos h1] at h
      have e : (i + n).toNat = j := Option.some.inj h
      exact ⟨by rw [seqIndex_neg (by omega) h1, e], by omega, h1, by omega⟩
    · rw [if_neg h1] at h; cases h
theorem atI_get {α : Type} {xs : List α} {i : Int} {v : α} (h : atI xs i = some v) : ∃ j, seqIndex? i xs.length = some j /\ xs[j]? = some v /\ j < xs.length /\ -(xs.length : Int) <= i /\ i < xs.length := by
  unfold atI at h
  cases e : ixN xs.length i with
  | none => rw [e] at h; cases h
  | some j =>
    rw [e] at h
    obtain ⟨h1, h2, h3, h4⟩ := ixN_seq e
    exact ⟨j, h1, h, h2, h3, h4⟩
theorem atI_nat {α : Type} {xs : List α} {j : Nat} {v : α} (h : xs[j]? = some v) : atI xs (j : Int) = some v := by
  have hj : j < xs.length := (List.getElem?_eq_some_iff.mp h).1
  have e : ixN xs.length (j : Int) = some j := by
    unfold ixN
    rw [if_pos (by omega), if_pos (by omega)]; simp
  unfold atI; rw [e]; exact h
noncomputable def PlainIx (b : Expr) : Prop := ∀ o i, subscripted b false o i = operate [o, i] (getItem o i)
noncomputable def IxR (X : Cx) (r : R2) : Prop :=
  ∀ (value slice : Expr) (pins : List (Addr × Obj)) (s : Shared) (σ : St) (H : Hp) (x y : V) (v u : Value) (Q : VK), Inv X pins σ H s -> RelV x v -> RelV y u -> r x y H Q ->
    subscripted slice false v u = operate [v, u] (getItem v u) -> wpAny (model X.prog X.w) X.A (subscriptTail value slice v u) (EP X pins σ Q) X.xe s
noncomputable def MtR (X : Cx) (id : String) (r : V -> List V -> Hp -> VK -> Prop) : Prop :=
  ∀ (pins : List (Addr × Obj)) (s : Shared) (σ : St) (H : Hp) (x : V) (xs : List V) (v : Value) (us : List Value) (Q : VK), Inv X pins σ H s -> RelV x v -> Vals xs us -> r x xs H Q ->
    wpAny (model X.prog X.w) X.A (call (.builtin id) (v :: us)) (EP X pins σ Q) X.xe s
section
variable {X : Cx} {a b : Expr} {ta tb : TE} {pos : Pos}
theorem IxR.or {r r' : R2} (h : IxR X r) (h' : IxR X r') : IxR X (fun x y H Q => r x y H Q \/ r' x y H Q) := by
  intro value slice pins s σ H x y v u Q I rx ry q hs
  rcases q with q | q
  · exact h value slice pins s σ H x y v u Q I rx ry q hs
  · exact h' value slice pins s σ H x y v u Q I rx ry q hs
theorem pe_ix {r : R2} (hr : IxR X r) (ha : PE X a ta) (hb : PE X b tb) (hs : PlainIx b) : PE X (.Subscript a b pos) (tOp r ta tb) := by
  intro pins s σ H Q I h
  exact Subscript_ (binT ha hb I h fun v u s2 x y H2 I2 rx ry q => hr a b pins s2 σ H2 x y v u Q I2 rx ry q (hs _ _))
noncomputable def rIxL (K : PySem.W.Frag) : R2 := fun x y H Q => ∃ p xs i v, x = .ref p /\ y = .int i /\ SqL K H p xs /\ atI xs i = some v /\ Q v H
noncomputable def rIxT (K : PySem.W.Frag) : R2 := fun x y H Q => ∃ p xs i v, x = .ref p /\ y = .int i /\ SqT K H p xs /\ atI xs i = some v /\ Q v H
noncomputable def rIxS : R2 := fun x y H Q => ∃ z i c, x = .str z /\ y = .int i /\ z.length <= sizeLine /\ atI z.cps.toList i = some c /\ Q (.str ⟨#[c]⟩) H
theorem ix_list : IxR X (rIxL X.K) := by
  intro value slice pins s σ H x y v u Q I rx ry h hs
  obtain ⟨p, xs, i, z, rfl, rfl, hq, he, q⟩ := h
  cases rx
  obtain ⟨t, rfl⟩ := ry
  obtain ⟨its, r, pl, hz⟩ := I.list hq
  obtain ⟨j, h1, h2, h3, h4, h5⟩ := atI_get he
  obtain ⟨w, ew, rw'⟩ := r.get h2
  have hl := r.length
  have hn := line63
  have fin : EP X pins σ Q w s := ⟨z, H, I, rw', q⟩
  by_cases h0 : 0 <= i
  · have hj : i.toNat = j := by
      rw [seqIndex_of h0 h5] at h1
      exact Option.some.inj h1
    exact item_listR pl.isList h0 (by omega) (by rw [hj]; simpa using ew) fin hs
  · have hj : (i + (its.toArray.size : Int)).toNat = j := by
      rw [seqIndex_neg (by omega) h4] at h1
      rw [List.size_toArray, <- hl]
      exact Option.some.inj h1
    exact subscriptTail_builtinR (x := w) pl.isList.typeIs slot_list_getitem.lookup
      (wpAny_getItem_list_neg (Q := fun r s' => r = w /\ EP X pins σ Q r s') pl.isList (by omega) (by rw [List.size_toArray] <;> omega) (by omega) (by rw [hj]; simpa using ew) ⟨rfl, fin⟩) hs
theorem ix_tup : IxR X (rIxT X.K) := by
  intro value slice pins s σ H x y v u Q I rx ry h hs
  obtain ⟨p, xs, i, z, rfl, rfl, hq, he, q⟩ := h
  cases rx
  obtain ⟨t, rfl⟩ := ry
  obtain ⟨its, r, pl, hz⟩ := I.tuple hq
  obtain ⟨j, h1, h2, h3, h4, h5⟩ := atI_get he
  obtain ⟨w, ew, rw'⟩ := r.get h2
  have hl := r.length
  have hn := line63
  have fin : EP X pins σ Q w s := ⟨z, H, I, rw', q⟩
  exact subscriptTail_builtinR (x := w) pl.typeIs slot_tuple_getitem.lookup
    (getItem_tuple (j := j) (Q := fun r s' => r = w /\ EP X pins σ Q r s') pl (by omega) (by omega) (by rw [List.size_toArray, <- hl]; exact h1) (by simpa using ew) ⟨rfl, fin⟩) hs
theorem ix_str : IxR X rIxS := by
  intro value slice pins s σ H x y v u Q I rx ry h hs
  obtain ⟨z, i, c, rfl, rfl, hz, he, q⟩ := h
  obtain ⟨t, rfl⟩ := rx
  obtain ⟨t', rfl⟩ := ry
  obtain ⟨j, h1, h2, h3, h4, h5⟩ := atI_get he
  have hl : z.cps.toList.length = z.length := by simp [Str.length]
  rw [hl] at h1 h4 h5
  have hn := line63
  exact tail_any (typeIs_str s z t) slot_str_getitem.lookup (getItem_str (c := c) (by
    have e1 : decide (i < -(2 ^ 63 : Int)) = false := decide_eq_false (by omega)
    have e2 : decide (i ≥ 2 ^ 63) = false := decide_eq_false (by omega)
    rw [e1, e2, Bool.or_false]) (by rw [h1]; simpa using h2) ⟨.str ⟨#[c]⟩, H, I.tok _, ⟨_, rfl⟩, q⟩) hs
noncomputable def rIx (K : PySem.W.Frag) : R2 := fun x y H Q => rIxL K x y H Q \/ rIxT K x y H Q \/ rIxS x y H Q
theorem ix_seq : IxR X (rIx X.K) := ix_list.or (ix_tup.or ix_str)
theorem mapSeq_set (its : List Value) (n j : Nat) (u : Value) : Obj.mapSeq (·.setIfInBounds j u) { cls := .type "list", data := .seq its.toArray n } = { cls := .type "list", data := .seq (its.set j u).toArray n } := by
  simp [Obj.mapSeq]
theorem Inv.lst {pins : List (Addr × Obj)} {σ : St} {H : Hp} {s : Shared} {p : Addr} {xs : List V} (I : Inv X pins σ H s) (h : H p = some (.lst xs)) :
    ∃ (its : List Value) (n : Nat), Vals xs its /\ s.heap.get? p = some { cls := .type "list", data := .seq its.toArray n } /\ xs.length <= sizeLine := by
  obtain ⟨z, its, n, r, e⟩ := I.hok p _ h
  exact ⟨its, n, r, e, z⟩
theorem Inv.lstUpd {pins : List (Addr × Obj)} {σ : St} {H : Hp} {s : Shared} {p : Addr} {xs ys : List V} {its its' : List Value} {n n' : Nat} {f : Obj -> Obj} (I : Inv X pins σ H s) (h : H p = some (.lst xs))
    (ho : s.heap.get? p = some { cls := .type "list", data := .seq its.toArray n }) (hf : f { cls := .type "list", data := .seq its.toArray n } = { cls := .type "list", data := .seq its'.toArray n' }) (r : Vals ys its') (hz : ys.length <= sizeLine) (t : Nat) :
    Inv X pins σ (upd H p (.lst ys)) { s with heap := s.heap.update p f, toks := t } := by
  have e : (s.heap.update p f).get? p = some { cls := .type "list", data := .seq its'.toArray n' } := by
    rw [Heap.get?_update_self f ho (by rw [hf] <;> rfl), hf]
  refine I.write (x := p) (e := p) (by rw [h]; trivial) (.inl rfl) (fun b u hb q => (Heap.get?_update_other _ _ (Ne.symm hb)).trans q) ⟨_, e⟩ ?_
  exact ⟨hz, its', n', r, e⟩
noncomputable def rSetL : V -> V -> V -> Hp -> (Hp -> Prop) -> Prop := fun o i v H Q => ∃ p xs k j, o = .ref p /\ i = .int k /\ H p = some (.lst xs) /\ ixN xs.length k = some j /\ Q (upd H p (.lst (xs.set j v)))
theorem set_list : PSet X rSetL := by
  intro pins s σ H o i v ov iv u Q I ro ri rv h
  obtain ⟨p, xs, k, j, rfl, rfl, hp, hj, q⟩ := h
  cases ro
  obtain ⟨t, rfl⟩ := ri
  obtain ⟨its, n, r, ho, hz⟩ := I.lst hp
  obtain ⟨h1, h2, h3, h4⟩ := ixN_seq hj
  have hl := r.length
  have hn := line63
  have I' : Inv X pins σ (upd H p (.lst (xs.set j v))) { s with heap := s.heap.update p (Obj.mapSeq (·.setIfInBounds j u)) } :=
    I.lstUpd hp ho (mapSeq_set its n j u) (r.set rv j) (by rw [List.length_set]; exact hz) s.toks
  by_cases h0 : 0 <= k
  · have hk : k.toNat = j := by
      rw [seqIndex_of h0 h4] at h1
      exact Option.some.inj h1
    exact PySem.W.ki_setAt ho h0 (by omega) (by rw [List.size_toArray, <- hl]; exact h4) (by rw [hk]; exact ⟨_, I', q⟩)
  · have hk : (k + (its.toArray.size : Int)).toNat = j := by
      rw [seqIndex_neg (by omega) h3] at h1
      rw [List.size_toArray, <- hl]
      exact Option.some.inj h1
    exact PySem.W.ki_setBack ho (by omega) (by rw [List.size_toArray, <- hl]; exact h3) (by omega) (by rw [hk]; exact ⟨_, I', q⟩)
theorem slice_bounds (lo hi : Option Int) (n : Nat) : (sliceBounds lo hi none n).1 = ((HT.sIx n 0 lo : Nat) : Int) /\ (sliceBounds lo hi none n).2.1 = ((HT.sIx n n hi : Nat) : Int) /\ (sliceBounds lo hi none n).2.2 = 1 := by
  refine ⟨?_, ?_, rfl⟩
  · cases lo with
    | none => simp [sliceBounds, HT.sIx]
    | some i =>
      simp only [sliceBounds, HT.sIx, Option.getD_none, show (1 : Int) > 0 by decide, if_true]
      by_cases h : i < 0
      · simp only [h, if_true] <;> omega
      · simp only [h, if_false] <;> omega
  · cases hi with
    | none => simp [sliceBounds, HT.sIx]
    | some i =>
      simp only [sliceBounds, HT.sIx, Option.getD_none, show (1 : Int) > 0 by decide, if_true]
      by_cases h : i < 0
      · simp only [h, if_true] <;> omega
      · simp only [h, if_false] <;> omega
theorem slicePick_cut (its : List Value) (lo hi : Option Int) : slicePick its.toArray lo hi none = ((its.drop (HT.sIx its.length 0 lo)).take (HT.sIx its.length its.length hi - HT.sIx its.length 0 lo)).toArray := by
  obtain ⟨h1, h2, h3⟩ := slice_bounds lo hi its.toArray.size
  unfold slicePick
  rw [h1, h2, h3]
  simp only [sliceRange_one, pick_run, List.size_toArray] <;> rfl
noncomputable def rSlL (K : PySem.W.Frag) : V -> Option Int -> Option Int -> Hp -> VK -> Prop := fun x lo hi H Q => ∃ a xs, x = .ref a /\ SqL K H a xs /\ ∀ p, H p = none -> Q (.ref p) (upd H p (.lst (cutV xs lo hi)))
theorem sl_list : SlR X (rSlL X.K) := by
  intro pins s σ H x v vl vu lo hi sl Q I rx hs pl pu h
  obtain ⟨a, xs, rfl, hx, q⟩ := h
  cases rx
  obtain ⟨its, r, ht, hz⟩ := I.list hx
  have hlen := r.length
  refine ⟨"list", _, slot_list_getitem.lookup, ht.isList.typeIs, ?_⟩
  refine wpAny_getItem_list_slice ht.isList hs pl pu .none (by simp) ?_ (by rw [List.size_toArray] <;> omega)
  rw [slicePick_cut, <- hlen]
  refine ⟨.ref s.heap.objs.size, _, I.laid (t' := s.toks) (o := .lst (cutV xs lo hi)) (fun b ob q => Heap.get?_push_of_some _ q) (Nat.le_refl _) ?_, rfl, q _ (I.hok.fresh (Nat.le_refl _))⟩
  exact ⟨Nat.le_trans (cutV_length xs lo hi) hz, _, 0, (r.drop (HT.sIx xs.length 0 lo)).take (HT.sIx xs.length xs.length hi - HT.sIx xs.length 0 lo), Heap.get?_push_size _ rfl⟩
noncomputable def flatV : V -> Bool
  | .non => true
  | .bl _ => true
  | .int _ => true
  | .str _ => true
  | _ => false
noncomputable def eqV : V -> V -> Bool
  | .non, .non => true
  | .bl a, .bl b => a == b
  | .bl a, .int b => (if a then 1 else 0) == b
  | .int a, .bl b => a == (if b then 1 else 0)
  | .int a, .int b => a == b
  | .str a, .str b => a == b
  | _, _ => false
theorem eqAt_V {A : Around} {s : Shared} {y x : V} {u v : Value} (ry : RelV y u) (rx : RelV x v) (fy : flatV y = true) (fx : flatV x = true) : SeqAt.EqAt A s u v (eqV y x) := by
  cases y with
  | non =>
    cases ry
    cases x with
    | non => cases rx; exact SeqAt.EqAt.same _
    | bl b => cases rx; exact SeqAt.EqAt.none_bool b
    | int b => obtain ⟨t, rfl⟩ := rx; exact SeqAt.EqAt.none_int b t
    | str b => obtain ⟨t, rfl⟩ := rx; exact SeqAt.EqAt.none_str b t
    | _ => exact absurd (show false = true from fx) Bool.false_ne_true
  | bl a =>
    cases ry
    cases x with
    | non => cases rx; exact SeqAt.EqAt.bool_none a
    | bl b => cases rx; exact SeqAt.EqAt.bool_bool a b
    | int b => obtain ⟨t, rfl⟩ := rx; exact SeqAt.EqAt.bool_int a b t
    | str b => obtain ⟨t, rfl⟩ := rx; exact SeqAt.EqAt.bool_str a b t
    | _ => exact absurd (show false = true from fx) Bool.false_ne_true
  | int a =>
    obtain ⟨t', rfl⟩ := ry
    cases x with
    | non => cases rx; exact SeqAt.EqAt.int_none a t'
    | bl b => cases rx; exact SeqAt.EqAt.int_bool a t' b
    | int b => obtain ⟨t, rfl⟩ := rx; exact SeqAt.EqAt.int_int a t' b t
    | str b => obtain ⟨t, rfl⟩ := rx; exact SeqAt.EqAt.int_str a t' b t
    | _ => exact absurd (show false = true from fx) Bool.false_ne_true
  | str a =>
    obtain ⟨t', rfl⟩ := ry
    cases x with
    | non => cases rx; exact SeqAt.EqAt.str_none a t'
    | bl b => cases rx; exact SeqAt.EqAt.str_bool a t' b
    | int b => obtain ⟨t, rfl⟩ := rx; exact SeqAt.EqAt.str_int a t' b t
    | str b => obtain ⟨t, rfl⟩ := rx; exact SeqAt.EqAt.str_str a t' b t
    | _ => exact absurd (show false = true from fx) Bool.false_ne_true
  | _ => exact absurd (show false = true from fy) Bool.false_ne_true
noncomputable def eqU (x : V) (u : Value) : Bool := match u with
  | .none => eqV .non x
  | .bool b => eqV (.bl b) x
  | .int i _ => eqV (.int i) x
  | .str z _ => eqV (.str z) x
  | _ => false
theorem eqU_of {x y : V} {u : Value} (r : RelV y u) (f : flatV y = true) : eqU x u = eqV y x := by
  cases y with
  | non => cases r; rfl
  | bl b => cases r; rfl
  | int i => obtain ⟨t, rfl⟩ := r; rfl
  | str z => obtain ⟨t, rfl⟩ := r; rfl
  | _ => exact absurd (show false = true from f) Bool.false_ne_true
theorem any_eqU {x : V} : ∀ {xs : List V} {us : List Value}, Vals xs us -> xs.all flatV = true -> us.any (eqU x) = xs.any fun y => eqV y x
  | _, _, .nil, _ => rfl
  | y :: xs, u :: us, .cons r t, f => by
    rw [List.all_cons, Bool.and_eq_true] at f
    rw [List.any_cons, List.any_cons, eqU_of r f.1, any_eqU t f.2]
theorem mem_eqAt {A : Around} {s : Shared} {x : V} {v : Value} (rx : RelV x v) (fx : flatV x = true) : ∀ {xs : List V} {us : List Value}, Vals xs us -> xs.all flatV = true -> ∀ u ∈ us, SeqAt.EqAt A s u v (eqU x u)
  | _, _, .nil, _ => fun u hu => by cases hu
  | y :: xs, u :: us, .cons r t, f => fun u' hu => by
    rw [List.all_cons, Bool.and_eq_true] at f
    rcases List.mem_cons.mp hu with rfl | hu
    · rw [eqU_of r f.1]; exact eqAt_V r rx f.1 fx
    · exact mem_eqAt rx fx t f.2 u' hu
noncomputable def inV (x : V) (xs : List V) : Bool := xs.any fun y => eqV y x
noncomputable def rIn (K : PySem.W.Frag) (neg : Bool) : R2 := fun x y H Q => ∃ p xs, y = .ref p /\ (SqL K H p xs \/ SqT K H p xs) /\ flatV x = true /\ xs.all flatV = true /\ Q (.bl (if neg then !inV x xs else inV x xs)) H
theorem op_in_seq : OpR X (compareOp .In) (rIn X.K false) := by
  intro pins s σ H x y v u Q I rx ry h
  obtain ⟨p, xs, rfl, hq, fx, fs, q⟩ := h
  cases ry
  rcases hq with hq | hq
  · obtain ⟨its, r, pl, hz⟩ := I.list hq
    refine SeqAt.in_listAt (eqU x) pl.isList (fun w hw => mem_eqAt rx fx r fs w (by simpa using hw)) ⟨.bl _, H, I, rfl, ?_⟩
    rw [show its.toArray.any (eqU x) = its.any (eqU x) by simp, any_eqU r fs]
    exact q
  · obtain ⟨its, r, pl, hz⟩ := I.tuple hq
    refine SeqAt.in_tupleAt (eqU x) pl (fun w hw => mem_eqAt rx fx r fs w (by simpa using hw)) ⟨.bl _, H, I, rfl, ?_⟩
    rw [show its.toArray.any (eqU x) = its.any (eqU x) by simp, any_eqU r fs]
    exact q
theorem op_notIn_seq : OpR X (compareOp .NotIn) (rIn X.K true) := by
  intro pins s σ H x y v u Q I rx ry h
  obtain ⟨p, xs, rfl, hq, fx, fs, q⟩ := h
  cases ry
  rcases hq with hq | hq
  · obtain ⟨its, r, pl, hz⟩ := I.list hq
    refine SeqAt.notIn_listAt (eqU x) pl.isList (fun w hw => mem_eqAt rx fx r fs w (by simpa using hw)) ⟨.bl _, H, I, rfl, ?_⟩
    rw [show its.toArray.any (eqU x) = its.any (eqU x) by simp, any_eqU r fs]
    exact q
  · obtain ⟨its, r, pl, hz⟩ := I.tuple hq
    refine SeqAt.notIn_tupleAt (eqU x) pl (fun w hw => mem_eqAt rx fx r fs w (by simpa using hw)) ⟨.bl _, H, I, rfl, ?_⟩
    rw [show its.toArray.any (eqU x) = its.any (eqU x) by simp, any_eqU r fs]
    exact q
theorem op_notIn_str : OpR X (compareOp .NotIn) (fun x y H Q => ∃ i j, x = .str i /\ y = .str j /\ Q (.bl (!(!(Builtin.Str.occurrences j i 0 j.length 1).isEmpty))) H) := by
  intro pins s σ H x y v u Q I rx ry h
  obtain ⟨i, j, rfl, rfl, q⟩ := h
  obtain ⟨t, rfl⟩ := rx
  obtain ⟨t', rfl⟩ := ry
  exact notIn_str ⟨.bl _, H, I, rfl, q⟩
theorem call_len_seq : CallR X (.builtin "len") (fun xs H Q => ∃ p ys, xs = [.ref p] /\ (SqL X.K H p ys \/ SqT X.K H p ys) /\ Q (.int ys.length) H) := by
  intro pins s σ H xs us Q I r h
  obtain ⟨p, ys, rfl, hq, q⟩ := h
  obtain ⟨u, rfl, rx⟩ := vals1 r
  cases rx
  have hn := line63
  rcases hq with hq | hq
  · obtain ⟨its, r', pl, hz⟩ := I.list hq
    have hlen := r'.length
    exact Calls.call_len_list pl.isList (by simp only [List.size_toArray] <;> omega) ⟨.int ys.length, H, I.tok _, ⟨s.toks + 1, by rw [List.size_toArray, hlen]⟩, q⟩
  · obtain ⟨its, r', pl, hz⟩ := I.tuple hq
    have hlen := r'.length
    exact len_tuple pl (by simp only [List.size_toArray] <;> omega) ⟨.int ys.length, H, I.tok _, ⟨s.toks + 1, by rw [List.size_toArray, hlen]⟩, q⟩
theorem call_len_str : CallR X (.builtin "len") (fun xs H Q => ∃ z, xs = [.str z] /\ z.length <= sizeLine /\ Q (.int z.length) H) := by
  intro pins s σ H xs us Q I r h
  obtain ⟨z, rfl, hz, q⟩ := h
  obtain ⟨u, rfl, t, rfl⟩ := vals1 r
  have hn := line63
  exact len_str (by omega) ⟨.int z.length, H, I.tok _, ⟨_, rfl⟩, q⟩
theorem CallR.or {f : Value} {r r' : List V -> Hp -> VK -> Prop} (h : CallR X f r) (h' : CallR X f r') : CallR X f (fun xs H Q => r xs H Q \/ r' xs H Q) := by
  intro pins s σ H xs us Q I rs q
  rcases q with q | q
  · exact h pins s σ H xs us Q I rs q
  · exact h' pins s σ H xs us Q I rs q
theorem call_list_of : CallR X (.type "list") (fun xs H Q => ∃ p ys, xs = [.ref p] /\ (SqL X.K H p ys \/ SqT X.K H p ys) /\ ∀ l, H l = none -> Q (.ref l) (upd H l (.lst ys))) := by
  intro pins s σ H xs us Q I r h
  obtain ⟨p, ys, rfl, hq, q⟩ := h
  obtain ⟨u, rfl, rx⟩ := vals1 r
  cases rx
  have fin : ∀ (its : List Value), Vals ys its -> ys.length <= sizeLine -> ∀ (h' : Heap) (c' : Nat), (∀ b o', s.heap.get? b = some o' -> h'.get? b = some o') ->
      h'.get? s.heap.objs.size = some { cls := .type "list", dict := none, data := .seq its.toArray c', slots := #[] } -> EP X pins σ Q (.ref s.heap.objs.size) { s with heap := h' } := fun its r' hz h' c' kp e =>
    ⟨.ref s.heap.objs.size, _, I.laid (t' := s.toks) kp (Nat.le_refl _) (show ObjOk X.prog X.w _ h' _ (.lst ys) from ⟨hz, its, c', r', e⟩), rfl, q _ (I.hok.fresh (Nat.le_refl _))⟩
  rcases hq with hq | hq
  · obtain ⟨its, r', pl, hz⟩ := I.list hq
    have hlen := r'.length
    obtain ⟨o, ho, hc, n, hd⟩ := pl.isList
    exact call_list_seq p (.inl rfl) ho hc hd (fun h' c' kp e => fin its r' hz h' c' kp e) (by simp only [List.size_toArray] <;> omega)
  · obtain ⟨its, r', pl, hz⟩ := I.tuple hq
    have hlen := r'.length
    obtain ⟨o, ho, hc, n, hd⟩ := pl
    exact call_list_seq p (.inr rfl) ho hc hd (fun h' c' kp e => fin its r' hz h' c' kp e) (by simp only [List.size_toArray] <;> omega)
theorem call_tuple_of : CallR X (.type "tuple") (fun xs H Q => ∃ p ys, xs = [.ref p] /\ ((SqL X.K H p ys /\ ∀ l, H l = none -> Q (.ref l) (upd H l (.tup ys))) \/ (SqT X.K H p ys /\ Q (.ref p) H))) := by
  intro pins s σ H xs us Q I r h
  obtain ⟨p, ys, rfl, h⟩ := h
  obtain ⟨u, rfl, rx⟩ := vals1 r
  cases rx
  rcases h with ⟨hq, q⟩ | ⟨hq, q⟩
  · obtain ⟨its, r', pl, hz⟩ := I.list hq
    have hlen := r'.length
    refine call_tuple_list pl.isList (fun h' kp => ?_) (by simp only [List.size_toArray] <;> omega)
    have I1 : Inv X pins σ H { s with heap := h' } := I.kept (t' := s.toks) kp
    have I2 : Inv X pins σ (upd H h'.objs.size (.tup ys)) { s with heap := h'.push { cls := .type "tuple", data := .seq its.toArray } } :=
      I1.laid (t' := s.toks) (fun b o e => Heap.get?_push_of_some _ e) (Nat.le_refl _) (show ObjOk X.prog X.w _ _ _ (.tup ys) from ⟨hz, its, r', IsTup.new _ _, _, Heap.get?_push_size _ rfl, rfl⟩)
    exact ⟨.ref h'.objs.size, _, I2, rfl, q _ (I1.hok.fresh (Nat.le_refl _))⟩
  · obtain ⟨its, r', pl, hz⟩ := I.tuple hq
    exact call_tuple_same pl ⟨.ref p, H, I, rfl, q⟩
noncomputable def tyV (K : PySem.W.Frag) (T : String) (x : V) (H : Hp) : Prop := match x with
  | .str _ => T = "str"
  | .int _ => T = "int"
  | .ref p => (T = "list" /\ ∃ xs, SqL K H p xs) \/ (T = "tuple" /\ ∃ o, K.lookup p = some o /\ o.cls = .type "tuple" /\ o.dict = none) \/
      (T = "dict" /\ ((∃ kvs, H p = some (.dK kvs)) \/ ∃ kvs, H p = some (.dT kvs))) \/ (T = "set" /\ ∃ S n, H p = some (.set S n))
  | _ => False
theorem tyV_is {pins : List (Addr × Obj)} {σ : St} {H : Hp} {s : Shared} {T : String} {x : V} {v : Value} (I : Inv X pins σ H s) (r : RelV x v) (ty : tyV X.K T x H) :
    s.TypeIs v T /\ ∀ a, v = .ref a -> ∃ ob, s.heap.get? a = some ob /\ ob.dict = none := by
  cases x with
  | str z =>
    obtain ⟨t, rfl⟩ := r
    cases (show T = "str" from ty)
    exact ⟨typeIs_str s z t, fun _ e => nomatch e⟩
  | int i =>
    obtain ⟨t, rfl⟩ := r
    cases (show T = "int" from ty)
    exact ⟨typeIs_int s i t, fun _ e => nomatch e⟩
  | ref p =>
    cases r
    rcases ty with ⟨rfl, xs, hq⟩ | ⟨rfl, o, hk, hc, hd⟩ | ⟨rfl, hk⟩ | ⟨rfl, S, n, hk⟩
    · obtain ⟨its, _, pl, _⟩ := I.list hq
      refine ⟨pl.isList.typeIs, fun a e => ?_⟩
      cases e
      obtain ⟨o, n, e, c, hd, _⟩ := pl
      exact ⟨o, e, hd⟩
    · refine ⟨⟨o, I.kIn p o hk, hc⟩, fun a e => ?_⟩
      cases e
      exact ⟨o, I.kIn _ o hk, hd⟩
    · have z : ∃ o, s.heap.get? p = some o /\ o.ExactDict := by
        rcases hk with ⟨kvs, hk⟩ | ⟨kvs, hk⟩
        · obtain ⟨_, _, _, _, o, _, _, e, ex, _⟩ := I.hok p _ hk
          exact ⟨o, e, ex⟩
        · obtain ⟨_, _, _, _, o, _, _, e, ex, _⟩ := I.hok p _ hk
          exact ⟨o, e, ex⟩
      obtain ⟨o, e, ex⟩ := z
      refine ⟨⟨o, e, ex.1⟩, fun a e2 => ?_⟩
      cases e2
      exact ⟨o, e, ex.2.1⟩
    · obtain ⟨o, _, _, _, e, ex, _⟩ := I.hok p _ hk
      refine ⟨⟨o, e, ex.1⟩, fun a e2 => ?_⟩
      cases e2
      exact ⟨o, e, ex.2.1⟩
  | _ => exact False.elim ty
noncomputable def tBM0 (K : PySem.W.Frag) (T : String) (r : V -> List V -> Hp -> VK -> Prop) (to : TE) : TE := fun σ H Q => to σ H fun x H1 => tyV K T x H1 /\ r x [] H1 Q
noncomputable def tBM (K : PySem.W.Frag) (T : String) (r : V -> List V -> Hp -> VK -> Prop) (to : TE) (t : TA) : TE := fun σ H Q => to σ H fun x H1 => tyV K T x H1 /\ t σ H1 fun xs H2 => r x xs H2 Q
variable {o e : Expr} {es : List Expr} {to : TE} {t : TA} {name : Str} {apos cpos : Pos} {T id : String} {r : V -> List V -> Hp -> VK -> Prop}
theorem pe_bm0 (pa : PlainAttrs T) (slot : Slot T name id) (hty : typeOf (.builtin id) = pure (.type "method_descriptor")) (hm : MtR X id r) (ho : PE X o to)
    (hbase : attributeBase o name X.env (eval o X.env) = eval o X.env := by rfl) (hline : (apos.endLine == cpos.line) = true := by rfl) : PE X (.Call (.Attribute o name apos) [] [] cpos) (tBM0 X.K T r to) := by
  intro pins s σ H Q I h
  refine wpAny_Call_method0_late hbase hline (thn (ho pins s σ H _ I h) fun v s1 ⟨x, H1, I1, r1, ty, q1⟩ => ?_)
  obtain ⟨h1, h2⟩ := tyV_is I1 r1 ty
  exact ⟨T, id, pa, slot, hty, h1, h2, Calls.callWith_builtin rfl (PySem.evalArgs_none (hm pins s1 σ H1 x [] v [] Q I1 r1 .nil q1))⟩
theorem pe_bm (pa : PlainAttrs T) (slot : Slot T name id) (hty : typeOf (.builtin id) = pure (.type "method_descriptor")) (hm : MtR X id r) (ho : PE X o to) (ha : PA X (e :: es) t)
    (hbase : attributeBase o name X.env (eval o X.env) = eval o X.env := by rfl)
    (hfew : ((backTo cpos (starEach (e :: es) X.env)).all (fun x => !x.1) && (backToKw cpos (keywordEach [] X.env)).all (fun x => x.1.isSome)
      && decide ((e :: es).length + ([] : List Keyword).length + (if ([] : List Keyword).isEmpty then 0 else 1) < 30)) = true := by rfl)
    (hline : (apos.endLine == cpos.line) = true := by rfl) (hs : starEach (e :: es) X.env = (false, eval e X.env) :: starEach es X.env := by rfl) (hplain : (backTo cpos (starEach es X.env)).any (·.1) = false := by rfl) :
    PE X (.Call (.Attribute o name apos) (e :: es) [] cpos) (tBM X.K T r to t) := by
  intro pins s σ H Q I h
  refine wpAny_Call_method_late hbase hfew hline rfl (thn (ho pins s σ H _ I h) fun v s1 ⟨x, H1, I1, r1, ty, q1⟩ => ?_)
  obtain ⟨h1, h2⟩ := tyV_is I1 r1 ty
  refine ⟨T, id, pa, slot, hty, h1, h2, ?_⟩
  have hA := ha cpos pins s1 σ H1 _ I1 q1
  rw [hs] at hA ⊢
  refine Calls.callWith_builtin (by show (false || (backTo cpos (starEach es X.env)).any (·.1)) = false; rw [hplain] <;> rfl) (Calls.evalArgs_plain ?_)
  exact thn hA fun us s2 ⟨vs, H2, I2, r2, q2⟩ => hm pins s2 σ H2 x vs v us Q I2 r1 r2 q2
/- xs.append(e), list.index on a module's tuple .. are MtR facts of 06m -/
end
end L2
namespace L2
open PySem PySem.Spec PyProof.Rows
noncomputable def MtM (X : Cx) (id : String) (r : V -> List V -> Hp -> VK -> Prop) : Prop :=
  ∀ (pins : List (Addr × Obj)) (s : Shared) (σ : St) (H : Hp) (x : V) (xs : List V) (v : Value) (us : List Value) (Q : VK), Inv X pins σ H s -> RelV x v -> Vals xs us -> r x xs H Q ->
    wpAny (model X.prog X.w) X.A (call (.builtin id) (v :: us)) (EP X pins σ Q) X.xe s
theorem Vals.one : ∀ {x : V} {us : List Value}, Vals [x] us -> ∃ u, us = [u] /\ RelV x u
  | _, _, .cons r .nil => ⟨_, rfl, r⟩
theorem Vals.two : ∀ {x y : V} {us : List Value}, Vals [x, y] us -> ∃ u v, us = [u, v] /\ RelV x u /\ RelV y v
  | _, _, _, .cons r (.cons q .nil) => ⟨_, _, rfl, r, q⟩
theorem Vals.zero : ∀ {us : List Value}, Vals [] us -> us = []
  | _, .nil => rfl
theorem Vals.dropLast {xs : List V} {us : List Value} (h : Vals xs us) : Vals xs.dropLast us.dropLast := by
  induction h with
  | nil => exact .nil
  | cons r t ih =>
    cases t with
    | nil => exact .nil
    | cons q t' => exact .cons r ih
theorem Vals.rep {xs : List V} {us : List Value} (h : Vals xs us) : ∀ k : Nat, Vals (List.replicate k xs).flatten (List.replicate k us).flatten
  | 0 => .nil
  | k + 1 => by
    rw [List.replicate_succ, List.replicate_succ, List.flatten_cons, List.flatten_cons]
    exact Vals.append h (Vals.rep h k)
theorem erase_last {α : Type} (l : List α) : l.eraseIdx (l.length - 1) = l.dropLast := by
  induction l with
  | nil => rfl
  | cons a r ih =>
    cases r with
    | nil => rfl
    | cons b r =>
      have e : (a :: b :: r).length - 1 = ((b :: r).length - 1) + 1 := by
        have h1 : (a :: b :: r).length = r.length + 2 := rfl
        have h2 : (b :: r).length = r.length + 1 := rfl
        omega
      rw [e, List.eraseIdx_cons_succ, ih]
      all_goals rfl
theorem foldl_rep (its : List Value) : ∀ (k : Nat) (acc : List Value),
    List.foldl (fun x1 x2 => x1 ++ x2) acc.toArray (List.replicate k its.toArray) = (acc ++ (List.replicate k its).flatten).toArray
  | 0, acc => by simp
  | k + 1, acc => by
    have e : acc.toArray ++ its.toArray = (acc ++ its).toArray := by simp
    have e2 : (acc ++ its) ++ (List.replicate k its).flatten = acc ++ (List.replicate (k + 1) its).flatten := by
      rw [List.replicate_succ, List.flatten_cons, List.append_assoc]
    rw [<- e2, <- foldl_rep its k (acc ++ its), <- e, List.replicate_succ, List.foldl_cons]
section
variable {X : Cx} {pins : List (Addr × Obj)} {σ : St} {H : Hp} {s : Shared} {l b : Addr} {xs ys zs : List V}
theorem Inv.lset {its its' : List Value} {n : Nat} {f : Array Value -> Array Value} {t' : Nat} (I : Inv X pins σ H s) (hH : H l = some (.lst xs))
    (e : s.heap.get? l = some { cls := .type "list", data := .seq its.toArray n }) (hf : f its.toArray = its'.toArray) (hv : Vals ys its') (hz : ys.length <= sizeLine) :
    Inv X pins σ (upd H l (.lst ys)) { s with heap := s.heap.update l (Obj.mapSeq f), toks := t' } := by
  have q := PySem.IsL.update e f
  rw [hf] at q
  refine I.write (x := l) (e := l) (by rw [hH]; exact trivial) (.inl rfl) (fun b' u hb hu => (Heap.get?_update_other s.heap (Obj.mapSeq f) (Ne.symm hb)).trans hu) ⟨_, q⟩ ?_
  exact ⟨hz, its', _, hv, q⟩
theorem Inv.lnew {its : List Value} {t' : Nat} (I : Inv X pins σ H s) (hv : Vals ys its) (hz : ys.length <= sizeLine) :
    Inv X pins σ (upd H s.heap.objs.size (.lst ys)) { s with heap := s.heap.push { cls := .type "list", data := .seq its.toArray }, toks := t' } :=
  I.laid (fun _ _ q => Heap.get?_push_of_some _ q) (Nat.le_refl _) ⟨hz, its, 0, hv, Heap.get?_push_size _ rfl⟩
theorem Inv.fresh (I : Inv X pins σ H s) : H s.heap.objs.size = none := I.hok.fresh (Nat.le_refl _)
theorem Inv.lstM (I : Inv X pins σ H s) (hH : H l = some (.lst xs)) : xs.length <= sizeLine /\ ∃ (its : List Value) (n : Nat), Vals xs its /\ xs.length = its.length /\ s.heap.get? l = some { cls := .type "list", data := .seq its.toArray n } := by
  obtain ⟨z, its, n, r, e⟩ := I.hok l _ hH
  exact ⟨z, its, n, r, r.length, e⟩
theorem notLongL {n : Nat} (h : n <= sizeLine) : Builtin.List.listTooLong n = false := by
  unfold Builtin.List.listTooLong
  exact decide_eq_false (by omega)
end
section
variable {X : Cx}
noncomputable def rAppend : V -> List V -> Hp -> VK -> Prop := fun x vs H Q => ∃ l xs y, x = .ref l /\ vs = [y] /\ H l = some (.lst xs) /\ xs.length < sizeLine /\ Q .non (upd H l (.lst (xs ++ [y])))
theorem mt_append : MtM X "list.append" rAppend := by
  intro pins s σ H x vs v us Q I rx rv h
  obtain ⟨l, xs, y, rfl, rfl, hH, hz, q⟩ := h
  cases rx
  obtain ⟨u, rfl, ru⟩ := rv.one
  obtain ⟨z, its, n, r, hl, e⟩ := I.lstM hH
  refine call_meets F.slot_list_append ⟨_, e, rfl⟩ F.entry_list_append (F.args_list_append_2 _ _) (PySem.list_append l its.toArray n u (by rw [List.size_toArray]; omega)) ⟨e, ?_⟩
  refine ⟨.non, _, I.lset (its' := its ++ [u]) hH e (by simp) (r.append (.cons ru .nil)) ?_, rfl, q⟩
  rw [List.length_append, List.length_singleton]
  omega
noncomputable def rPop : V -> List V -> Hp -> VK -> Prop := fun x vs H Q => ∃ l xs y, x = .ref l /\ vs = [] /\ H l = some (.lst xs) /\ xs[xs.length - 1]? = some y /\ Q y (upd H l (.lst xs.dropLast))
theorem mt_pop : MtM X "list.pop" rPop := by
  intro pins s σ H x vs v us Q I rx rv h
  obtain ⟨l, xs, y, rfl, rfl, hH, hy, q⟩ := h
  cases rx
  have hus := rv.zero
  subst hus
  obtain ⟨z, its, n, r, hl, e⟩ := I.lstM hH
  obtain ⟨u, hu, ru⟩ := r.get hy
  have hy' : its.toArray[its.toArray.size - 1]? = some u := by
    show its.toArray[its.length - 1]? = some u
    rw [<- Array.getElem?_toList, <- hl]
    exact hu
  refine call_meets F.slot_list_pop ⟨_, e, rfl⟩ F.entry_list_pop (F.args_list_pop_1 _) (MeetsSeq.list_pop_last l its.toArray n u hy' (by rw [List.size_toArray]; omega)) ⟨e, ?_⟩
  refine ⟨y, _, I.lset (its' := its.dropLast) hH e ?_ r.dropLast ?_, ru, q⟩
  · show its.toArray.eraseIdxIfInBounds (its.toArray.size - 1) = its.dropLast.toArray
    rw [List.size_toArray, List.eraseIdxIfInBounds_toArray, erase_last]
  · rw [List.length_dropLast]
    omega
noncomputable def rCat : R2 := fun x y H Q => ∃ l b xs zs, x = .ref l /\ y = .ref b /\ H l = some (.lst xs) /\ H b = some (.lst zs) /\ xs.length + zs.length <= sizeLine /\ ∀ p, H p = none -> Q (.ref p) (upd H p (.lst (xs ++ zs)))
theorem op_cat : OpR X (binaryOp .Add) rCat := by
  intro pins s σ H x y v u Q I rx ry h
  obtain ⟨l, b, xs, zs, rfl, rfl, hH, hB, hz, q⟩ := h
  cases rx
  cases ry
  obtain ⟨z, its, n, r, hl, e⟩ := I.lstM hH
  obtain ⟨z2, its2, n2, r2, hl2, e2⟩ := I.lstM hB
  refine PySem.P.add_list e e2 ?_ (by rw [List.size_toArray, List.size_toArray]; omega)
  have ea : its.toArray ++ its2.toArray = (its ++ its2).toArray := by simp
  rw [ea]
  exact ⟨.ref _, _, I.lnew (t' := s.toks) (r.append r2) (by rw [List.length_append]; omega), rfl, q _ I.fresh⟩
noncomputable def rRep : R2 := fun x y H Q => ∃ l k xs, x = .ref l /\ y = .int k /\ H l = some (.lst xs) /\ -(2 ^ 63) <= k /\ k < 2 ^ 63 /\ xs.length * k.toNat <= sizeLine /\
  ∀ p, H p = none -> Q (.ref p) (upd H p (.lst (List.replicate k.toNat xs).flatten))
theorem len_rep {α : Type} (xs : List α) (k : Nat) : (List.replicate k xs).flatten.length = k * xs.length := by
  induction k with
  | zero => simp
  | succ k ih => rw [List.replicate_succ, List.flatten_cons, List.length_append, ih, Nat.succ_mul, Nat.add_comm]
theorem op_rep : OpR X (binaryOp .Mult) rRep := by
  intro pins s σ H x y v u Q I rx ry h
  obtain ⟨l, k, xs, rfl, rfl, hH, h1, h2, hz, q⟩ := h
  cases rx
  obtain ⟨t, rfl⟩ := ry
  obtain ⟨z, its, n, r, hl, e⟩ := I.lstM hH
  have hlen : its.toArray.size * k.toNat <= sizeLine := by rw [List.size_toArray, <- hl]; exact hz
  have hcap : ¬ its.toArray.size * k.toNat > (2 ^ 63 - 1) / 8 := by
    have : (sizeLine : Nat) <= (2 ^ 63 - 1) / 8 := by decide
    omega
  have hfit : ¬ (!Builtin.List.listFitsIndex k) = true := by
    rw [fitsIndex_both h1 h2]
    exact Bool.false_ne_true
  have hlong : ¬ Builtin.List.listTooLong (its.toArray.size * k.toNat) = true := by
    rw [notLongL hlen]
    exact Bool.false_ne_true
  have hnew : List.foldl (fun x1 x2 => x1 ++ x2) #[] (List.replicate (if its.toArray.isEmpty = true then 0 else k.toNat) its.toArray) = (List.replicate k.toNat its).flatten.toArray := by
    have f0 : ∀ m : Nat, List.foldl (fun x1 x2 => x1 ++ x2) #[] (List.replicate m its.toArray) = (List.replicate m its).flatten.toArray := fun m => by
      have := foldl_rep its m []
      rw [List.nil_append] at this
      exact this
    rw [f0]
    cases its with
    | nil => simp
    | cons a r' => rw [if_neg (by simp)]
  refine wpAny_binaryOp_repeat_ref (T := "list") (U := "int") (by decide) ⟨_, e, rfl⟩ (fun s' => typeIs_int s' k t) noFill_list_mul F.fills_int_mul F.slot_int_rmul repeat_list F.slot_int_index.lookup
    (call_meets F.slot_int_rmul (typeIs_int s k t) F.entry_int_rmul (F.args_int_rmul_2 _ _) (int___rmul___int_list k t l its.toArray n)
      ⟨e, rfl, ⟨_, e, rfl⟩, call_meets F.slot_list_mul ⟨_, e, rfl⟩ F.entry_list_mul (F.args_list_mul_2 _ _) (AutoListH.list___mul___list_int_3 l its.toArray n k t hfit hcap hlong) ⟨e, ?_⟩⟩)
  rw [hnew]
  exact ⟨.ref _, _, I.lnew (t' := s.toks) (r.rep k.toNat) (by rw [len_rep, Nat.mul_comm]; exact hz), rfl, q _ I.fresh⟩
end
end L2
namespace Att
open PySem PySem.W PySem.Calls PyProof.Rows
theorem ints_of_wellAll {P : Params} {h : Heap} : ∀ (ns : List Int) (vs : List Value), WellAll P h vs (ns.map WData.int) -> IntsAre vs ns := by
  intro ns
  induction ns with
  | nil =>
    intro vs w
    rw [List.map_nil] at w
    cases w
    exact .nil
  | cons n ns ih =>
    intro vs w
    rw [List.map_cons] at w
    cases w with
    | cons a b =>
      cases a
      exact .cons _ _ (ih _ b)
theorem script_of {l : OpenLaw} {n : Nat} (hn : l.most = some n) {P : Params} {h : Heap} {args : List WData} {vals : List Value}
    (hpre : l.row.toRowW.claim.pre args = true) (hwl : WellAll P h vals args) :
    ∃ a vs ns, vals = [Value.ref a] /\ args = [WData.list (ns.map WData.int)] /\ h.get? a = some { cls := .type "list", data := .seq vs.toArray } /\ IntsAre vs ns /\ ns.length <= n := by
  have hsh : WShape.hasAll [] args [.list .int] = true := (pre_splitW hpre).1
  have hc : l.pre.holds [] { args := args } = true := (pre_splitW hpre).2
  obtain ⟨d, r, rfl, h1, h2⟩ := hasAllW_cons hsh
  obtain rfl := hasAllW_nil h2
  obtain ⟨xs, rfl, h3⟩ := hasW_list h1
  obtain ⟨ns, rfl⟩ := items_int h3
  have hlen : ns.length <= n := by
    unfold OpenLaw.pre at hc
    have h4 : (WTm.not (.lt (.lit (.int (n : Int))) (.len (.arg 0)))).holds [] { args := [.list (ns.map .int)] } = true := by
      have h4 := (holds_andW hc).1
      rw [hn] at h4
      exact h4
    have h5 := condW_of h4 (w_not (w_lt w_lit (w_len_list (w_arg rfl))))
    rw [List.length_map] at h5
    refine Nat.le_of_not_lt fun q => ?_
    have q' : (n : Int) < ((ns.length : Nat) : Int) := by omega
    first
      | (rw [decide_eq_true q'] at h5; exact absurd h5 (by decide))
      | (simp at h5; omega)
  cases hwl with
  | cons w1 w2 =>
    cases w2
    cases w1 with
    | list ho hall => exact ⟨_, _, ns, rfl, rfl, ho, ints_of_wellAll ns _ hall, hlen⟩
theorem post_true (l : OpenLaw) (args : List WData) : l.row.toRowW.claim.post args (.bool true) args = true :=
  postW_of (r := l.row.toRowW) (X := (true == true))
    (show WShape.has [] (.bool true) .bool = true by first | rfl | decide | simp [WShape.has, WShape.arms, WShape.armsAll])
    (show (WTm.eq .res (.lit (.bool true))).value [] { args := args, res := some (.bool true), after := args } = some (.bool (true == true)) from w_eq_bool (w_res rfl) w_lit) rfl
theorem attach_call {l : OpenLaw} {n : Nat} {q : Program} {loose : List Str} {XP : (Str -> Option Value) -> Heap -> Prop} {YP : World -> Heap -> Prop} {d : DefRec}
    (hn : l.most = some n) (hdf : d.params.defaults = [])
    (call : ∀ (w : World) (s₀ s₁ : Shared) (mg mb : Str -> Option Value) (fa : Addr) (o : Obj) (pm cd doc : Value) (a : Addr) (vs : List Value) (ns : List Int),
      Ground q loose [] XP w s₀ mg mb s₁.heap -> YP w s₁.heap ->
      s₁.heap.get? fa = some o -> o.data = .func (docDef d.name d.params d.body d.scope pm cd doc) -> s₁.heap.CodeRec cd d.name -> mg d.name = some (.ref fa) ->
      s₁.heap.get? a = some { cls := .type "list", data := .seq vs.toArray } -> IntsAre vs ns -> ns.length <= n -> s₁.gens = #[] ->
      codeAny (model l.prog w) callerA (.call (.ref fa) ⟨[.ref a], []⟩) (fun r s' => r = .ok (.ret (.bool true)) /\ OldK s₁.heap s'.heap /\ s'.os = s₁.os /\ AllBare s'.gens) s₁) :
    WalkO q loose XP YP l.row.toRowW d [] (fun f vs => PySem.call f vs) := by
  intro w s₀ s₁ mg mb G Y fa o pm cd doc dV kV ho hd hcd hD hmg hg args vals as hpre hlay hrd hwl hlo
  obtain rfl : dV = .none := Dflts.none hD hdf
  obtain rfl : kV = .none := Dflts.noKw hD
  obtain ⟨a, vs, ns, rfl, rfl, hobj, hints, hlen⟩ := script_of hn hpre hwl
  refine enter_call (codeAny_mono (call w s₀ s₁ mg mb fa o pm cd doc a vs ns G Y ho (fd_plain hd) hcd hmg hobj hints hlen hg) fun r s' hq => ?_)
  obtain ⟨rfl, h2, h3, h4⟩ := hq
  exact ⟨.inl ⟨.bool true, .bool true, [], rfl, fun _ => rfl, .bool true, post_true l _, fun _ => ⟨List.Pairwise.nil, fun _ hm => (nomatch hm)⟩⟩, h2, h3, h4⟩
end Att
namespace L2
open PySem PySem.Spec PyProof.Rows
theorem vals_ints : ∀ {vs : List Value} {ns : List Int}, IntsAre vs ns -> Vals (ns.map V.int) vs
  | _, _, .nil => .nil
  | _, _, .cons n t h => .cons ⟨t, rfl⟩ (vals_ints h)
noncomputable def Only (H : Hp) : Prop := ∀ b, H b = none \/ ∃ o xs, H b = some (.frz o (.lst xs))
theorem law_call {P : Program} {w : World} {K : PySem.W.Frag} {mg mb : Str -> Option Value} {CX : CXT} {k : Nat} {fa a : Addr} {fd : FuncData} {x : Str} {sp : Sp} {s₁ : Shared} {vs : List Value} {ns : List Int}
    (KX : K.In s₁.heap) (hns : s₁.heap.Ns mainGlobals mg) (hb : s₁.heap.Ns builtinsNs mb) (hbb : ∀ x : Str, x ≠ "__name__" -> mb x = bootBuiltins x) (hlim : s₁.heap.NoLimit) (hg : s₁.gens = #[])
    (ha : s₁.heap.get? a = some { cls := .type "list", data := .seq vs.toArray }) (hi : IntsAre vs ns) (hl : ns.length <= sizeLine) (hr : Room k callerA)
    (F : ∀ base : Heap, K.In base -> base.Ns mainGlobals mg -> FnOk P w K mg base CX k fa fd [x] sp) (hbind : ∀ (s : Shared) (u : Value), BindsTo s fd ⟨[u], []⟩ [(x, u)])
    (hsp : ∀ H : Hp, Only H -> SqL K H a (ns.map V.int) -> sp [.ref a] H (fun v _ => v = .bl true) fun _ _ _ => False)
    (hCX : ∀ H e s', CX [] H s₁ (fun _ _ _ => False) e s' -> False) :
    codeAny (model P w) callerA (.call (.ref fa) ⟨[.ref a], []⟩) (fun r s' => r = .ok (.ret (.bool true)) /\ OldK s₁.heap s'.heap /\ s'.os = s₁.os /\ AllBare s'.gens) s₁ := by
  have rv := vals_ints hi
  have lenV := hi.length
  have core : ∀ H : Hp, Only H -> SqL K H a (ns.map V.int) -> HOk P w H s₁.heap -> (∀ b, H b ≠ none -> b = a) -> (H a ≠ none -> K.lookup a = none) ->
      codeAny (model P w) callerA (.call (.ref fa) ⟨[.ref a], []⟩) (fun r s' => r = .ok (.ret (.bool true)) /\ OldK s₁.heap s'.heap /\ s'.os = s₁.os /\ AllBare s'.gens) s₁ := by
    intro H hO hS hok hA hK
    have base_of : ∀ {b : Addr} {o : Obj}, s₁.heap.get? b = some o -> H b = none -> (hidT s₁.heap H).get? b = some o := fun e n => hidT_get e n
    have noA : ∀ {b : Addr} {o : Obj} {es : Array DictEntry} {ep : Nat}, s₁.heap.get? b = some o -> o.data = .dict es ep -> H b = none := fun {b o es ep} e d => by
      cases q : H b with
      | none => rfl
      | some u =>
        have e' : b = a := hA b (by rw [q]; simp)
        subst e'
        rw [ha] at e; cases e
        have d' : Data.seq vs.toArray _ = Data.dict es ep := d
        cases d'
    have nsK : ∀ {b : Addr} {m : Str -> Option Value}, s₁.heap.Ns b m -> (hidT s₁.heap H).Ns b m := fun {b m} ⟨o, es, ep, e, d, r⟩ => ⟨o, es, ep, base_of e (noA e d), d, r⟩
    have hKb : K.In (hidT s₁.heap H) := fun b o e => base_of (KX b o e) (by
      cases q : H b with
      | none => rfl
      | some u =>
        have e' : b = a := hA b (by rw [q]; simp)
        subst e'
        rw [hK (by rw [q]; simp)] at e; cases e)
    have hM : Mod K mg (hidT s₁.heap H) := ⟨hKb, nsK hns, ⟨mb, nsK hb, hbb⟩, let ⟨mc, h1, h2⟩ := hlim; ⟨mc, nsK h1, h2⟩⟩
    have e0 : Env0 P w K mg (hidT s₁.heap H) callerA [] s₁ H := ⟨rfl, hM, fun b o e => of_hidT e, Nat.le_of_eq (hidT_size _ _), trivial, fun b hb => absurd (show b ∈ ([] : List Addr) from hb) (by simp), hok, .of_eq hg⟩
    refine codeAny_mono ((F _ hKb (nsK hns)).run callerA [] s₁ H ⟨[.ref a], []⟩ [.ref a] [.ref a] _ _ hr e0 (hbind s₁ (.ref a)) (.cons rfl .nil) (hsp H hO hS)) fun r s' h => ?_
    cases r with
    | error e => exact (hCX H e s' h).elim
    | ok fl =>
      cases fl with
      | next => exact False.elim h
      | brk => exact False.elim h
      | cont => exact False.elim h
      | ret u =>
        obtain ⟨v, H', os, bare, un, hok', r', q⟩ := h
        have q' : v = .bl true := q
        subst q'
        obtain rfl : u = Value.bool true := r'
        refine ⟨rfl, OldK.of_keep fun b o e => ?_, os, bare⟩
        cases q : H b with
        | none => exact un.keep b o e q (by intro z; exact absurd (show b ∈ ([] : List Addr) from z) (by simp)) (by simp)
        | some u =>
          rcases hO b with z | ⟨ob, xs, z⟩
          · rw [q] at z; cases z
          · have z2 := un.frzs b ob _ z
            obtain ⟨e1, _⟩ := hok b _ z
            obtain ⟨e2, _⟩ := hok' b _ z2
            rw [e] at e1; cases e1
            exact e2
  cases hk : K.lookup a with
  | some o =>
    have e := KX a o hk
    rw [ha] at e
    cases e
    refine core (fun _ => none) (fun _ => .inl rfl) (.inr ⟨_, vs.toArray, _, hk, rfl, rfl, rfl, by rw [List.size_toArray, lenV]; exact hl, by simpa using rv⟩) (fun b u z => by have z' : (none : Option HO) = some u := z; cases z') (fun b z => absurd rfl z) fun z => absurd rfl z
  | none =>
    refine core (fun b => if b = a then some (.frz { cls := .type "list", data := .seq vs.toArray } (.lst (ns.map V.int))) else none) (fun b => ?_) (.inl (.inr ⟨{ cls := .type "list", data := .seq vs.toArray }, if_pos rfl⟩)) (fun b u z => ?_) (fun b z => ?_) fun _ => hk
    · by_cases hb : b = a
      · exact .inr ⟨_, _, if_pos hb⟩
      · exact .inl (if_neg hb)
    · by_cases hb : b = a
      · have z' := (if_pos hb).symm.trans z
        cases z'
        subst hb
        exact ⟨ha, by rw [List.length_map]; exact hl, vs, _, rv, ha⟩
      · have z' := (if_neg hb).symm.trans z
        cases z'
    · by_cases hb : b = a
      · exact hb
      · exact absurd (if_neg hb) z
end L2
namespace L2
open PySem PySem.Spec PyProof.Rows
noncomputable abbrev KOf {K : PySem.W.Frag} {h : Heap} (_ : K.In h) : PySem.W.Frag := K
theorem walk_of {l : PySem.W.OpenLaw} {n k : Nat} {q : Program} {loose : List Str} {XP : (Str -> Option Value) -> Heap -> Prop} {YP : World -> Heap -> Prop} {d : DefRec} {K : Params -> PySem.W.Frag} {CX : World -> CXT} {sp : World -> Sp} {x : Str}
    (hn : l.most = some n) (hn2 : n <= sizeLine) (hdf : d.params.defaults = []) (hr : Room k callerA)
    (hY : ∀ (w : World) (h : Heap), YP w h -> (K w.params).In h)
    (F : ∀ (w : World) (mg : Str -> Option Value) (fa : Addr) (h : Heap), (K w.params).In h -> h.Ns mainGlobals mg -> mg d.name = some (.ref fa) ->
      ∃ fd : FuncData, (∀ (s : Shared) (u : Value), BindsTo s fd ⟨[u], []⟩ [(x, u)]) /\
        ∀ base : Heap, (K w.params).In base -> base.Ns mainGlobals mg -> FnOk l.prog w (K w.params) mg base (CX w) k fa fd [x] (sp w))
    (hsp : ∀ (w : World) (H : Hp) (a : Addr) (ns : List Int), ns.length <= n -> Only H -> SqL (K w.params) H a (ns.map V.int) -> sp w [.ref a] H (fun v _ => v = .bl true) fun _ _ _ => False)
    (hCX : ∀ (w : World) (H : Hp) (s : Shared) (e : Value) (s' : Shared), CX w [] H s (fun _ _ _ => False) e s' -> False) :
    PySem.W.WalkO q loose XP YP l.row.toRowW d [] (fun f vs => PySem.call f vs) := by
  refine Att.attach_call hn hdf fun w s₀ s₁ mg mb fa o pm cd doc a vs ns G Y ho hd hcd hmg hobj hints hlen hg => ?_
  have KX := hY w _ Y
  obtain ⟨fd, hb, hF⟩ := F w mg fa _ KX G.T.g hmg
  exact law_call KX G.T.g G.T.b G.T.builtins G.T.nolimit hg hobj hints (Nat.le_trans hlen hn2) hr hF hb (fun H hO hS => hsp w H a ns hlen hO hS) fun H e s' => hCX w H s₁ e s'
end L2
/- THE LAST THEOREM (shape; LID, My.* are yours):
   My.Adr: a structure of the addresses that your layer names (classes, functions); My.Txt K t: a structure (Prop) of the equations over K;
   My.txt_mk : {K} {implicit addresses ..} (e1 : nsIn K mainGlobals "law" = some (some (.ref f))) (e2 : K.lookup f = some ⟨oc, od, .func (fnOf "law" "law" params body scope dV kV doc pm an cdv ct), sl⟩) (e3 : codeIn K cdv "law" = true) .. : ∃ t, My.Txt K t
set_option maxRecDepth 100000 in
set_option maxHeartbeats 0 in
theorem PySem.Challenge.cw_LID_holds : PySem.Challenge.rw_LID.Holds := by
  w_on; o_law; k_head; (case hw => w_witness2)
  k_fill
  refine L2.walk_of (l := PySem.Challenge.rw_LID) (n := 63) (k := 40) (x := "script") (CX := fun w => ..) (sp := fun _ => My.sp_law) rfl (by decide) rfl ⟨rfl, by decide, by decide⟩ (fun w h Y => PySem.W.kIn_of Y) ?F ?S ?C
  case F =>
    intro w mg fa h KX G hmg
    have T : ∃ t, My.Txt (L2.KOf KX) t := by
      dsimp only [L2.KOf]                          -- K must stand as «<heap const> w.params» for k_is
      refine' My.txt_mk ?e1 ?e2 ?e3 ..
      (case e1 => PySem.W.k_is)                    -- in the order: a name -> its address -> its object -> its parts
      (case e2 => PySem.W.k_is)
      ..
    obtain ⟨t, T⟩ := T
    have e0 := hmg.symm.trans (PySem.W.mg_of KX G T.law)
    cases e0                                       -- fa is the law's own address
    exact ⟨_, fun s u => .of_eq rfl, fun base kb nb => My.law_fn T kb nb⟩     -- if «.of_eq rfl» comes too early: refine' ⟨_, ?b, fun base kb nb => My.law_fn T kb nb⟩; exact fun s u => .of_eq rfl
  case S => exact fun w H a ns hl hO hS => ..
  case C => exact ..
(the tactic k_is has no namespace: write k_is) -/
namespace L2
open PySem PySem.Spec PyProof.Rows
noncomputable def defArgs (s : Stmt) : Arguments := match s with
  | .FunctionDef _ a _ _ _ _ _ _ _ _ => a
  | _ => { posonlyargs := [], args := [], vararg := none, kwonlyargs := [], kw_defaults := [], kwarg := none, defaults := [] }
noncomputable def defBody (s : Stmt) : List Stmt := match s with
  | .FunctionDef _ _ b _ _ _ _ _ _ _ => b
  | _ => []
noncomputable def defScope (s : Stmt) : Scope := match s with
  | .FunctionDef _ _ _ _ _ _ sc _ _ _ => sc
  | _ => { kind := .function, names := [], isGenerator := false, isCoroutine := false }
noncomputable abbrev CX0 : CXT := fun _ _ _ _ _ _ => False
noncomputable abbrev E0 : XK := fun _ _ _ => False
theorem pass0 {X : Cx} : Passes CX0 X E0 := fun _ _ _ _ _ _ _ h => h.elim
structure Fun (K : PySem.W.Frag) (x qual : Str) (st : Stmt) (f : Addr) (fd : FuncData) : Prop where
  ex : ∃ (oc : Value) (od : Option Addr) (kV doc pm : Value) (an : Option Addr) (cdv ct : Value) (osl : Array (Option Value)),
    fd = PySem.W.fnOf x qual (defArgs st) (defBody st) (defScope st) .none kV doc pm an cdv ct /\ K.lookup f = some ⟨oc, od, .func fd, osl⟩ /\ PySem.W.codeIn K cdv qual = true
  kp : PySem.W.keepIn K (.ref f) = true
section
variable {P : Program} {w : World} {K : PySem.W.Frag} {mg : Str -> Option Value} {base : Heap}
theorem Fun.ok {x qual : Str} {st : Stmt} {f : Addr} {fd : FuncData} {N ps : List Str} {k : Nat} {sp : Sp} (F : Fun K x qual st f fd) (S : FnScope N ps (defScope st)) (len : ∀ vs H Q E, sp vs H Q E -> vs.length = ps.length)
    (hbody : ∀ (cdv : Value) (A : Around) (outer : List Env) (s : Shared) (H : Hp) (vs : List V) (Q : VK) (E : XK), Room k (A.deeper (envOfC qual (defScope st) s.heap.objs.size f cdv)) -> sp vs H Q E ->
      ∃ t, PSs (cxOf CX0 P w K mg base N qual (defScope st) f cdv A outer s H E).nox (defBody st) t /\ t { nx := fun _ H' => Q .non H', rt := Q } (start N vs) H) : FnOk P w K mg base CX0 (k + 1) f fd ps sp := by
  obtain ⟨oc, od, kV, doc, pm, an, cdv, ct, osl, rfl, lk, hcd⟩ := F.ex
  refine fn_of lk hcd S len fun A outer s H vs Q E hr hsp => ?_
  obtain ⟨t, h, q⟩ := hbody cdv A outer s H vs Q E hr hsp
  exact ⟨t, h.nox, q⟩
theorem Fun.binds {x qual : Str} {st : Stmt} {f : Addr} {fd : FuncData} {ps : List Str} (F : Fun K x qual st f fd)
    (h : ∀ (kV doc pm : Value) (an : Option Addr) (cdv ct : Value) (us : List Value), us.length = ps.length -> bindArgs (PySem.W.fnOf x qual (defArgs st) (defBody st) (defScope st) .none kV doc pm an cdv ct) ⟨us, []⟩ = pure (ps.zip us)) : Binds K fd ps [] := by
  obtain ⟨oc, od, kV, doc, pm, an, cdv, ct, osl, rfl, lk, hcd⟩ := F.ex
  exact .all (h kV doc pm an cdv ct)
theorem fun_mk {x qual : Str} {st : Stmt} {f : Addr} {oc : Value} {od an : Option Addr} {osl : Array (Option Value)} {kV doc pm cdv ct : Value} (l : K.lookup f = some ⟨oc, od, .func (PySem.W.fnOf x qual (defArgs st) (defBody st) (defScope st) .none kV doc pm an cdv ct), osl⟩)
    (c : PySem.W.codeIn K cdv qual = true) (k : PySem.W.keepIn K (.ref f) = true) : Fun K x qual st f (PySem.W.fnOf x qual (defArgs st) (defBody st) (defScope st) .none kV doc pm an cdv ct) := ⟨⟨oc, od, kV, doc, pm, an, cdv, ct, osl, rfl, l, c⟩, k⟩
end
theorem iteF {A B : Prop} (h : B) : if false = true then A else B := by
  rw [if_neg Bool.false_ne_true]
  exact h
theorem iteT {A B : Prop} (h : A) : if true = true then A else B := by
  rw [if_pos rfl]
  exact h
noncomputable def Same (H H' : Hp) : Prop := ∀ b o, H b = some o -> H' b = some o
theorem Same.refl (H : Hp) : Same H H := fun _ _ h => h
theorem Same.trans {H H1 H2 : Hp} (a : Same H H1) (b : Same H1 H2) : Same H H2 := fun c o h => b c o (a c o h)
theorem Same.free {H H' : Hp} (e : Same H H') {l : Addr} (h : H' l = Option.none) : H l = Option.none := by
  cases q : H l with
  | none => rfl
  | some o =>
    rw [e l o q] at h
    cases h
end L2
namespace L3
open PySem PySem.Spec L2
open PyProof.Rows hiding St
theorem forIn_R {α β : Type} {f : α -> β -> Sem (ForInStep β)} (R : List α -> β -> Prop) (h : ∀ x l c, R (x :: l) c -> ∃ c', f x c = pure (.yield c') /\ R l c') :
    ∀ (l : List α) (c : β), R l c -> ∃ c', forIn l c f = pure c' /\ R [] c'
  | [], c, r => ⟨c, rfl, r⟩
  | x :: l, c, r => by
    obtain ⟨c1, e, r1⟩ := h x l c r
    obtain ⟨c2, e2, r2⟩ := forIn_R R h l c1 r1
    exact ⟨c2, by rw [List.forIn_cons, e, pure_bind]; exact e2, r2⟩
theorem cellOf_some {env : Env} {x : Str} {c : Addr} (h : env.cells.lookup x = some c) : cellOf env x = pure c := by
  unfold cellOf
  rw [h]
theorem closure_ok {scope : Scope} {env : Env} (h : ∀ y ∈ scope.names, y.2 = .free -> ∃ c, env.cells.lookup y.1 = some c) :
    ∃ cl, closureFor scope env = pure cl /\ (∀ x c, cl.lookup x = some c -> env.cells.lookup x = some c) /\ ∀ y ∈ scope.names, y.2 = .free -> ∃ c, cl.lookup y.1 = some c := by
  let f : Str × NameKind -> List (Str × Addr) -> Sem (ForInStep (List (Str × Addr))) := fun x r => match x with
    | (name, kind) => if (kind == .free) = true then (do let a <- cellOf env name; pure (.yield ((name, a) :: r))) else pure (.yield r)
  have q := forIn_R (f := f) (fun rem cs => (∀ x c, cs.lookup x = some c -> env.cells.lookup x = some c) /\ (∀ y ∈ scope.names, y.2 = .free -> (∃ c, cs.lookup y.1 = some c) \/ y ∈ rem) /\ ∀ y ∈ rem, y ∈ scope.names) ?_ scope.names []
    ⟨fun x c e => (by cases e), fun y hy _ => .inr hy, fun _ hy => hy⟩
  · obtain ⟨cl, e, p1, p2, _⟩ := q
    refine ⟨cl, ?_, p1, fun y hy hf => (p2 y hy hf).elim (fun z => z) fun z => (by cases z)⟩
    have e1 : closureFor scope env = (forIn scope.names [] f >>= fun r => pure r) := rfl
    rw [e1, e, pure_bind]
  · rintro ⟨n, k⟩ l cs ⟨p1, p2, p3⟩
    have hm := p3 _ (List.mem_cons_self ..)
    by_cases hk : k = .free
    · subst hk
      obtain ⟨c, hc⟩ := h _ hm rfl
      refine ⟨(n, c) :: cs, ?_, fun x c' e => ?_, fun y hy hf => ?_, fun y hy => p3 y (List.mem_cons_of_mem _ hy)⟩
      · show (if ((NameKind.free == NameKind.free) = true) then _ else _) = _
        rw [if_pos (by decide), cellOf_some hc, pure_bind]
      · rw [List.lookup_cons] at e
        cases hx : x == n with
        | true =>
          rw [hx] at e
          have ex : x = n := eq_of_beq hx
          subst ex
          cases e
          exact hc
        | false =>
          rw [hx] at e
          exact p1 x c' e
      · rcases p2 y hy hf with ⟨c', e⟩ | z
        · refine .inl ?_
          rw [List.lookup_cons]
          cases hx : y.1 == n with
          | true => exact ⟨c, rfl⟩
          | false => exact ⟨c', e⟩
        · rcases List.mem_cons.mp z with rfl | z
          · exact .inl ⟨c, by rw [List.lookup_cons]; simp⟩
          · exact .inr z
    · refine ⟨cs, ?_, p1, fun y hy hf => ?_, fun y hy => p3 y (List.mem_cons_of_mem _ hy)⟩
      · show (if ((k == NameKind.free) = true) then _ else _) = _
        rw [if_neg (by simpa using hk)]
      · rcases p2 y hy hf with z | z
        · exact .inl z
        · rcases List.mem_cons.mp z with rfl | z
          · exact absurd hf hk
          · exact .inr z
theorem lookup_relabel_free {env : Env} : ∀ {names : List (Str × NameKind)} {x : Str}, names.lookup x = some .free ->
    (names.map fun (n, k) => if (k == NameKind.free && env.scope.kind == .function && env.kindOf n == some .cell) then (n, NameKind.cell) else (n, k)).lookup x = some .cell \/
    (names.map fun (n, k) => if (k == NameKind.free && env.scope.kind == .function && env.kindOf n == some .cell) then (n, NameKind.cell) else (n, k)).lookup x = some .free
  | [], _, h => by cases h
  | (n, k) :: r, x, h => by
    have ih := @lookup_relabel_free env r x
    rw [List.map_cons]
    cases hx : x == n with
    | true =>
      rw [List.lookup_cons, hx] at h
      cases h
      by_cases hc : (NameKind.free == NameKind.free && env.scope.kind == .function && env.kindOf n == some .cell) = true
      · refine .inl ?_
        show List.lookup x ((if (NameKind.free == NameKind.free && env.scope.kind == .function && env.kindOf n == some .cell) = true then (n, NameKind.cell) else (n, NameKind.free)) :: _) = _
        rw [if_pos hc, List.lookup_cons, hx]
      · refine .inr ?_
        show List.lookup x ((if (NameKind.free == NameKind.free && env.scope.kind == .function && env.kindOf n == some .cell) = true then (n, NameKind.cell) else (n, NameKind.free)) :: _) = _
        rw [if_neg hc, List.lookup_cons, hx]
    | false =>
      rw [List.lookup_cons, hx] at h
      have e : ∀ (b : Bool) (l : List (Str × NameKind)), List.lookup x ((if b = true then (n, NameKind.cell) else (n, k)) :: l) = l.lookup x := fun b l => by
        cases b with
        | true => rw [if_pos rfl, List.lookup_cons, hx]
        | false => rw [if_neg Bool.false_ne_true, List.lookup_cons, hx]
      rcases ih h with q | q
      · exact .inl ((e _ _).trans q)
      · exact .inr ((e _ _).trans q)
theorem relabel_from {scope : Scope} {env : Env} (hnc : ∀ y ∈ scope.names, y.2 ≠ .cell) {x : Str} {k : NameKind} (h : (relabel scope env).names.lookup x = some k) (hk : k = .cell \/ k = .free) :
    ∃ y ∈ scope.names, y.1 = x /\ y.2 = .free := by
  have hm := PySem.mem_of_lookup h
  obtain ⟨⟨n, k0⟩, hy, e⟩ := List.mem_map.mp hm
  refine ⟨(n, k0), hy, ?_⟩
  have e' : (if (k0 == NameKind.free && env.scope.kind == .function && env.kindOf n == some .cell) = true then (n, NameKind.cell) else (n, k0)) = (x, k) := e
  by_cases hc : (k0 == NameKind.free && env.scope.kind == .function && env.kindOf n == some .cell) = true
  · rw [if_pos hc] at e'
    cases e'
    refine ⟨rfl, ?_⟩
    rw [Bool.and_eq_true, Bool.and_eq_true] at hc
    exact eq_of_beq hc.1.1
  · rw [if_neg hc] at e'
    cases e'
    rcases hk with rfl | rfl
    · exact absurd rfl (hnc _ hy)
    · exact ⟨rfl, rfl⟩
noncomputable abbrev cxComp (X : Cx) (N' : List Str) (scope : Scope) (cl : List (Str × Addr)) (C : Addr) (fp : List Addr) (s₀ : Shared) (H₀ : Hp) : Cx :=
  { X with N := N', s₀ := s₀, H₀ := H₀, env := compEnvC scope cl C X.env, outer := X.stack, ex := fp, fn := fun _ => false, pn := [], xe := fun _ _ => False }
structure CompScope (psc scope : Scope) (T F : List Str) : Prop where
  kind : scope.kind = .function
  nocell : ∀ y ∈ scope.names, y.2 ≠ .cell
  loc : ∀ y ∈ scope.names, y.2 = .local -> scope.names.lookup y.1 = some .local
  fr : ∀ y ∈ scope.names, y.2 = .free -> psc.names.lookup y.1 = some .cell \/ psc.names.lookup y.1 = some .free
  nd : (T ++ F).Nodup
  ffree : ∀ x ∈ F, scope.names.lookup x = some .free
section
variable {X : Cx} {pins : List (Addr × Obj)} {σ : St} {H H' : Hp} {s s' : Shared} {scope : Scope} {T F : List Str} {cl : List (Str × Addr)} {C : Addr} {fp : List Addr} {js : List Nat}
theorem cells_there (I : Inv X pins σ H s) (S : CompScope X.env.scope scope T F) : ∀ y ∈ scope.names, y.2 = .free -> ∃ c, X.env.cells.lookup y.1 = some c := fun y hy hf => I.ok.has y.1 (S.fr y hy hf)
theorem ok_comp (I : Inv X pins σ H s) (S : CompScope X.env.scope scope T F) (p1 : ∀ x c, cl.lookup x = some c -> X.env.cells.lookup x = some c)
    (p2 : ∀ y ∈ scope.names, y.2 = .free -> ∃ c, cl.lookup y.1 = some c) (hC : s.heap.objs.size <= C) (hf : ∀ b ∈ fp, FpOk X pins H b) (hfl : ∀ b ∈ fp, b < s.heap.objs.size) :
    (cxComp X (T ++ F) scope cl C fp s H).Ok where
  mod := I.ok.mod
  kind := S.kind
  glob := I.ok.glob
  blt := I.ok.blt
  above := hC
  inj := fun x y c hx hy => I.ok.inj x y c (p1 x c hx) (p1 y c hy)
  has := fun x hx => by
    have q : ∃ y ∈ scope.names, y.1 = x /\ y.2 = .free := by
      rcases hx with hx | hx
      · exact relabel_from (env := X.env) S.nocell (show (relabel scope X.env).names.lookup x = some .cell from hx) (.inl rfl)
      · exact relabel_from (env := X.env) S.nocell (show (relabel scope X.env).names.lookup x = some .free from hx) (.inr rfl)
    obtain ⟨y, hy, rfl, hf⟩ := q
    exact p2 y hy hf
  cab := fun x c h => by cases h
  hd := I.ok.hd
  frames := I.ok.frames
  stk := .inl rfl
  exf := fun b hb => ⟨Nat.ne_of_lt (Nat.lt_of_lt_of_le (hfl b hb) hC), fun x c e => (hf b hb).2.2.2.2.1 x c (p1 x c e)⟩
  bs := I.bs
  bsz := Nat.le_trans I.ok.bsz I.sz
  noex := fun b o e hb => by
    rcases (hf b hb).2.2.2.1 with z | z
    · exact I.ok.noex b o e z
    · exact absurd (Nat.lt_of_lt_of_le (Heap.lt_size (I.ok.bs b o e).1) z) (Nat.lt_irrefl _)
  exfs := fun b hb z => by
    rcases List.mem_cons.mp (I.stkSub b z) with q | q
    · exact (hf b hb).2.1 q
    · exact (hf b hb).2.2.1 q
  funs := I.stack
  frf := I.stkFree
noncomputable def st0 (T : List Str) (js : List Nat) (σ : St) : St := List.replicate T.length none ++ js.map fun j => (σ[j]?).join
theorem paired_get {α β : Type} {R : α -> β -> Prop} : ∀ {l : List α} {r : List β} {i : Nat} {b : β}, Paired R l r -> r[i]? = some b -> ∃ a, l[i]? = some a /\ R a b
  | _, _, _, _, .nil, e => by simp at e
  | _, _, 0, _, .cons h _, e => by simp at e; subst e; exact ⟨_, rfl, h⟩
  | _, _, i + 1, b, .cons _ t, e => by
    obtain ⟨a, q1, q2⟩ := paired_get (i := i) (b := b) t (by simpa using e)
    exact ⟨a, by simpa using q1, q2⟩
theorem inv_comp {h₁ : Heap} {m : Str -> Option Value} {t' : Nat} (I : Inv X pins σ H s) (S : CompScope X.env.scope scope T F) (p1 : ∀ x c, cl.lookup x = some c -> X.env.cells.lookup x = some c)
    (p2 : ∀ y ∈ scope.names, y.2 = .free -> ∃ c, cl.lookup y.1 = some c) (hjs : Paired (fun x j => X.N[j]? = some x) F js) (hC : s.heap.objs.size <= C) (hf : ∀ b ∈ fp, FpOk X pins H b) (hfl : ∀ b ∈ fp, b < s.heap.objs.size)
    (hn : h₁.Ns C m) (hk : ∀ b o, s.heap.get? b = some o -> h₁.get? b = some o) : Inv (cxComp X (T ++ F) scope cl C fp s H) [] (st0 T js σ) H { s with heap := h₁, toks := t' } := by
  refine ⟨ok_comp I S p1 p2 hC hf hfl, rfl, I.bare, Un.kept hk, ⟨m, hn, fun i x v h1 h2 h3 => ?_⟩, fun x c e => ?_, I.hok.fresh hC, fun x c e => I.freeC x c (p1 x c e), fun p hp => (by cases hp), I.hok.kept hk, ?_⟩
  · have hi : T.length <= i := by
      rcases Nat.lt_or_ge i T.length with z | z
      · exfalso
        unfold st0 at h2
        rw [List.getElem?_append_left (by simpa using z), List.getElem?_replicate] at h2
        split at h2 <;> cases h2
      · exact z
    unfold st0 at h2
    rw [List.getElem?_append_right (by simpa using hi), List.getElem?_map, List.length_replicate] at h2
    cases ej : js[i - T.length]? with
    | none => rw [ej] at h2; cases h2
    | some j =>
      rw [ej] at h2
      have hσ : (σ[j]?).join = some v := Option.some.inj h2
      obtain ⟨x', hx', hX⟩ := paired_get hjs ej
      have h1' : (T ++ F)[i]? = some x := h1
      rw [List.getElem?_append_right hi, hx'] at h1'
      cases h1'
      have hσ' : σ[j]? = some (some v) := by
        cases e : σ[j]? with
        | none => rw [e] at hσ; cases hσ
        | some o => rw [e] at hσ; cases hσ; rfl
      have hxF : x ∈ F := List.mem_of_getElem? hx'
      have hfree := S.ffree x hxF
      have hpsc := S.fr _ (PySem.mem_of_lookup hfree) rfl
      obtain ⟨m0, _, look⟩ := I.loc
      obtain ⟨u, ru, lk⟩ := look j x v hX hσ' (.inr hpsc)
      refine ⟨u, ru, ?_⟩
      rcases lk with ⟨k, _⟩ | ⟨_, c, hc, hcell⟩
      · exfalso
        have k' : X.env.scope.names.lookup x = some .local := k
        rcases hpsc with z | z
        · rw [k'] at z; cases z
        · rw [k'] at z; cases z
      · obtain ⟨c', hc'⟩ := p2 _ (PySem.mem_of_lookup hfree) rfl
        have e2 := p1 x c' hc'
        rw [hc] at e2
        cases e2
        refine .inr ⟨?_, c, hc', hcell.keeps hk⟩
        exact lookup_relabel_free (env := X.env) hfree
  · obtain ⟨v, q⟩ := I.cell x c (p1 x c e)
    exact ⟨v, q.keeps hk⟩
  · show (st0 T js σ).length = (T ++ F).length
    unfold st0
    rw [List.length_append, List.length_append, List.length_replicate, List.length_map, (Paired.length hjs)]
theorem inv_back {N' : List Str} {σ' : St} (I : Inv X pins σ H s) (J : Inv (cxComp X N' scope cl C fp s H) [] σ' H' s') (hf : ∀ b ∈ fp, FpOk X pins H b) : Inv X pins σ H' s' :=
  I.call' (ch := fp) (show s'.os = s.os from J.os) J.base J.hok J.bare fun b hb => ⟨(hf b hb).2.2.2.1, (hf b hb).2.1, (hf b hb).2.2.2.2.1, (hf b hb).2.2.2.2.2⟩
end
end L3
namespace L3
open PySem PySem.Spec L2
open PyProof.Rows hiding St
section
variable {prog : Program} {w : World} {A : Around} {R : Result -> Shared -> Prop} {s : Shared}
theorem comp_turns {elt target iter : Expr} {ifs : List Expr} {scope : Scope} {pos : Pos} {it acc : Value} {env : Env} (I : Nat -> Shared -> Prop)
    (turn : ∀ n s, I n s -> wpAny (model prog w) A (pyNext it) (fun r s₁ => match r with
      | none => R (.ok .next) s₁
      | some v => wpAny (model prog w) A (letOwnedTupleGo target it v) (fun _ s₂ => wpAny (model prog w) A (assign target env v) (fun _ s₃ =>
          wpAny (model prog w) A (forIn ifs true fun c r => if r = true then do let ok <- isTrue c env (eval c env); pure (ForInStep.yield ok) else pure (ForInStep.yield r)) (fun ok s₄ =>
            if ok = true then wpAny (model prog w) A (eval elt env) (fun x s₅ => wpAny (model prog w) A (call (.builtin "list.append") [acc, x]) (fun _ s₆ => ∃ m, m < n /\ I m s₆) (fun _ _ => False) s₅) (fun _ _ => False) s₄
            else ∃ m, m < n /\ I m s₄) (fun _ _ => False) s₃) (fun _ _ => False) s₂) (fun _ _ => False) s₁) (fun _ _ => False) s)
    (n : Nat) (h : I n s) : codeAny (model prog w) A (.compLoop (.ListComp elt [⟨target, iter, ifs, 0⟩] scope pos) 0 it acc env) R s := by
  refine codeAny_loop rfl I (fun n s hI => ?_) n h
  show wpAny _ A ((compTurn (.ListComp elt [⟨target, iter, ifs, 0⟩] scope pos) 0 it acc env).onRaise (fun x => do noteFrame x env; theTreesLotGoes x)) _ _ s
  refine wpAny_noted (wpAny_noRaise ?_)
  rw [compTurn_list]
  refine wpAny_bind (wpAny_standAt (wpAny_bind (thn (turn n s hI) fun r s₁ h₁ => ?_)))
  cases r with
  | none => exact wpAny_pure h₁
  | some v =>
    refine wpAny_bind (thn h₁ fun _ s₂ h₂ => wpAny_bind (thn h₂ fun _ s₃ h₃ => wpAny_bind (thn h₃ fun ok s₄ h₄ => ?_)))
    cases ok with
    | false => exact wpAny_pure ⟨rfl, h₄⟩
    | true => exact wpAny_bind (wpAny_bind (thn h₄ fun x s₅ h₅ => wpAny_bind (thn h₅ fun _ s₆ h₆ => wpAny_pure (wpAny_pure ⟨rfl, h₆⟩))))
end
noncomputable def PIf (X : Cx) (ifs : List Expr) (t : TT) : Prop :=
  ∀ (pins : List (Addr × Obj)) (s : Shared) (σ : St) (H : Hp) (Q : Bool -> Hp -> Prop), Inv X pins σ H s -> t σ H Q ->
    wpAny (model X.prog X.w) X.A (forIn ifs true fun c r => if r = true then do let ok <- isTrue c X.env (eval c X.env); pure (ForInStep.yield ok) else pure (ForInStep.yield r)) (TP X pins σ Q) X.xe s
noncomputable def tYes : TT := fun _ H Q => Q true H
theorem pif_nil {X : Cx} : PIf X [] tYes := fun _ _ _ H _ I h => wpAny_tests_nil ⟨H, I, h⟩
theorem pif_one {X : Cx} {c : Expr} {tc : TT} (h : PT X c tc) : PIf X [c] tc := fun pins s σ H Q I q => wpAny_tests_one (h pins s σ H Q I q)
noncomputable def KeepFrom (n : Nat) (σ σ' : St) : Prop := σ'.length = σ.length /\ ∀ i, n <= i -> σ'[i]? = σ[i]?
theorem KeepFrom.refl (n : Nat) (σ : St) : KeepFrom n σ σ := ⟨rfl, fun _ _ => rfl⟩
theorem KeepFrom.trans {n : Nat} {a b c : St} (x : KeepFrom n a b) (y : KeepFrom n b c) : KeepFrom n a c := ⟨y.1.trans x.1, fun i h => (y.2 i h).trans (x.2 i h)⟩
theorem KeepFrom.set {n i : Nat} {σ : St} {v : V} (h : i < n) : KeepFrom n σ (σ.set i (some v)) := ⟨by simp, fun j hj => by rw [List.getElem?_set_ne (by omega)]⟩
noncomputable def GKeep (n : Nat) (g : TG) : Prop := ∀ v σ H Q, g v σ H Q -> g v σ H fun σ' H' => Q σ' H' /\ KeepFrom n σ σ'
noncomputable def GKeeps (n : Nat) (g : TGs) : Prop := ∀ vs σ H Q, g vs σ H Q -> g vs σ H fun σ' H' => Q σ' H' /\ KeepFrom n σ σ'
theorem gk_name {n i : Nat} (h : i < n) : GKeep n (gName i) := fun v σ H Q q => ⟨q, KeepFrom.set h⟩
theorem gk_nil {n : Nat} : GKeeps n gNil := fun vs σ H Q q => ⟨q.1, q.2, KeepFrom.refl n σ⟩
theorem gk_cons {n : Nat} {t : TG} {u : TGs} (mono : ∀ v σ H Q Q', (∀ σ' H', Q σ' H' -> Q' σ' H') -> t v σ H Q -> t v σ H Q') (monos : ∀ v σ H Q Q', (∀ σ' H', Q σ' H' -> Q' σ' H') -> u v σ H Q -> u v σ H Q') (h1 : GKeep n t) (h2 : GKeeps n u) : GKeeps n (gCons t u) := fun vs σ H Q q => by
  obtain ⟨v, r, e, q⟩ := q
  refine ⟨v, r, e, mono _ _ _ _ _ (fun σ' H' z => ?_) (h1 v σ H _ q)⟩
  exact monos _ _ _ _ _ (fun σ2 H2 y => ⟨y.1, z.2.trans y.2⟩) (h2 r σ' H' Q z.1)
theorem gk_tup {K : PySem.W.Frag} {n k : Nat} {t : TGs} (h : GKeeps n t) : GKeep n (gTup K k t) := fun v σ H Q q => by
  obtain ⟨a, xs, e, hq, hl, q⟩ := q
  exact ⟨a, xs, e, hq, hl, h xs σ H Q q⟩
theorem gm_name {i : Nat} : ∀ v σ H (Q Q' : St -> Hp -> Prop), (∀ σ' H', Q σ' H' -> Q' σ' H') -> gName i v σ H Q -> gName i v σ H Q' := fun _ _ _ _ _ f q => f _ _ q
theorem gm_nil : ∀ v σ H (Q Q' : St -> Hp -> Prop), (∀ σ' H', Q σ' H' -> Q' σ' H') -> gNil v σ H Q -> gNil v σ H Q' := fun _ _ _ _ _ f q => ⟨q.1, f _ _ q.2⟩
theorem gm_cons {t : TG} {u : TGs} (mono : ∀ v σ H Q Q', (∀ σ' H', Q σ' H' -> Q' σ' H') -> t v σ H Q -> t v σ H Q') (monos : ∀ v σ H Q Q', (∀ σ' H', Q σ' H' -> Q' σ' H') -> u v σ H Q -> u v σ H Q') :
    ∀ v σ H (Q Q' : St -> Hp -> Prop), (∀ σ' H', Q σ' H' -> Q' σ' H') -> gCons t u v σ H Q -> gCons t u v σ H Q' := fun vs σ H Q Q' f q => by
  obtain ⟨v, r, e, q⟩ := q
  exact ⟨v, r, e, mono _ _ _ _ _ (fun σ' H' z => monos _ _ _ _ _ f z) q⟩
noncomputable def tLoop (J : It) (g : TG) (tc : TT) (te : TE) (σ0 : St) (D : Addr) (Z : Hp -> Prop) (H : Hp) : Prop :=
  ∃ W : Nat -> Nat -> List V -> Hp -> Prop, (∃ m, W 0 m [] H) /\ ∀ i m ys H, W i m ys H -> H D = some (.lst ys) /\ ((J.stop i H /\ Z H) \/ (J.go i H /\ ∃ N : List V -> Hp -> Prop, (∀ zs H', N zs H' -> ∃ m', m' < m /\ W (i + 1) m' zs H') /\ ∀ x H', J.yld i H x H' ->
    g x σ0 H' fun σ2 H2 => tc σ2 H2 fun b H3 => if b = true then te σ2 H3 fun y H4 => H4 D = some (.lst ys) /\ ys.length < sizeLine /\ N (ys ++ [y]) (upd H4 D (.lst (ys ++ [y]))) else N ys H3))
noncomputable def tComp (wi : TI) (T : List Str) (js : List Nat) (g : TG) (tc : TT) (te : TE) : TE := fun σ H Q => wi σ H fun J H1 => ∀ D, H1 D = none -> tLoop J g tc te (st0 T js σ) D (Q (.ref D)) (upd H1 D (.lst []))
section
variable {X : Cx} {pins : List (Addr × Obj)} {σ : St} {H2 : Hp} {s2 : Shared} {scope : Scope} {T F : List Str} {cl : List (Str × Addr)} {fp : List Addr} {js : List Nat} {tg iter elt : Expr} {ifs : List Expr} {pos : Pos}
  {g : TG} {tc : TT} {te : TE} {J : It} {it : Addr} {tn : Nat -> Heap -> Prop} {E : Value -> Shared -> Prop} {RR : Value -> Addr -> Result -> Shared -> Prop}
theorem comp_block (hc : X.calm = true) (S : CompScope X.env.scope scope T F) (hjs : Paired (fun x j => X.N[j]? = some x) F js)
    (hg : ∀ cl C fp s H, PG (cxComp X (T ++ F) scope cl C fp s H) tg g) (hk : GKeep T.length g)
    (ht : ∀ cl C fp s H, PIf (cxComp X (T ++ F) scope cl C fp s H) ifs tc) (he : ∀ cl C fp s H, PE (cxComp X (T ++ F) scope cl C fp s H) elt te)
    (p1 : ∀ x c, cl.lookup x = some c -> X.env.cells.lookup x = some c) (p2 : ∀ y ∈ scope.names, y.2 = .free -> ∃ c, cl.lookup y.1 = some c)
    (I2 : Inv X pins σ H2 s2) (Tn : Turn X.prog X.w X.K tg J fp it tn) (st2 : tn 0 s2.heap) (f2 : ∀ b ∈ fp, FpOk X pins H2 b) (Z : Addr -> Hp -> Prop)
    (loop : ∀ D, H2 D = none -> tLoop J g tc te (st0 T js σ) D (Z D) (upd H2 D (.lst [])))
    (hRR : ∀ D C H' s' m', s'.heap.Ns C m' -> FpOk X pins H' C -> Inv X pins σ H' s' -> Z D H' -> RR (.ref D) C (.ok .next) s') :
    wpAny (model X.prog X.w) X.A (newList []) (fun acc s₃ => wpAny (model X.prog X.w) X.A (newFunctionEnv scope X.env.globals cl [] X.env.qual none .none (some X.env)) (fun cenv s₄ =>
      codeAny (model X.prog X.w) X.A (.compStart (.ListComp elt [⟨tg, iter, ifs, 0⟩] scope pos) 0 (.ref it) acc { cenv with scope := relabel scope X.env }) (RR acc cenv.locals) s₄) E s₃) E s2 := by
  refine wpAny_newObj_type (wpAny_newFunctionEnv S.nocell (by intro y hy; cases hy) (fun h₁ hns hsb => ?_) S.kind)
  dsimp only at hns hsb ⊢
  have I3 : Inv X pins σ (upd H2 s2.heap.objs.size (.lst [])) { s2 with heap := s2.heap.push { cls := .type "list", data := .seq ([] : List Value).toArray } } := I2.lnew (its := []) (t' := s2.toks) .nil (Nat.zero_le _)
  have hobj : ∀ b ∈ fp, b < s2.heap.objs.size := fun b hb => by
    obtain ⟨o, e, _⟩ := Tn.obj _ _ st2 b hb
    exact Heap.lt_size e
  have f3 : ∀ b ∈ fp, FpOk X pins (upd H2 s2.heap.objs.size (.lst [])) b := fun b hb => ⟨by rw [upd_ne (Nat.ne_of_lt (hobj b hb))]; exact (f2 b hb).1, (f2 b hb).2⟩
  obtain ⟨W, ⟨m0, w0⟩, turn⟩ := loop s2.heap.objs.size I2.fresh
  generalize hs3 : ({ s2 with heap := s2.heap.push { cls := .type "list", data := .seq ([] : List Value).toArray } } : Shared) = s3 at I3
  have e3 : s2.heap.push { cls := .type "list", dict := none, data := .seq ([] : List Value).toArray } = s3.heap := by rw [<- hs3]
  rw [e3] at hns hsb ⊢
  have sz3 : s3.heap.objs.size = s2.heap.objs.size + 1 := by rw [<- e3, Heap.size_push]
  have hold : ∀ b o, s3.heap.get? b = some o -> h₁.get? b = some o := fun b o e => hsb.extBut b o (Nat.ne_of_lt (Heap.lt_size e)) (Heap.get?_push_of_some _ e)
  have hobj3 : ∀ b ∈ fp, b < s3.heap.objs.size := fun b hb => by rw [sz3]; exact Nat.lt_succ_of_lt (hobj b hb)
  have J0 : Inv (cxComp X (T ++ F) scope cl s3.heap.objs.size fp s3 (upd H2 s2.heap.objs.size (.lst []))) [] (st0 T js σ) (upd H2 s2.heap.objs.size (.lst [])) { s3 with heap := h₁, toks := s2.toks + ([] : List (Str × Value)).length } :=
    inv_comp I3 S p1 p2 hjs (Nat.le_refl _) f3 hobj3 hns hold
  have stL : tn 0 h₁ := Tn.keep _ _ _ st2 fun b _ o e => hold b o (by rw [<- e3]; exact Heap.get?_push_of_some _ e)
  have es : ({ s2 with heap := h₁, toks := s2.toks + ([] : List (Str × Value)).length } : Shared) = { s3 with heap := h₁, toks := s2.toks + ([] : List (Str × Value)).length } := by rw [<- hs3]
  have main : codeAny (model X.prog X.w) X.A (.compLoop (.ListComp elt [⟨tg, iter, ifs, 0⟩] scope pos) 0 (.ref it) (.ref s2.heap.objs.size) (compEnvC scope cl s3.heap.objs.size X.env)) (RR (.ref s2.heap.objs.size) s3.heap.objs.size)
      { s3 with heap := h₁, toks := s2.toks + ([] : List (Str × Value)).length } := by
    have stat : ∀ {H' : Hp}, (∀ b ∈ fp, H' b = none) -> ∀ b ∈ fp, FpOk (cxComp X (T ++ F) scope cl s3.heap.objs.size fp s3 (upd H2 s2.heap.objs.size (.lst []))) [] H' b := fun hn b hb =>
      ⟨hn b hb, Nat.ne_of_lt (hobj3 b hb), J0.ok.exfs b hb, .inl hb, (J0.ok.exf b hb).2, fun p hp => (by cases hp)⟩
    refine comp_turns (fun n s' => ∃ i ys H', Inv (cxComp X (T ++ F) scope cl s3.heap.objs.size fp s3 (upd H2 s2.heap.objs.size (.lst []))) [] (st0 T js σ) H' s' /\ tn i s'.heap /\ (∀ b ∈ fp, H' b = none) /\ W i n ys H') ?_ m0
      ⟨0, [], _, J0, stL, fun b hb => (f3 b hb).1, w0⟩
    rintro n s4 ⟨i, ys, H4, I4, st4, fr4, w4⟩
    obtain ⟨hD, alt⟩ := turn i n ys H4 w4
    rcases alt with ⟨stop, z⟩ | ⟨go, N, hN, step⟩
    · refine thn (Tn.done (cxComp X (T ++ F) scope cl s3.heap.objs.size fp s3 (upd H2 s2.heap.objs.size (.lst []))) rfl rfl rfl hc i [] s4 _ H4 (fun _ _ => False) I4 (stat fr4) st4 stop) fun r s5 ⟨hr, I5⟩ => ?_
      subst hr
      obtain ⟨m5, n5, _⟩ := I5.loc
      have fC : FpOk X pins H4 s3.heap.objs.size := I2.fpOk (by rw [sz3]; exact Nat.le_succ _) I5.free
      exact hRR _ _ H4 s5 m5 n5 fC ((inv_back I3 I5 f3)) z
    · refine thn (Tn.item (cxComp X (T ++ F) scope cl s3.heap.objs.size fp s3 (upd H2 s2.heap.objs.size (.lst []))) rfl rfl rfl hc i [] s4 _ H4 (fun _ _ => False) I4 (stat fr4) st4 go) fun r s5 ⟨u, hr, h5⟩ => ?_
      subst hr
      refine thn h5 fun _ s6 ⟨x, H6, I6, r6, y6, st6, fr6⟩ => ?_
      have I6' := I6.pinned (stat fr6) (Tn.obj _ _ st6)
      refine thn (hg _ _ _ _ _ _ s6 _ H6 x u _ I6' r6 (hk x _ H6 _ (step x H6 y6))) fun _ s7 ⟨σ7, H7, I7, q7, kp⟩ => ?_
      refine thn (ht _ _ _ _ _ _ s7 σ7 H7 _ I7 q7) fun ok s8 ⟨H8, I8, q8⟩ => ?_
      have again : ∀ {s9 : Shared} {H9 : Hp}, Inv (cxComp X (T ++ F) scope cl s3.heap.objs.size fp s3 (upd H2 s2.heap.objs.size (.lst []))) ([] ++ pinsAt fp s6.heap) σ7 H9 s9 -> ∀ {zs : List V}, (∃ m', m' < n /\ W (i + 1) m' zs H9) ->
          ∃ m, m < n /\ ∃ i ys H', Inv (cxComp X (T ++ F) scope cl s3.heap.objs.size fp s3 (upd H2 s2.heap.objs.size (.lst []))) [] (st0 T js σ) H' s9 /\ tn i s9.heap /\ (∀ b ∈ fp, H' b = none) /\ W i m ys H' := fun {s9 H9} I9 {zs} q9 => by
        obtain ⟨m', hm, w9⟩ := q9
        have I9' := I9.unpinned
        refine ⟨m', hm, i + 1, zs, H9, I9'.weak kp.1.symm (fun a v ea => ?_), Tn.keep _ _ _ st6 fun b hb o e => (I9.pin (b, o) (List.mem_append_right _ (List.mem_append_right _ (mem_pinsAt hb e)))).1, fun b hb => ?_, w9⟩
        · have ha : T.length <= a := by
            rcases Nat.lt_or_ge a T.length with z | z
            · exfalso
              unfold st0 at ea
              rw [List.getElem?_append_left (by simpa using z), List.getElem?_replicate] at ea
              split at ea <;> cases ea
            · exact z
          rw [kp.2 a ha]
          exact ea
        · obtain ⟨o, e, d⟩ := Tn.obj _ _ st6 b hb
          exact (I9.pin (b, o) (List.mem_append_right _ (List.mem_append_right _ (mem_pinsAt hb e)))).2.1
      cases ok with
      | false =>
        rw [if_neg Bool.false_ne_true] at q8 ⊢
        exact again I8 (hN _ _ q8)
      | true =>
        rw [if_pos rfl] at q8 ⊢
        refine thn (he _ _ _ _ _ _ s8 σ7 H8 _ I8 q8) fun y s9 ⟨v9, H9, I9, r9, hD9, hl9, q9⟩ => ?_
        refine thn (mt_append _ s9 σ7 H9 (.ref s2.heap.objs.size) [v9] (.ref s2.heap.objs.size) [y] (fun _ H10 => H10 = upd H9 s2.heap.objs.size (.lst (ys ++ [v9]))) I9 rfl (.cons r9 .nil) ⟨_, _, _, rfl, rfl, hD9, hl9, rfl⟩) fun _ s10 ⟨_, H10, I10, _, e10⟩ => ?_
        subst e10
        exact again I10 (hN _ _ q9)
  show codeAny _ _ _ _ ({ s2 with heap := h₁, toks := s2.toks + ([] : List (Str × Value)).length } : Shared)
  rw [es]
  exact codeAny_compStart_list main (Tn.self _ 0 _ _ _ stL main)
theorem pe_comp {wi : TI} (hc : X.calm = true) (hi : PI X tg iter wi) (S : CompScope X.env.scope scope T F) (hjs : Paired (fun x j => X.N[j]? = some x) F js)
    (hg : ∀ cl C fp s H, PG (cxComp X (T ++ F) scope cl C fp s H) tg g) (hk : GKeep T.length g)
    (ht : ∀ cl C fp s H, PIf (cxComp X (T ++ F) scope cl C fp s H) ifs tc) (he : ∀ cl C fp s H, PE (cxComp X (T ++ F) scope cl C fp s H) elt te)
    (hs : ∀ x, foldedSetIterable iter X.env x = pure x := by intro _; rfl) : PE X (.ListComp elt [⟨tg, iter, ifs, 0⟩] scope pos) (tComp wi T js g tc te) := by
  intro pins s σ H Q I h
  obtain ⟨cl, hcl, p1, p2⟩ := closure_ok (cells_there I S)
  rw [eval_ListComp]
  refine wpAny_comprehension_free (use := none) rfl hs hcl S.kind S.loc (thn (hi pins s σ H _ I h) fun v s1 h1 => thn h1 fun itv s2 h2 => ?_)
  obtain ⟨it, fp, tn, J, H2, e, I2, Tn, st2, f2, loop⟩ := h2
  subst e
  refine comp_block (RR := fun acc C => compPost (model X.prog X.w) X.A X.xe none (EP X pins σ Q) acc C) hc S hjs hg hk ht he p1 p2 I2 Tn st2 f2 (fun D H' => Q (.ref D) H') loop ?_
  intro D C H' s' m' hn fC I' z
  obtain ⟨f0, f1, f2, f3, f4, f5⟩ := fC
  exact ⟨m', hn, fun h' sb => ⟨.ref D, H', I'.turned (t' := s'.toks) (fun b o hb e => (sb.2 b hb).trans e) f0 f1 f3 f4 f5, rfl, z⟩⟩
theorem ps_setComp {wi : TI} {i : Nat} {y : Str} {py spos : Pos} (hc : X.calm = true) (hN : X.N.Nodup) (hy : X.N[i]? = some y) (hl : X.env.scope.names.lookup y = some .local \/ X.env.scope.names.lookup y = some .cell) (hi : PI X tg iter wi) (S : CompScope X.env.scope scope T F) (hjs : Paired (fun x j => X.N[j]? = some x) F js)
    (hg : ∀ cl C fp s H, PG (cxComp X (T ++ F) scope cl C fp s H) tg g) (hk : GKeep T.length g)
    (ht : ∀ cl C fp s H, PIf (cxComp X (T ++ F) scope cl C fp s H) ifs tc) (he : ∀ cl C fp s H, PE (cxComp X (T ++ F) scope cl C fp s H) elt te)
    (hsw : swapsWith (.ListComp elt [⟨tg, iter, ifs, 0⟩] scope pos) (some (.Name y py)) spos.line X.env = pure true := by rfl)
    (hs : ∀ x, foldedSetIterable iter X.env x = pure x := by intro _; rfl) (hfn : X.fn y = true \/ X.env.scope.names.lookup y = some .local := by first | exact .inl rfl | exact .inr rfl | assumption) :
    PS X (.Assign [.Name y py] (.ListComp elt [⟨tg, iter, ifs, 0⟩] scope pos) spos) (fun D σ H => tComp wi T js g tc te σ H fun v H1 => D.nx (σ.set i (some v)) H1) := by
  intro pins s σ H D I h
  obtain ⟨cl, hcl, p1, p2⟩ := closure_ok (cells_there I S)
  rw [exec_Assign_Name_used _ _ _ _ hsw]
  refine wpAny_bind (wpAny_standAt (wpAny_bind ?_))
  show wpAny _ X.A (do let _ <- comprehension (.ListComp elt [⟨tg, iter, ifs, 0⟩] scope pos) scope X.env _ (newList []) false (eval iter X.env) (some (assign (.Name y py) X.env))) _ _ s
  refine wpAny_bind (thn (wpAny_comprehension_free (use := some (assign (.Name y py) X.env)) (Q := fun _ s' => SP X pins D .next s') rfl hs hcl S.kind S.loc (thn (hi pins s σ H _ I h) fun v s1 h1 => thn h1 fun itv s2 h2 => ?_)) fun _ s' hq => wpAny_pure (wpAny_pure hq))
  obtain ⟨it, fp, tn, J, H2, e, I2, Tn, st2, f2, loop⟩ := h2
  subst e
  refine comp_block (RR := fun acc C => compPost (model X.prog X.w) X.A X.xe (some (assign (.Name y py) X.env)) (fun _ s' => SP X pins D .next s') acc C) hc S hjs hg hk ht he p1 p2 I2 Tn st2 f2 (fun D0 H' => D.nx (σ.set i (some (.ref D0))) H') loop ?_
  intro D0 C H' s' m' hn fC I' z
  obtain ⟨f0, f1, f2, f3, f4, f5⟩ := fC
  show wpAny _ X.A (assign (.Name y py) X.env (.ref D0)) _ _ s'
  refine wpAny_assign_Name (store_ok2 (v := .ref D0) I' hN hy hl rfl (fun s'' I'' ch => ?_) hfn)
  obtain ⟨a, sb, ha⟩ := ch
  have hCa : C ≠ a := by
    rcases ha with rfl | ha
    · exact f1
    · exact fun z => f4 y a ha z.symm
  exact ⟨m', hn.sameBut sb hCa, fun h' sb' => ⟨_, H', I''.turned (t' := s''.toks) (fun b o hb e => (sb'.2 b hb).trans e) f0 f1 f3 f4 f5, z⟩⟩
end
end L3
namespace L3
open PySem PySem.Spec L2
open PyProof.Rows hiding St
noncomputable def Itv (n : Nat) (val : Nat -> V -> Prop) : It := ⟨fun i _ => i < n, fun i H x H' => H' = H /\ val i x, fun i _ => i = n⟩
noncomputable def SignV (x : Str) (i : Nat) (v : V) : Prop := ∃ c, x.cps[i]? = some c /\ v = .str ⟨#[c]⟩
theorem turn_str {P : Program} {w : World} {K : PySem.W.Frag} {tg : Expr} {it : Addr} {x : Str} {t : Tok} {T : String}
    (W : ∀ A : Around, A.handled = none -> Walks P w A it [it] [it] x.cps.size (SignAt x) (fun i h => h.IsStrIter it T x t i))
    (hs : ∀ (A : Around) (i : Nat) (s : Shared) (Q : Value -> Shared -> Prop) (E : Value -> Shared -> Prop), s.heap.IsStrIter it T x t i -> Q (.ref it) s -> wpAny (model P w) A (pyIter (.ref it)) Q E s)
    (hT : ["enumerate", "zip", "dict_itemiterator", "dict_reverseitemiterator", "odict_iterator", "itertools.zip_longest", "itertools.pairwise"].contains T = false) :
    Turn P w K tg (Itv x.cps.size (SignV x)) [it] it (fun i h => h.IsStrIter it T x t i) where
  mem := by simp
  obj := fun i h st b hb => by
    have e : b = it := by simpa using hb
    subst e
    obtain ⟨o, e, c, d⟩ := st
    exact ⟨o, e, fun v z => by rw [d] at z; cases z⟩
  keep := fun i h h' st k => let ⟨o, e, r⟩ := st; ⟨o, k it (by simp) o e, r⟩
  item := by
    intro X hP hw hK hc i pins s σ H E I hf st hg
    subst hP hw hK
    obtain ⟨f0, f1, f2, f3, f4, f5⟩ := hf it (by simp)
    refine (W X.A (I.ok.hd hc)).item i s _ _ hg st fun v h' tk hv st' kk => ?_
    obtain ⟨c, u, hx, rfl⟩ := hv
    have I1 : Inv X pins σ H { s with heap := h', toks := tk } := I.turned (fun b o hb e => kk b o (by simpa using hb) e) f0 f1 f3 f4 f5
    obtain ⟨o, e, c', d⟩ := id st'
    exact ⟨_, rfl, go_of (s := { s with heap := h', toks := tk }) e c' d hT ⟨.str ⟨#[c]⟩, H, I1, ⟨u, rfl⟩, ⟨rfl, c, hx, rfl⟩, st', fun b hb => (hf b hb).1⟩⟩
  done := by
    intro X hP hw hK hc i pins s σ H E I hf st hg
    subst hP hw hK
    obtain ⟨f0, f1, f2, f3, f4, f5⟩ := hf it (by simp)
    have e : i = x.cps.size := hg
    subst e
    exact (W X.A (I.ok.hd hc)).done s _ _ st fun h' tk kk => ⟨rfl, I.turned (fun b o hb e => kk b o (by simpa using hb) e) f0 f1 f3 f4 f5⟩
  self := fun A i s Q E st h => hs A i s Q E st h
noncomputable def truOf : V -> Option Bool
  | .bl b => some b
  | .int i => some (i != 0)
  | .non => some false
  | _ => none
noncomputable def truAt (ys : List V) (d : Bool) (i : Nat) : Bool := ((ys[i]?).bind truOf).getD d
theorem all_range (ys : List V) (h : ∀ y ∈ ys, (truOf y).isSome = true) : (List.range ys.length).all (truAt ys true) = ys.all fun y => truOf y == some true := by
  rw [Bool.eq_iff_iff, List.all_eq_true, List.all_eq_true]
  constructor
  · intro q y hy
    obtain ⟨i, hi, e⟩ := List.getElem_of_mem hy
    have z := q i (List.mem_range.mpr hi)
    unfold truAt at z
    rw [List.getElem?_eq_getElem hi, Option.bind_some, e] at z
    obtain ⟨b, hb⟩ := Option.isSome_iff_exists.mp (h y hy)
    rw [hb] at z ⊢
    simpa using z
  · intro q i hi
    have hi' := List.mem_range.mp hi
    have z := q _ (List.getElem_mem hi')
    unfold truAt
    rw [List.getElem?_eq_getElem hi', Option.bind_some, eq_of_beq z]
    rfl
theorem any_range (ys : List V) (h : ∀ y ∈ ys, (truOf y).isSome = true) : (List.range ys.length).any (truAt ys false) = ys.any fun y => truOf y == some true := by
  rw [Bool.eq_iff_iff, List.any_eq_true, List.any_eq_true]
  constructor
  · rintro ⟨i, hi, z⟩
    have hi' := List.mem_range.mp hi
    refine ⟨_, List.getElem_mem hi', ?_⟩
    unfold truAt at z
    rw [List.getElem?_eq_getElem hi', Option.bind_some] at z
    obtain ⟨b, hb⟩ := Option.isSome_iff_exists.mp (h _ (List.getElem_mem hi'))
    rw [hb] at z ⊢
    simpa using z
  · rintro ⟨y, hy, z⟩
    obtain ⟨i, hi, e⟩ := List.getElem_of_mem hy
    refine ⟨i, List.mem_range.mpr hi, ?_⟩
    unfold truAt
    rw [List.getElem?_eq_getElem hi, Option.bind_some, e, eq_of_beq z]
    rfl
theorem truth_of {P : Program} {w : World} {A : Around} {ys : List V} {its : List Value} (d : Bool) (r : Vals ys its) (h : ∀ y ∈ ys, (truOf y).isSome = true) : TruthOf P w A (fun i v => its.toArray[i]? = some v) (truAt ys d) := by
  intro i v s Q E hP hQ
  obtain ⟨y, hy, ry⟩ := paired_get r (show its[i]? = some v by simpa using hP)
  unfold truAt at hQ
  rw [hy, Option.bind_some] at hQ
  have hs := h y (List.mem_of_getElem? hy)
  cases y with
  | bl b => cases ry; exact wpAny_truthy_bool hQ
  | int k => obtain ⟨t, rfl⟩ := ry; exact PySem.P.truthy_int hQ
  | non => cases ry; exact truthy_none hQ
  | _ => cases hs
section
variable {X : Cx}
theorem kept_push {s : Shared} {h' : Heap} {o : Obj} (hk : ∀ b x, b ∉ [s.heap.objs.size] -> (s.heap.push o).get? b = some x -> h'.get? b = some x) : ∀ b x, s.heap.get? b = some x -> h'.get? b = some x :=
  fun b x e => hk b x (by simpa using Nat.ne_of_lt (Heap.lt_size e)) (Heap.get?_push_of_some _ e)
noncomputable def rAll (K : PySem.W.Frag) (f : List V -> Bool) : List V -> Hp -> VK -> Prop := fun xs H Q => ∃ p ys, xs = [.ref p] /\ (SqL K H p ys \/ SqT K H p ys) /\ (∀ y ∈ ys, (truOf y).isSome = true) /\ Q (.bl (f ys)) H
theorem call_all_seq (hc : X.calm = true) : CallR X (.builtin "all") (rAll X.K fun ys => ys.all fun y => truOf y == some true) := by
  intro pins s σ H xs us Q I r h
  obtain ⟨p, ys, rfl, hq, ht, q⟩ := h
  obtain ⟨u, rfl, rx⟩ := vals1 r
  cases rx
  rcases hq with hq | hq
  · obtain ⟨its, rv, pl, hz⟩ := I.list hq
    have hlt : p < s.heap.objs.size := by obtain ⟨_, e, _⟩ := pl.isList; exact Heap.lt_size e
    refine call_all_walk (wpAny_pyIter_list pl.isList ⟨s.heap.objs.size, [s.heap.objs.size, p], [s.heap.objs.size], its.toArray.size, _, _, truAt ys true, rfl, Walks.list (A := X.A.in1) (I.ok.hd hc) _ p (Nat.ne_of_lt hlt) its.toArray,
      ⟨⟨_, Heap.get?_push_size _ rfl, rfl, rfl⟩, pl.isList.push _⟩, truth_of true rv ht, fun h' tk hk => ?_⟩)
    rw [List.size_toArray, <- rv.length, all_range ys ht]
    exact ⟨.bl _, H, I.kept (kept_push hk), rfl, q⟩
  · obtain ⟨its, rv, pl, hz⟩ := I.tuple hq
    have hlt : p < s.heap.objs.size := by obtain ⟨_, e, _⟩ := pl; exact Heap.lt_size e
    have pl' : s.heap.IsTuple p its.toArray := pl
    refine call_all_walk (wpAny_pyIter_tuple pl' ⟨s.heap.objs.size, [s.heap.objs.size, p], [s.heap.objs.size], its.toArray.size, _, _, truAt ys true, rfl, Walks.tuple (A := X.A.in1) (I.ok.hd hc) _ p (Nat.ne_of_lt hlt) its.toArray,
      ⟨⟨_, Heap.get?_push_size _ rfl, rfl, rfl⟩, pl'.at fun o e => Heap.get?_push_of_some _ e⟩, truth_of true rv ht, fun h' tk hk => ?_⟩)
    rw [List.size_toArray, <- rv.length, all_range ys ht]
    exact ⟨.bl _, H, I.kept (kept_push hk), rfl, q⟩
theorem call_any_seq (hc : X.calm = true) : CallR X (.builtin "any") (rAll X.K fun ys => ys.any fun y => truOf y == some true) := by
  intro pins s σ H xs us Q I r h
  obtain ⟨p, ys, rfl, hq, ht, q⟩ := h
  obtain ⟨u, rfl, rx⟩ := vals1 r
  cases rx
  rcases hq with hq | hq
  · obtain ⟨its, rv, pl, hz⟩ := I.list hq
    have hlt : p < s.heap.objs.size := by obtain ⟨_, e, _⟩ := pl.isList; exact Heap.lt_size e
    refine call_any_walk (wpAny_pyIter_list pl.isList ⟨s.heap.objs.size, [s.heap.objs.size, p], [s.heap.objs.size], its.toArray.size, _, _, truAt ys false, rfl, Walks.list (A := X.A.in1) (I.ok.hd hc) _ p (Nat.ne_of_lt hlt) its.toArray,
      ⟨⟨_, Heap.get?_push_size _ rfl, rfl, rfl⟩, pl.isList.push _⟩, truth_of false rv ht, fun h' tk hk => ?_⟩)
    rw [List.size_toArray, <- rv.length, any_range ys ht]
    exact ⟨.bl _, H, I.kept (kept_push hk), rfl, q⟩
  · obtain ⟨its, rv, pl, hz⟩ := I.tuple hq
    have hlt : p < s.heap.objs.size := by obtain ⟨_, e, _⟩ := pl; exact Heap.lt_size e
    have pl' : s.heap.IsTuple p its.toArray := pl
    refine call_any_walk (wpAny_pyIter_tuple pl' ⟨s.heap.objs.size, [s.heap.objs.size, p], [s.heap.objs.size], its.toArray.size, _, _, truAt ys false, rfl, Walks.tuple (A := X.A.in1) (I.ok.hd hc) _ p (Nat.ne_of_lt hlt) its.toArray,
      ⟨⟨_, Heap.get?_push_size _ rfl, rfl, rfl⟩, pl'.at fun o e => Heap.get?_push_of_some _ e⟩, truth_of false rv ht, fun h' tk hk => ?_⟩)
    rw [List.size_toArray, <- rv.length, any_range ys ht]
    exact ⟨.bl _, H, I.kept (kept_push hk), rfl, q⟩
end
end L3
namespace DL
open PySem PySem.Spec L2 L3
open PyProof.Rows hiding St
inductive Cst where
  | int (i : Int) | str (x : Str) | tup (cs : List Cst)
mutual
noncomputable def CRep (K : PySem.W.Frag) : Cst -> V -> Prop
  | .int i, v => v = .int i
  | .str x, v => v = .str x
  | .tup cs, v => ∃ (a : Addr) (o : Obj) (its : Array Value) (n : Nat) (xs : List V), v = .ref a /\ K.lookup a = some o /\ o.cls = .type "tuple" /\ o.data = .seq its n /\ its.size <= sizeLine /\ Vals xs its.toList /\ CReps K cs xs
noncomputable def CReps (K : PySem.W.Frag) : List Cst -> List V -> Prop
  | [], xs => xs = []
  | c :: cs, xs => ∃ v r, xs = v :: r /\ CRep K c v /\ CReps K cs r
end
inductive D where
  | non | bl (b : Bool) | int (i : Int) | str (x : Str) | ty (n : String)
  | tup (ds : List D) | lst (ds : List D) | dk (ks : List Key) (ds : List D) | dt (ks : List (List Key)) (ds : List D)
  /-- the script -/
  | scr (ns : List Int)
  /-- an exception of the class at C -/
  | exc (C : Addr)
  /-- a list of whole numbers (below m, where 0 < m), no matter which -/
  | fd (m : Int)
  | cn (c : Cst)
noncomputable def Scr (K : PySem.W.Frag) (H : Hp) (a : Addr) (ns : List Int) : Prop :=
  (∃ o, H a = some (.frz o (.lst (ns.map V.int)))) \/
    ∃ (o : Obj) (its : Array Value) (n : Nat), K.lookup a = some o /\ o.cls = .type "list" /\ o.dict = none /\ o.data = .seq its n /\ its.size <= sizeLine /\ Vals (ns.map V.int) its.toList
theorem Scr.seq {K : PySem.W.Frag} {H : Hp} {a : Addr} {ns : List Int} (h : Scr K H a ns) : SqL K H a (ns.map V.int) := by
  rcases h with ⟨o, h⟩ | h
  · exact .inl (.inr ⟨o, h⟩)
  · exact .inr h
noncomputable def SqR (K : PySem.W.Frag) (H : Hp) (a : Addr) (xs : List V) : Prop := SqT K H a xs /\ H a = some (.tup xs)
noncomputable def ExcO (a C : Addr) : HO := .ext fun h => ∃ o, h.get? a = some o /\ o.cls = .ref C /\ PySem.W.notCls o = true
noncomputable def FeedO (a : Addr) (m : Int) : HO := .ext fun h => ∃ (its : Array Value) (n : Nat), h.get? a = some { cls := .type "list", dict := none, data := .seq its n, slots := #[] } /\ its.size <= 1000 /\ (m <= 0 -> 1 <= its.size) /\ ∀ v ∈ its, ∃ (i : Int) (t : Tok), v = .int i t /\ (0 < m -> 0 <= i /\ i < m)
mutual
noncomputable def Rep (K : PySem.W.Frag) (H : Hp) (O : List Addr) : D -> V -> Prop
  | .non, v => v = .non
  | .bl b, v => v = .bl b
  | .int i, v => v = .int i
  | .str x, v => v = .str x
  | .ty n, v => v = .ty n
  | .cn c, v => CRep K c v
  | .tup ds, v => ∃ a xs, v = .ref a /\ SqR K H a xs /\ Reps K H O ds xs
  | .lst ds, v => ∃ a xs, v = .ref a /\ H a = some (.lst xs) /\ a ∉ O /\ Reps K H O ds xs
  | .scr ns, v => ∃ a, v = .ref a /\ Scr K H a ns
  | .exc C, v => ∃ a, v = .ref a /\ H a = some (ExcO a C) /\ a ∉ O
  | .fd m, v => ∃ a, v = .ref a /\ H a = some (FeedO a m) /\ a ∉ O
  | .dk ks ds, v => ∃ a xs, v = .ref a /\ H a = some (.dK (ks.zip xs)) /\ a ∉ O /\ ks.length = ds.length /\ ks.Nodup /\ Reps K H O ds xs
  | .dt ks ds, v => ∃ a xs, v = .ref a /\ H a = some (.dT (ks.zip xs)) /\ a ∉ O /\ ks.length = ds.length /\ ks.Nodup /\ Reps K H O ds xs
noncomputable def Reps (K : PySem.W.Frag) (H : Hp) (O : List Addr) : List D -> List V -> Prop
  | [], xs => xs = []
  | d :: ds, xs => ∃ v r, xs = v :: r /\ Rep K H O d v /\ Reps K H O ds r
end
structure Grow (O O' : List Addr) (H H' : Hp) : Prop where
  keep : ∀ b u, H b = some u -> b ∉ O -> H' b = some u /\ b ∉ O'
  tups : ∀ b xs, H b = some (.tup xs) -> H' b = some (.tup xs)
  frzs : ∀ b o u, H b = some (.frz o u) -> H' b = some (.frz o u)
theorem Grow.same {O : List Addr} {H H' : Hp} (s : Same H H') : Grow O O H H' := ⟨fun b u h n => ⟨s b u h, n⟩, fun b xs h => s b _ h, fun b o u h => s b _ h⟩
theorem Grow.refl {O : List Addr} {H : Hp} : Grow O O H H := Grow.same (Same.refl H)
theorem Grow.trans {O O' O'' : List Addr} {H H' H'' : Hp} (a : Grow O O' H H') (b : Grow O' O'' H' H'') : Grow O O'' H H'' :=
  ⟨fun c u h n => let ⟨h', n'⟩ := a.keep c u h n; b.keep c u h' n', fun c xs h => b.tups c xs (a.tups c xs h), fun c o u h => b.frzs c o u (a.frzs c o u h)⟩
theorem sqT_grow {K : PySem.W.Frag} {O O' : List Addr} {H H' : Hp} {a : Addr} {xs : List V} (g : Grow O O' H H') (h : SqT K H a xs) : SqT K H' a xs := by
  rcases h with (h | ⟨o, h⟩) | h
  · exact .inl (.inl (g.tups _ _ h))
  · exact .inl (.inr ⟨o, g.frzs _ _ _ h⟩)
  · exact .inr h
theorem sqR_grow {K : PySem.W.Frag} {O O' : List Addr} {H H' : Hp} {a : Addr} {xs : List V} (g : Grow O O' H H') (h : SqR K H a xs) : SqR K H' a xs := ⟨sqT_grow g h.1, g.tups _ _ h.2⟩
theorem scr_grow {K : PySem.W.Frag} {O O' : List Addr} {H H' : Hp} {a : Addr} {ns : List Int} (g : Grow O O' H H') (h : Scr K H a ns) : Scr K H' a ns := by
  rcases h with ⟨o, h⟩ | h
  · exact .inl ⟨o, g.frzs _ _ _ h⟩
  · exact .inr h
mutual
theorem Rep.grow {K : PySem.W.Frag} {O O' : List Addr} {H H' : Hp} (g : Grow O O' H H') : ∀ (d : D) (v : V), Rep K H O d v -> Rep K H' O' d v
  | .non, _, h => h
  | .bl _, _, h => h
  | .int _, _, h => h
  | .str _, _, h => h
  | .ty _, _, h => h
  | .cn _, _, h => h
  | .tup ds, v, h => by
    obtain ⟨a, xs, e, q, r⟩ := h
    exact ⟨a, xs, e, sqR_grow g q, Reps.grow g ds xs r⟩
  | .lst ds, v, h => by
    obtain ⟨a, xs, e, q, n, r⟩ := h
    exact ⟨a, xs, e, (g.keep _ _ q n).1, (g.keep _ _ q n).2, Reps.grow g ds xs r⟩
  | .scr ns, v, h => by
    obtain ⟨a, e, q⟩ := h
    exact ⟨a, e, scr_grow g q⟩
  | .exc C, v, h => by
    obtain ⟨a, e, q, n⟩ := h
    exact ⟨a, e, (g.keep _ _ q n).1, (g.keep _ _ q n).2⟩
  | .fd m, v, h => by
    obtain ⟨a, e, q, n⟩ := h
    exact ⟨a, e, (g.keep _ _ q n).1, (g.keep _ _ q n).2⟩
  | .dk ks ds, v, h => by
    obtain ⟨a, xs, e, q, n, l, nd, r⟩ := h
    exact ⟨a, xs, e, (g.keep _ _ q n).1, (g.keep _ _ q n).2, l, nd, Reps.grow g ds xs r⟩
  | .dt ks ds, v, h => by
    obtain ⟨a, xs, e, q, n, l, nd, r⟩ := h
    exact ⟨a, xs, e, (g.keep _ _ q n).1, (g.keep _ _ q n).2, l, nd, Reps.grow g ds xs r⟩
theorem Reps.grow {K : PySem.W.Frag} {O O' : List Addr} {H H' : Hp} (g : Grow O O' H H') : ∀ (ds : List D) (xs : List V), Reps K H O ds xs -> Reps K H' O' ds xs
  | [], _, h => h
  | d :: ds, xs, h => by
    obtain ⟨v, r, e, q, t⟩ := h
    exact ⟨v, r, e, Rep.grow g d v q, Reps.grow g ds r t⟩
end
mutual
theorem Rep.sub {K : PySem.W.Frag} {O O' : List Addr} {H : Hp} (g : ∀ a ∈ O', a ∈ O) : ∀ (d : D) (v : V), Rep K H O d v -> Rep K H O' d v
  | .non, _, h => h
  | .bl _, _, h => h
  | .int _, _, h => h
  | .str _, _, h => h
  | .ty _, _, h => h
  | .cn _, _, h => h
  | .tup ds, v, h => by
    obtain ⟨a, xs, e, q, r⟩ := h
    exact ⟨a, xs, e, q, Reps.sub g ds xs r⟩
  | .lst ds, v, h => by
    obtain ⟨a, xs, e, q, n, r⟩ := h
    exact ⟨a, xs, e, q, fun z => n (g a z), Reps.sub g ds xs r⟩
  | .scr _, _, h => h
  | .exc _, _, h => by
    obtain ⟨a, e, q, n⟩ := h
    exact ⟨a, e, q, fun z => n (g a z)⟩
  | .fd _, _, h => by
    obtain ⟨a, e, q, n⟩ := h
    exact ⟨a, e, q, fun z => n (g a z)⟩
  | .dk ks ds, v, h => by
    obtain ⟨a, xs, e, q, n, l, nd, r⟩ := h
    exact ⟨a, xs, e, q, fun z => n (g a z), l, nd, Reps.sub g ds xs r⟩
  | .dt ks ds, v, h => by
    obtain ⟨a, xs, e, q, n, l, nd, r⟩ := h
    exact ⟨a, xs, e, q, fun z => n (g a z), l, nd, Reps.sub g ds xs r⟩
theorem Reps.sub {K : PySem.W.Frag} {O O' : List Addr} {H : Hp} (g : ∀ a ∈ O', a ∈ O) : ∀ (ds : List D) (xs : List V), Reps K H O ds xs -> Reps K H O' ds xs
  | [], _, h => h
  | d :: ds, xs, h => by
    obtain ⟨v, r, e, q, t⟩ := h
    exact ⟨v, r, e, Rep.sub g d v q, Reps.sub g ds r t⟩
end
mutual
noncomputable def pureD : D -> Prop
  | .tup ds => pureDs ds
  | .lst _ => False
  | .dk _ _ => False
  | .dt _ _ => False
  | .scr _ => True
  | .exc _ => False
  | .fd _ => False
  | .non => True
  | .bl _ => True
  | .int _ => True
  | .str _ => True
  | .ty _ => True
  | .cn _ => True
noncomputable def pureDs : List D -> Prop
  | [] => True
  | d :: ds => pureD d /\ pureDs ds
end
theorem pureDs_iff : ∀ {ds : List D}, pureDs ds ↔ ∀ d ∈ ds, pureD d
  | [] => by simp [pureDs]
  | d :: ds => by
    rw [pureDs, pureDs_iff]
    simp
mutual
theorem Rep.pure {K : PySem.W.Frag} {O O' : List Addr} {H : Hp} : ∀ (d : D) (v : V), pureD d -> Rep K H O d v -> Rep K H O' d v
  | .non, _, _, h => h
  | .bl _, _, _, h => h
  | .int _, _, _, h => h
  | .str _, _, _, h => h
  | .ty _, _, _, h => h
  | .cn _, _, _, h => h
  | .tup ds, v, p, h => by
    obtain ⟨a, xs, e, q, r⟩ := h
    exact ⟨a, xs, e, q, Reps.pure ds xs p r⟩
  | .scr _, _, _, h => h
  | .exc _, _, p, _ => p.elim
  | .fd _, _, p, _ => p.elim
  | .lst ds, v, p, h => p.elim
  | .dk ks ds, v, p, h => p.elim
  | .dt ks ds, v, p, h => p.elim
theorem Reps.pure {K : PySem.W.Frag} {O O' : List Addr} {H : Hp} : ∀ (ds : List D) (xs : List V), pureDs ds -> Reps K H O ds xs -> Reps K H O' ds xs
  | [], _, _, h => h
  | d :: ds, xs, p, h => by
    obtain ⟨v, r, e, q, t⟩ := h
    exact ⟨v, r, e, Rep.pure d v p.1 q, Reps.pure ds r p.2 t⟩
end
mutual
noncomputable def RepN (K : PySem.W.Frag) (H : Hp) (P : Addr -> Prop) : D -> V -> Prop
  | .non, v => v = .non
  | .bl b, v => v = .bl b
  | .int i, v => v = .int i
  | .str x, v => v = .str x
  | .ty n, v => v = .ty n
  | .cn c, v => CRep K c v
  | .tup ds, v => ∃ a xs, v = .ref a /\ SqR K H a xs /\ RepNs K H P ds xs
  | .lst ds, v => ∃ a xs, v = .ref a /\ H a = some (.lst xs) /\ P a /\ RepNs K H P ds xs
  | .scr ns, v => ∃ a, v = .ref a /\ Scr K H a ns
  | .exc C, v => ∃ a, v = .ref a /\ H a = some (ExcO a C) /\ P a
  | .fd m, v => ∃ a, v = .ref a /\ H a = some (FeedO a m) /\ P a
  | .dk ks ds, v => ∃ a xs, v = .ref a /\ H a = some (.dK (ks.zip xs)) /\ P a /\ ks.length = ds.length /\ ks.Nodup /\ RepNs K H P ds xs
  | .dt ks ds, v => ∃ a xs, v = .ref a /\ H a = some (.dT (ks.zip xs)) /\ P a /\ ks.length = ds.length /\ ks.Nodup /\ RepNs K H P ds xs
noncomputable def RepNs (K : PySem.W.Frag) (H : Hp) (P : Addr -> Prop) : List D -> List V -> Prop
  | [], xs => xs = []
  | d :: ds, xs => ∃ v r, xs = v :: r /\ RepN K H P d v /\ RepNs K H P ds r
end
mutual
theorem RepN.to {K : PySem.W.Frag} {P P' : Addr -> Prop} {H H' : Hp} (s : Same H H') (g : ∀ a, P a -> P' a) : ∀ (d : D) (v : V), RepN K H P d v -> RepN K H' P' d v
  | .non, _, h => h
  | .bl _, _, h => h
  | .int _, _, h => h
  | .str _, _, h => h
  | .ty _, _, h => h
  | .cn _, _, h => h
  | .tup ds, v, h => by
    obtain ⟨a, xs, e, q, r⟩ := h
    exact ⟨a, xs, e, sqR_grow (Grow.same (O := []) s) q, RepNs.to s g ds xs r⟩
  | .lst ds, v, h => by
    obtain ⟨a, xs, e, q, n, r⟩ := h
    exact ⟨a, xs, e, s _ _ q, g a n, RepNs.to s g ds xs r⟩
  | .scr ns, v, h => by
    obtain ⟨a, e, q⟩ := h
    exact ⟨a, e, scr_grow (Grow.same (O := []) s) q⟩
  | .exc C, v, h => by
    obtain ⟨a, e, q, n⟩ := h
    exact ⟨a, e, s _ _ q, g a n⟩
  | .fd m, v, h => by
    obtain ⟨a, e, q, n⟩ := h
    exact ⟨a, e, s _ _ q, g a n⟩
  | .dk ks ds, v, h => by
    obtain ⟨a, xs, e, q, n, l, nd, r⟩ := h
    exact ⟨a, xs, e, s _ _ q, g a n, l, nd, RepNs.to s g ds xs r⟩
  | .dt ks ds, v, h => by
    obtain ⟨a, xs, e, q, n, l, nd, r⟩ := h
    exact ⟨a, xs, e, s _ _ q, g a n, l, nd, RepNs.to s g ds xs r⟩
theorem RepNs.to {K : PySem.W.Frag} {P P' : Addr -> Prop} {H H' : Hp} (s : Same H H') (g : ∀ a, P a -> P' a) : ∀ (ds : List D) (xs : List V), RepNs K H P ds xs -> RepNs K H' P' ds xs
  | [], _, h => h
  | d :: ds, xs, h => by
    obtain ⟨v, r, e, q, t⟩ := h
    exact ⟨v, r, e, RepN.to s g d v q, RepNs.to s g ds r t⟩
end
mutual
theorem RepN.rep {K : PySem.W.Frag} {P : Addr -> Prop} {H : Hp} {O : List Addr} (g : ∀ a, P a -> a ∉ O) : ∀ (d : D) (v : V), RepN K H P d v -> Rep K H O d v
  | .non, _, h => h
  | .bl _, _, h => h
  | .int _, _, h => h
  | .str _, _, h => h
  | .ty _, _, h => h
  | .cn _, _, h => h
  | .tup ds, v, h => by
    obtain ⟨a, xs, e, q, r⟩ := h
    exact ⟨a, xs, e, q, RepNs.reps g ds xs r⟩
  | .lst ds, v, h => by
    obtain ⟨a, xs, e, q, n, r⟩ := h
    exact ⟨a, xs, e, q, g a n, RepNs.reps g ds xs r⟩
  | .scr _, _, h => h
  | .exc C, v, h => by
    obtain ⟨a, e, q, n⟩ := h
    exact ⟨a, e, q, g a n⟩
  | .fd m, v, h => by
    obtain ⟨a, e, q, n⟩ := h
    exact ⟨a, e, q, g a n⟩
  | .dk ks ds, v, h => by
    obtain ⟨a, xs, e, q, n, l, nd, r⟩ := h
    exact ⟨a, xs, e, q, g a n, l, nd, RepNs.reps g ds xs r⟩
  | .dt ks ds, v, h => by
    obtain ⟨a, xs, e, q, n, l, nd, r⟩ := h
    exact ⟨a, xs, e, q, g a n, l, nd, RepNs.reps g ds xs r⟩
theorem RepNs.reps {K : PySem.W.Frag} {P : Addr -> Prop} {H : Hp} {O : List Addr} (g : ∀ a, P a -> a ∉ O) : ∀ (ds : List D) (xs : List V), RepNs K H P ds xs -> Reps K H O ds xs
  | [], _, h => h
  | d :: ds, xs, h => by
    obtain ⟨v, r, e, q, t⟩ := h
    exact ⟨v, r, e, RepN.rep g d v q, RepNs.reps g ds r t⟩
end
theorem RepNs.append {K : PySem.W.Frag} {P : Addr -> Prop} {H : Hp} : ∀ {ds es : List D} {xs ys : List V}, RepNs K H P ds xs -> RepNs K H P es ys -> RepNs K H P (ds ++ es) (xs ++ ys)
  | [], es, xs, ys, h, h' => by cases h; exact h'
  | d :: ds, es, xs, ys, h, h' => by
    obtain ⟨v, r, rfl, q, t⟩ := h
    exact ⟨v, r ++ ys, rfl, q, RepNs.append t h'⟩
theorem RepNs.length {K : PySem.W.Frag} {P : Addr -> Prop} {H : Hp} {ds : List D} {xs : List V} (h : RepNs K H P ds xs) : xs.length = ds.length := by
  induction ds generalizing xs with
  | nil => cases (show xs = [] from h); rfl
  | cons d ds ih =>
    obtain ⟨v, r, rfl, _, t⟩ := h
    simp [ih t]
section
variable {K : PySem.W.Frag} {H : Hp} {O : List Addr}
theorem Reps.length : ∀ {ds : List D} {xs : List V}, Reps K H O ds xs -> xs.length = ds.length
  | [], _, h => by cases h; rfl
  | d :: ds, xs, h => by
    obtain ⟨v, r, e, _, t⟩ := h
    subst e
    simp [Reps.length t]
theorem Reps.get : ∀ {ds : List D} {xs : List V} {i : Nat} {d : D}, Reps K H O ds xs -> ds[i]? = some d -> ∃ v, xs[i]? = some v /\ Rep K H O d v
  | [], _, _, _, _, e => by simp at e
  | d :: ds, xs, 0, d', h, e => by
    obtain ⟨v, r, rfl, q, _⟩ := h
    simp at e
    subst e
    exact ⟨v, rfl, q⟩
  | d :: ds, xs, i + 1, d', h, e => by
    obtain ⟨v, r, rfl, _, t⟩ := h
    obtain ⟨v', e', q'⟩ := Reps.get (i := i) t (by simpa using e)
    exact ⟨v', by simpa using e', q'⟩
theorem Reps.append : ∀ {ds es : List D} {xs ys : List V}, Reps K H O ds xs -> Reps K H O es ys -> Reps K H O (ds ++ es) (xs ++ ys)
  | [], es, xs, ys, h, h' => by cases h; exact h'
  | d :: ds, es, xs, ys, h, h' => by
    obtain ⟨v, r, rfl, q, t⟩ := h
    exact ⟨v, r ++ ys, rfl, q, Reps.append t h'⟩
theorem Reps.one {d : D} {v : V} (h : Rep K H O d v) : Reps K H O [d] [v] := ⟨v, [], rfl, h, rfl⟩
theorem Reps.take : ∀ {ds : List D} {xs : List V} (n : Nat), Reps K H O ds xs -> Reps K H O (ds.take n) (xs.take n)
  | _, _, 0, _ => rfl
  | [], _, n + 1, h => by cases h; rfl
  | d :: ds, xs, n + 1, h => by
    obtain ⟨v, r, rfl, q, t⟩ := h
    exact ⟨v, r.take n, rfl, q, Reps.take n t⟩
theorem Reps.drop : ∀ {ds : List D} {xs : List V} (n : Nat), Reps K H O ds xs -> Reps K H O (ds.drop n) (xs.drop n)
  | _, _, 0, h => h
  | [], _, n + 1, h => by cases h; rfl
  | d :: ds, xs, n + 1, h => by
    obtain ⟨v, r, rfl, q, t⟩ := h
    exact Reps.drop n t
theorem Reps.ints : ∀ (ns : List Int), Reps K H O (ns.map D.int) (ns.map V.int)
  | [] => rfl
  | n :: ns => ⟨_, _, rfl, rfl, Reps.ints ns⟩
theorem Reps.rep {ds : List D} {xs : List V} (h : Reps K H O ds xs) : ∀ k : Nat, Reps K H O (List.replicate k ds).flatten (List.replicate k xs).flatten
  | 0 => rfl
  | k + 1 => by
    rw [List.replicate_succ, List.replicate_succ, List.flatten_cons, List.flatten_cons]
    exact h.append (Reps.rep h k)
end
noncomputable def View (K : PySem.W.Frag) (H : Hp) (O : List Addr) (d : D) (v : V) : Prop := match d with
  | .lst ds => ∃ a xs, v = .ref a /\ H a = some (.lst xs) /\ Reps K H O ds xs
  | .dk ks ds => ∃ a xs, v = .ref a /\ H a = some (.dK (ks.zip xs)) /\ ks.length = ds.length /\ ks.Nodup /\ Reps K H O ds xs
  | .dt ks ds => ∃ a xs, v = .ref a /\ H a = some (.dT (ks.zip xs)) /\ ks.length = ds.length /\ ks.Nodup /\ Reps K H O ds xs
  | d => Rep K H O d v
noncomputable def Con (K : PySem.W.Frag) (H : Hp) (O : List Addr) (d : D) (a : Addr) : Prop := match d with
  | .lst ds => ∃ xs, H a = some (.lst xs) /\ Reps K H O ds xs
  | .dk ks ds => ∃ xs, H a = some (.dK (ks.zip xs)) /\ ks.length = ds.length /\ ks.Nodup /\ Reps K H O ds xs
  | .dt ks ds => ∃ xs, H a = some (.dT (ks.zip xs)) /\ ks.length = ds.length /\ ks.Nodup /\ Reps K H O ds xs
  | _ => False
theorem Rep.view {K : PySem.W.Frag} {H : Hp} {O : List Addr} {d : D} {v : V} (h : Rep K H O d v) : View K H O d v := by
  cases d with
  | lst ds => obtain ⟨a, xs, e, q, _, r⟩ := h; exact ⟨a, xs, e, q, r⟩
  | dk ks ds => obtain ⟨a, xs, e, q, _, r⟩ := h; exact ⟨a, xs, e, q, r⟩
  | dt ks ds => obtain ⟨a, xs, e, q, _, r⟩ := h; exact ⟨a, xs, e, q, r⟩
  | _ => exact h
theorem Con.view {K : PySem.W.Frag} {H : Hp} {O : List Addr} {d : D} {a : Addr} (h : Con K H O d a) : View K H O d (.ref a) := by
  cases d with
  | lst ds => obtain ⟨xs, q, r⟩ := h; exact ⟨a, xs, rfl, q, r⟩
  | dk ks ds => obtain ⟨xs, q, r⟩ := h; exact ⟨a, xs, rfl, q, r⟩
  | dt ks ds => obtain ⟨xs, q, r⟩ := h; exact ⟨a, xs, rfl, q, r⟩
  | _ => exact h.elim
theorem Con.rep {K : PySem.W.Frag} {H : Hp} {O : List Addr} {d : D} {a : Addr} (h : Con K H O d a) (n : a ∉ O) : Rep K H O d (.ref a) := by
  cases d with
  | lst ds => obtain ⟨xs, q, r⟩ := h; exact ⟨a, xs, rfl, q, n, r⟩
  | dk ks ds => obtain ⟨xs, q, r⟩ := h; exact ⟨a, xs, rfl, q, n, r⟩
  | dt ks ds => obtain ⟨xs, q, r⟩ := h; exact ⟨a, xs, rfl, q, n, r⟩
  | _ => exact h.elim
theorem Con.same {K : PySem.W.Frag} {H H' : Hp} {O : List Addr} {d : D} {a : Addr} (h : Con K H O d a) (s : Same H H') : Con K H' O d a := by
  cases d with
  | lst ds => obtain ⟨xs, q, r⟩ := h; exact ⟨xs, s _ _ q, Reps.grow (Grow.same s) _ _ r⟩
  | dk ks ds => obtain ⟨xs, q, l, n, r⟩ := h; exact ⟨xs, s _ _ q, l, n, Reps.grow (Grow.same s) _ _ r⟩
  | dt ks ds => obtain ⟨xs, q, l, n, r⟩ := h; exact ⟨xs, s _ _ q, l, n, Reps.grow (Grow.same s) _ _ r⟩
  | _ => exact h.elim
theorem Con.sub {K : PySem.W.Frag} {H : Hp} {O O' : List Addr} {d : D} {a : Addr} (h : Con K H O d a) (g : ∀ a ∈ O', a ∈ O) : Con K H O' d a := by
  cases d with
  | lst ds => obtain ⟨xs, q, r⟩ := h; exact ⟨xs, q, Reps.sub g _ _ r⟩
  | dk ks ds => obtain ⟨xs, q, l, n, r⟩ := h; exact ⟨xs, q, l, n, Reps.sub g _ _ r⟩
  | dt ks ds => obtain ⟨xs, q, l, n, r⟩ := h; exact ⟨xs, q, l, n, Reps.sub g _ _ r⟩
  | _ => exact h.elim
theorem View.sub {K : PySem.W.Frag} {H : Hp} {O O' : List Addr} {d : D} {v : V} (h : View K H O d v) (g : ∀ a ∈ O', a ∈ O) : View K H O' d v := by
  cases d with
  | lst ds => obtain ⟨a, xs, e, q, r⟩ := h; exact ⟨a, xs, e, q, Reps.sub g _ _ r⟩
  | dk ks ds => obtain ⟨a, xs, e, q, l, n, r⟩ := h; exact ⟨a, xs, e, q, l, n, Reps.sub g _ _ r⟩
  | dt ks ds => obtain ⟨a, xs, e, q, l, n, r⟩ := h; exact ⟨a, xs, e, q, l, n, Reps.sub g _ _ r⟩
  | _ => exact Rep.sub g _ _ h
theorem View.rep0 {K : PySem.W.Frag} {H : Hp} {O : List Addr} {d : D} {v : V} (h : View K H O d v) : Rep K H [] d v := by
  have h := h.sub (O' := []) (fun _ z => nomatch z)
  cases d with
  | lst ds => obtain ⟨a, xs, e, q, r⟩ := h; exact ⟨a, xs, e, q, by simp, r⟩
  | dk ks ds => obtain ⟨a, xs, e, q, l, n, r⟩ := h; exact ⟨a, xs, e, q, by simp, l, n, r⟩
  | dt ks ds => obtain ⟨a, xs, e, q, l, n, r⟩ := h; exact ⟨a, xs, e, q, by simp, l, n, r⟩
  | _ => exact h
inductive Kd where | val | own | fre | new
  deriving DecidableEq
structure EV where
  k : Kd
  d : D
noncomputable abbrev DE := List (Option EV)
noncomputable abbrev dv (d : D) : EV := ⟨.val, d⟩
noncomputable abbrev df (d : D) : EV := ⟨.fre, d⟩
noncomputable abbrev dO (d : D) : EV := ⟨.own, d⟩
noncomputable def RV (K : PySem.W.Frag) (H0 H : Hp) (O : List Addr) (r : EV) (v : V) : Prop := match r.k with
  | .val => Rep K H O r.d v
  | .own => ∃ a, v = .ref a /\ a ∈ O /\ Con K H O r.d a
  | .fre => ∃ a, v = .ref a /\ H0 a = none /\ a ∉ O /\ Con K H (a :: O) r.d a
  | .new => RepN K H (fun a => a ∉ O /\ H0 a = none) r.d v
section
variable {K : PySem.W.Frag} {H0 H1 H H' : Hp} {O : List Addr} {r : EV} {v : V}
theorem RV.val {d : D} (h : Rep K H O d v) : RV K H0 H O (dv d) v := h
theorem RV.same (h : RV K H0 H O r v) (s : Same H H') : RV K H0 H' O r v := by
  obtain ⟨k, d⟩ := r
  cases k with
  | val => exact Rep.grow (Grow.same s) _ _ h
  | own => obtain ⟨a, e, m, c⟩ := h; exact ⟨a, e, m, c.same s⟩
  | fre => obtain ⟨a, e, m, n, c⟩ := h; exact ⟨a, e, m, n, c.same s⟩
  | new => exact RepN.to s (fun _ z => z) _ _ h
theorem RV.start (h : RV K H0 H O r v) (s : Same H1 H0) : RV K H1 H O r v := by
  obtain ⟨k, d⟩ := r
  cases k with
  | val => exact h
  | own => exact h
  | fre => obtain ⟨a, e, m, n, c⟩ := h; exact ⟨a, e, s.free m, n, c⟩
  | new => exact RepN.to (Same.refl H) (fun a z => ⟨z.1, s.free z.2⟩) _ _ h
theorem RV.view (h : RV K H0 H O r v) : View K H O r.d v := by
  obtain ⟨k, d⟩ := r
  cases k with
  | val => exact Rep.view h
  | own => obtain ⟨a, e, m, c⟩ := h; subst e; exact c.view
  | fre => obtain ⟨a, e, m, n, c⟩ := h; subst e; exact (c.sub fun b hb => List.mem_cons_of_mem _ hb).view
  | new => exact (RepN.rep (fun a z => z.1) _ _ h).view
theorem RV.solid (h : RV K H0 H O r v) (hk : r.k ≠ .own) : Rep K H O r.d v := by
  obtain ⟨k, d⟩ := r
  cases k with
  | val => exact h
  | own => exact absurd rfl hk
  | fre => obtain ⟨a, e, m, n, c⟩ := h; subst e; exact (c.sub fun b hb => List.mem_cons_of_mem _ hb).rep n
  | new => exact RepN.rep (fun a z => z.1) _ _ h
end
structure REnv (K : PySem.W.Frag) (H₀ H : Hp) (σ : St) (ρ : DE) (o : List (Nat × Addr)) : Prop where
  same : Same H₀ H
  fresh : ∀ p ∈ o, H₀ p.2 = none
  trk : ∀ p ∈ o, ∃ u, H p.2 = some u
  mtb : ∀ p ∈ o, (∀ xs, H p.2 ≠ some (.tup xs)) /\ ∀ ob u, H p.2 ≠ some (.frz ob u)
  nda : (o.map Prod.snd).Nodup
  slots : ∀ i r, ρ[i]? = some (some r) -> ∃ v, σ[i]? = some (some v) /\ ((r.k = .val /\ Rep K H (o.map Prod.snd) r.d v) \/ (r.k = .own /\ ∃ a, v = .ref a /\ (i, a) ∈ o /\ Con K H (o.map Prod.snd) r.d a))
  len : σ.length = ρ.length
section
variable {K : PySem.W.Frag} {H₀ H H' : Hp} {σ : St} {ρ : DE} {o : List (Nat × Addr)}
theorem REnv.to (R : REnv K H₀ H σ ρ o) (s : Same H H') : REnv K H₀ H' σ ρ o where
  same := R.same.trans s
  fresh := R.fresh
  trk := fun p hp => let ⟨u, e⟩ := R.trk p hp; ⟨u, s _ _ e⟩
  mtb := fun p hp => by
    obtain ⟨u, e⟩ := R.trk p hp
    obtain ⟨m1, m2⟩ := R.mtb p hp
    refine ⟨fun xs z => ?_, fun ob w z => ?_⟩
    · rw [s _ _ e] at z; rw [<- e] at z; exact m1 xs z
    · rw [s _ _ e] at z; rw [<- e] at z; exact m2 ob w z
  nda := R.nda
  slots := fun i r e => by
    obtain ⟨v, ev, h⟩ := R.slots i r e
    refine ⟨v, ev, ?_⟩
    rcases h with ⟨k, h⟩ | ⟨k, a, e1, m, c⟩
    · exact .inl ⟨k, Rep.grow (Grow.same s) _ _ h⟩
    · exact .inr ⟨k, a, e1, m, c.same s⟩
  len := R.len
theorem REnv.ofree (R : REnv K H₀ H σ ρ o) {a : Addr} (h : H a = none) : a ∉ o.map Prod.snd := fun z => by
  obtain ⟨p, hp, e⟩ := List.mem_map.mp z
  obtain ⟨u, q⟩ := R.trk p hp
  rw [e, h] at q
  cases q
end
noncomputable abbrev TD := DE -> (EV -> Prop) -> Prop
noncomputable abbrev TDb := DE -> (Bool -> Prop) -> Prop
noncomputable abbrev TDs := DE -> (List EV -> Prop) -> Prop
structure DZ where
  nx : DE -> Prop
  rt : EV -> Prop
  bk : DE -> Prop := fun _ => False
  ct : DE -> Prop := fun _ => False
noncomputable abbrev TDS := DE -> DZ -> Prop
noncomputable def RVs (K : PySem.W.Frag) (H0 H : Hp) (O : List Addr) : List EV -> List V -> Prop
  | [], vs => vs = []
  | r :: rs, vs => ∃ v ws, vs = v :: ws /\ RV K H0 H O r v /\ RVs K H0 H O rs ws
theorem RVs.same {K : PySem.W.Frag} {H0 H H' : Hp} {O : List Addr} (s : Same H H') : ∀ {rs : List EV} {vs : List V}, RVs K H0 H O rs vs -> RVs K H0 H' O rs vs
  | [], _, h => h
  | r :: rs, vs, h => by
    obtain ⟨v, ws, e, q, t⟩ := h
    exact ⟨v, ws, e, q.same s, t.same s⟩
theorem RVs.start {K : PySem.W.Frag} {H0 H1 H : Hp} {O : List Addr} (s : Same H1 H0) : ∀ {rs : List EV} {vs : List V}, RVs K H0 H O rs vs -> RVs K H1 H O rs vs
  | [], _, h => h
  | r :: rs, vs, h => by
    obtain ⟨v, ws, e, q, t⟩ := h
    exact ⟨v, ws, e, q.start s, t.start s⟩
theorem RVs.reps {K : PySem.W.Frag} {H0 H : Hp} {O : List Addr} : ∀ {rs : List EV} {vs : List V}, RVs K H0 H O rs vs -> (∀ r ∈ rs, r.k ≠ .own) -> Reps K H O (rs.map EV.d) vs
  | [], _, h, _ => h
  | r :: rs, vs, h, n => by
    obtain ⟨v, ws, e, q, t⟩ := h
    exact ⟨v, ws, e, q.solid (n r (List.mem_cons_self ..)), t.reps fun r' h' => n r' (List.mem_cons_of_mem _ h')⟩
theorem RVs.reps0 {K : PySem.W.Frag} {H0 H : Hp} {O : List Addr} : ∀ {rs : List EV} {vs : List V}, RVs K H0 H O rs vs -> Reps K H [] (rs.map EV.d) vs
  | [], _, h => h
  | r :: rs, vs, h => by
    obtain ⟨v, ws, e, q, t⟩ := h
    exact ⟨v, ws, e, q.view.rep0, t.reps0⟩
noncomputable def liftE (K : PySem.W.Frag) (H₀ : Hp) (t : TD) : TE := fun σ H Q => ∃ ρ o, REnv K H₀ H σ ρ o /\ ∃ φ, t ρ φ /\ ∀ v r H', Same H H' -> RV K H H' (o.map Prod.snd) r v -> φ r -> Q v H'
noncomputable def liftT (K : PySem.W.Frag) (H₀ : Hp) (t : TDb) : TT := fun σ H Q => ∃ ρ o, REnv K H₀ H σ ρ o /\ ∃ φ, t ρ φ /\ ∀ b H', Same H H' -> φ b -> Q b H'
noncomputable def liftA (K : PySem.W.Frag) (H₀ : Hp) (t : TDs) : TA := fun σ H Q => ∃ ρ o, REnv K H₀ H σ ρ o /\ ∃ φ, t ρ φ /\ ∀ vs rs H', Same H H' -> RVs K H H' (o.map Prod.snd) rs vs -> φ rs -> Q vs H'
noncomputable def liftS (K : PySem.W.Frag) (H₀ : Hp) (t : TDS) : TS := fun D σ H => ∃ ρ o, REnv K H₀ H σ ρ o /\ ∃ Z, t ρ Z /\
  (∀ ρ' σ' H' o', Grow (o.map Prod.snd) (o'.map Prod.snd) H H' -> REnv K H₀ H' σ' ρ' o' -> Z.nx ρ' -> D.nx σ' H') /\
  (∀ ρ' σ' H' o', Grow (o.map Prod.snd) (o'.map Prod.snd) H H' -> REnv K H₀ H' σ' ρ' o' -> Z.bk ρ' -> D.bk σ' H') /\
  (∀ ρ' σ' H' o', Grow (o.map Prod.snd) (o'.map Prod.snd) H H' -> REnv K H₀ H' σ' ρ' o' -> Z.ct ρ' -> D.ct σ' H') /\
  (∀ v r H', Same H₀ H' -> RV K H₀ H' [] r v -> Z.rt r -> D.rt v H')
noncomputable def ED (G : Hp -> Prop) (X : Cx) (e : Expr) (t : TD) : Prop := ∀ H₀ : {H : Hp // G H}, PE X e (liftE X.K H₀.1 t)
noncomputable def ET (G : Hp -> Prop) (X : Cx) (e : Expr) (t : TDb) : Prop := ∀ H₀ : {H : Hp // G H}, PT X e (liftT X.K H₀.1 t)
noncomputable def EW (G : Hp -> Prop) (X : Cx) (e : Expr) (t : TDb) : Prop := ∀ H₀ : {H : Hp // G H}, PW X e (liftT X.K H₀.1 t)
noncomputable def EA (G : Hp -> Prop) (X : Cx) (es : List Expr) (t : TDs) : Prop := ∀ H₀ : {H : Hp // G H}, PA X es (liftA X.K H₀.1 t)
noncomputable def SD (G : Hp -> Prop) (X : Cx) (st : Stmt) (t : TDS) : Prop := ∀ H₀ : {H : Hp // G H}, PS X st (liftS X.K H₀.1 t)
noncomputable def SDs (G : Hp -> Prop) (X : Cx) (st : List Stmt) (t : TDS) : Prop := ∀ H₀ : {H : Hp // G H}, PSs X st (liftS X.K H₀.1 t)
theorem impE {X : Cx} {e : Expr} {t t' : TE} (h : PE X e t) (i : ∀ σ H Q, t' σ H Q -> t σ H Q) : PE X e t' := fun pins s σ H Q I q => h pins s σ H Q I (i σ H Q q)
theorem impT {X : Cx} {e : Expr} {t t' : TT} (h : PT X e t) (i : ∀ σ H Q, t' σ H Q -> t σ H Q) : PT X e t' := fun pins s σ H Q I q => h pins s σ H Q I (i σ H Q q)
theorem impW {X : Cx} {e : Expr} {t t' : TT} (h : PW X e t) (i : ∀ σ H Q, t' σ H Q -> t σ H Q) : PW X e t' := fun wh pins s σ H Q I q => h wh pins s σ H Q I (i σ H Q q)
theorem impA {X : Cx} {es : List Expr} {t t' : TA} (h : PA X es t) (i : ∀ σ H Q, t' σ H Q -> t σ H Q) : PA X es t' := fun pos pins s σ H Q I q => h pos pins s σ H Q I (i σ H Q q)
theorem impS {X : Cx} {st : Stmt} {t t' : TS} (h : PS X st t) (i : ∀ D σ H, t' D σ H -> t D σ H) : PS X st t' := fun pins s σ H D I q => h pins s σ H D I (i D σ H q)
theorem impSs {X : Cx} {st : List Stmt} {t t' : TS} (h : PSs X st t) (i : ∀ D σ H, t' D σ H -> t D σ H) : PSs X st t' := fun pins s σ H D I q => h pins s σ H D I (i D σ H q)
end DL
namespace DL
open PySem PySem.Spec L2 L3
open PyProof.Rows hiding St
variable {Γ : Hp -> Prop}
noncomputable def slot : DE -> Nat -> Option EV
  | [], _ => none
  | x :: _, 0 => x
  | _ :: r, i + 1 => slot r i
theorem slot_eq : ∀ {ρ : DE} {i : Nat} {r : EV}, slot ρ i = some r -> ρ[i]? = some (some r)
  | [], _, _, h => by cases h
  | x :: _, 0, _, h => by cases h; rfl
  | _ :: l, i + 1, r, h => by rw [List.getElem?_cons_succ]; exact slot_eq (ρ := l) h
noncomputable def dName (i : Nat) : TD := fun ρ φ => match slot ρ i with
  | some r => φ r
  | none => False
noncomputable def dC (d : D) : TD := fun _ φ => φ (dv d)
section
variable {X : Cx} {a b c e : Expr} {ta tb tc te : TD} {pos : Pos}
theorem ed_name (i : Nat) {x : Str} (hN : X.N[i]? = some x := by rfl) (hv : Vis X.env.scope x := by first | exact Or.inl rfl | exact Or.inr (Or.inl rfl) | exact Or.inr (Or.inr rfl)) (hd : (x == ("__debug__" : Str)) = false := by decide)
    (hcd : (x == ("__classdict__" : Str)) = false := by decide) : ED Γ X (.Name x pos) (dName i) := fun H₀ => impE (pe_var hN hv hd hcd) fun σ H Q h => by
  obtain ⟨ρ, o, R, φ, hφ, k⟩ := h
  cases e : slot ρ i with
  | none =>
    simp only [dName, e] at hφ
  | some r =>
    simp only [dName, e] at hφ
    obtain ⟨v, ev, h⟩ := R.slots i r (slot_eq e)
    refine ⟨v, ev, k v r H (Same.refl H) ?_ hφ⟩
    obtain ⟨kd, d⟩ := r
    rcases h with ⟨rfl, h⟩ | ⟨rfl, a, e1, m, c⟩
    · exact h
    · exact ⟨a, e1, List.mem_map.mpr ⟨_, m, rfl⟩, c⟩
theorem ed_c {x : Expr} {v : V} {d : D} (h : PE X x (tC v)) (hr : ∀ H O, Rep X.K H O d v) : ED Γ X x (dC d) := fun H₀ => impE h fun σ H Q h => by
  obtain ⟨ρ, o, R, φ, hφ, k⟩ := h
  exact k v (dv d) H (Same.refl H) (hr H _) hφ
theorem ed_int {i : Int} {j pos} : ED Γ X (.Constant (.int i) j pos) (dC (.int i)) := ed_c pe_int fun _ _ => rfl
theorem ed_bl {b : Bool} {j pos} : ED Γ X (.Constant (.bool b) j pos) (dC (.bl b)) := ed_c pe_bl fun _ _ => rfl
theorem ed_non {j pos} : ED Γ X (.Constant .none j pos) (dC .non) := ed_c pe_non fun _ _ => rfl
theorem ed_str {x : Str} {j pos} : ED Γ X (.Constant (.str x) j pos) (dC (.str x)) := ed_c pe_str fun _ _ => rfl
structure GC (K : PySem.W.Frag) (mg : Str -> Option Value) (x : Str) (d : D) : Prop where
  ex : ∃ u v, mg x = some u /\ RelV v u /\ ∀ H O, Rep K H O d v
theorem ed_glob {x : Str} {d : D} (G : GC X.K X.mg x d) (hg : Gl X x := by rfl) (hd : (x == ("__debug__" : Str)) = false := by decide) : ED Γ X (.Name x pos) (dC d) := by
  obtain ⟨u, v, hm, r, h⟩ := G.ex
  exact ed_c (pe_glob hg hm r hd) h
theorem ed_ty {x : Str} {n : String} (hm : X.mg x = none) (hv : bootBuiltins x = some (.type n)) (hg : Gl X x := by rfl) (hn : x ≠ "__name__" := by decide) (hd : (x == ("__debug__" : Str)) = false := by decide) : ED Γ X (.Name x pos) (dC (.ty n)) :=
  ed_c (pe_bltn hg hm hv (v := .ty n) rfl hn hd) fun _ _ => rfl
noncomputable def Link2 (K : PySem.W.Frag) (rr : R2) (s : D -> D -> (EV -> Prop) -> Prop) : Prop :=
  ∀ (H : Hp) (O : List Addr) (x y : D) (vx vy : V) (φ : EV -> Prop) (Q : VK), (∀ a, H a = none -> a ∉ O) -> View K H O x vx -> View K H O y vy -> s x y φ ->
    (∀ v r H', Same H H' -> RV K H H' O r v -> φ r -> Q v H') -> rr vx vy H Q
noncomputable def d2 (s : D -> D -> (EV -> Prop) -> Prop) (ta tb : TD) : TD := fun ρ φ => ta ρ fun x => tb ρ fun y => s x.d y.d φ
theorem lift2 {rr : R2} {s : D -> D -> (EV -> Prop) -> Prop} {H₀ : Hp} (hl : Link2 X.K rr s) : ∀ σ H Q, liftE X.K H₀ (d2 s ta tb) σ H Q -> tOp rr (liftE X.K H₀ ta) (liftE X.K H₀ tb) σ H Q := fun σ H Q h => by
  obtain ⟨ρ, o, R, φ, hφ, k⟩ := h
  refine ⟨ρ, o, R, _, hφ, fun v1 r1 H1 s1 rv1 h1 => ⟨ρ, o, R.to s1, _, h1, fun v2 r2 H2 s2 rv2 h2 => ?_⟩⟩
  exact hl H2 _ r1.d r2.d v1 v2 φ Q (fun a e => R.ofree ((s1.trans s2).free e)) (rv1.same s2).view rv2.view h2 fun v r H' s3 rv h => k v r H' (s1.trans (s2.trans s3)) (rv.start (s1.trans s2)) h
theorem ed_bin {op : Operator} {rr : R2} {s : D -> D -> (EV -> Prop) -> Prop} (ho : OpR X (binaryOp op) rr) (hl : Link2 X.K rr s) (ha : ED Γ X a ta) (hb : ED Γ X b tb) : ED Γ X (.BinOp a op b pos) (d2 s ta tb) := fun H₀ =>
  impE (pe_op ho (ha H₀) (hb H₀)) (lift2 hl)
theorem ed_cmp {op : CmpOp} {rr : R2} {s : D -> D -> (EV -> Prop) -> Prop} (ho : OpR X (compareOp op) rr) (hl : Link2 X.K rr s) (ha : ED Γ X a ta) (hb : ED Γ X b tb) (hm : behindInMarks op b = false) : ED Γ X (.Compare a [op] [b] pos) (d2 s ta tb) := fun H₀ =>
  impE (pe_cmpR ho (ha H₀) (hb H₀) hm) (lift2 hl)
theorem op_mulG : OpR X (binaryOp .Mult) (rI IntMulOk fun i j => .int (i * j)) := opI fun _ _ _ _ _ _ _ hc q => PyProof.Rows.mul_int q hc
noncomputable def FdOk (i j : Int) : Prop := j ≠ 0 /\ j.natAbs.log2 < 9000
theorem op_fdivG : OpR X (binaryOp .FloorDiv) (rI FdOk fun i j => .int (i.fdiv j)) := opI fun _ _ _ _ _ _ _ hc q => floordiv_int hc.1 q (.inl (PyProof.noPylong_of_log2 hc.2))
noncomputable def sI (C : Int -> Int -> Prop) (g : Int -> Int -> D) : D -> D -> (EV -> Prop) -> Prop := fun x y φ => match x, y with
  | .int i, .int j => C i j /\ φ (dv (g i j))
  | _, _ => False
theorem link_I {K : PySem.W.Frag} {C : Int -> Int -> Prop} {g : Int -> Int -> D} {gv : Int -> Int -> V} (hg : ∀ i j H O, Rep K H O (g i j) (gv i j)) : Link2 K (rI C gv) (sI C g) := by
  intro H O x y vx vy φ Q ho hx hy h k
  unfold sI at h
  split at h
  · exact ⟨_, _, hx, hy, h.1, k _ _ H (Same.refl H) (by exact hg _ _ H O) h.2⟩
  · exact h.elim
noncomputable def sI0 (g : Int -> Int -> D) : D -> D -> (EV -> Prop) -> Prop := fun x y φ => match x, y with
  | .int i, .int j => φ (dv (g i j))
  | _, _ => False
theorem link_I0 {K : PySem.W.Frag} {g : Int -> Int -> D} {gv : Int -> Int -> V} (hg : ∀ i j H O, Rep K H O (g i j) (gv i j)) : Link2 K (rI0 gv) (sI0 g) := by
  intro H O x y vx vy φ Q ho hx hy h k
  unfold sI0 at h
  split at h
  · exact ⟨_, _, hx, hy, k _ _ H (Same.refl H) (by exact hg _ _ H O) h⟩
  · exact h.elim
noncomputable abbrev sFd := sI FdOk fun i j => .int (i.fdiv j)
noncomputable abbrev sMod := sI (fun _ j => j ≠ 0) fun i j => .int (i.fmod j)
noncomputable abbrev sPow := sI CPow fun i j => .int (i ^ j.toNat)
noncomputable abbrev sLt := sI0 fun i j => .bl (decide (i < j))
noncomputable abbrev sGe := sI0 fun i j => .bl (decide (j <= i))
theorem ed_fd (ha : ED Γ X a ta) (hb : ED Γ X b tb) : ED Γ X (.BinOp a .FloorDiv b pos) (d2 sFd ta tb) := ed_bin op_fdivG (link_I fun _ _ _ _ => rfl) ha hb
theorem ed_mod (ha : ED Γ X a ta) (hb : ED Γ X b tb) : ED Γ X (.BinOp a .Mod b pos) (d2 sMod ta tb) := ed_bin op_modN (link_I fun _ _ _ _ => rfl) ha hb
theorem ed_pow (ha : ED Γ X a ta) (hb : ED Γ X b tb) : ED Γ X (.BinOp a .Pow b pos) (d2 sPow ta tb) := ed_bin op_pow (link_I fun _ _ _ _ => rfl) ha hb
theorem ed_ge (ha : ED Γ X a ta) (hb : ED Γ X b tb) : ED Γ X (.Compare a [.GtE] [b] pos) (d2 sGe ta tb) := ed_cmp op_ge (link_I0 fun _ _ _ _ => rfl) ha hb (nomark _)
noncomputable def sAdd : D -> D -> (EV -> Prop) -> Prop := fun x y φ => match x, y with
  | .int i, .int j => φ (dv (.int (i + j)))
  | .str p, .str q => p.length + q.length <= sizeLine /\ φ (dv (.str (p ++ q)))
  | .lst p, .lst q => p.length + q.length <= sizeLine /\ φ (df (.lst (p ++ q)))
  | .tup p, .tup q => p ≠ [] /\ q ≠ [] /\ p.length + q.length <= sizeLine /\ φ (dv (.tup (p ++ q)))
  | _, _ => False
theorem same_new {H : Hp} {p : Addr} (h : H p = none) (o : HO) : Same H (upd H p o) := fun b u q => by rw [upd_ne (ne_of_none q h)]; exact q
theorem reps_new {K : PySem.W.Frag} {H : Hp} {O : List Addr} {p : Addr} {o : HO} {ds : List D} {xs : List V} (hp : H p = none) (r : Reps K H O ds xs) : Reps K (upd H p o) O ds xs := Reps.grow (Grow.same (same_new hp o)) _ _ r
theorem grow_new {H : Hp} {O : List Addr} {p : Addr} {o : HO} (hp : H p = none) : Grow O (p :: O) H (upd H p o) :=
  ⟨fun b u h n => ⟨same_new hp o b u h, fun z => (List.mem_cons.mp z).elim (fun e => ne_of_none h hp e) n⟩, fun b xs h => same_new hp o b _ h, fun b ob u h => same_new hp o b _ h⟩
theorem rv_lst {K : PySem.W.Frag} {H : Hp} {O : List Addr} {p : Addr} {ds : List D} {xs : List V} (ho : ∀ a, H a = none -> a ∉ O) (hp : H p = none) (r : Reps K H O ds xs) : RV K H (upd H p (.lst xs)) O (df (.lst ds)) (.ref p) :=
  ⟨p, rfl, hp, ho p hp, xs, upd_same, Reps.grow (grow_new hp) _ _ r⟩
theorem rv_tup {K : PySem.W.Frag} {H : Hp} {O : List Addr} {p : Addr} {ds : List D} {xs : List V} (hp : H p = none) (r : Reps K H O ds xs) : RV K H (upd H p (.tup xs)) O (dv (.tup ds)) (.ref p) :=
  ⟨p, xs, rfl, ⟨SqT.of upd_same, upd_same⟩, reps_new hp r⟩
theorem link_add : Link2 X.K (fun x y H Q => rI0 (fun i j => .int (i + j)) x y H Q \/ (∃ i j, x = .str i /\ y = .str j /\ i.length + j.length <= sizeLine /\ Q (.str (i ++ j)) H) \/ rCat x y H Q \/ rCatT X.K x y H Q) sAdd := by
  intro H O x y vx vy φ Q ho hx hy h k
  unfold sAdd at h
  split at h
  · exact .inl ⟨_, _, hx, hy, k _ _ H (Same.refl H) (by exact rfl) h⟩
  · exact .inr (.inl ⟨_, _, hx, hy, h.1, k _ _ H (Same.refl H) (by exact rfl) h.2⟩)
  · obtain ⟨a1, xs, rfl, q1, r1⟩ := hx
    obtain ⟨a2, ys, rfl, q2, r2⟩ := hy
    refine .inr (.inr (.inl ⟨a1, a2, xs, ys, rfl, rfl, q1, q2, by rw [r1.length, r2.length]; exact h.1, fun p hp => ?_⟩))
    exact k _ _ _ (same_new hp _) (rv_lst ho hp (r1.append r2)) h.2
  · obtain ⟨n1, n2, hz, hp⟩ := h
    obtain ⟨a1, xs, rfl, q1, r1⟩ := hx
    obtain ⟨a2, ys, rfl, q2, r2⟩ := hy
    refine .inr (.inr (.inr ⟨a1, a2, xs, ys, rfl, rfl, q1.1, q2.1, ?_, by rw [r1.length, r2.length]; exact hz, fun z => ?_, fun _ p hpn => ?_⟩))
    · intro z
      have e := r1.length
      rw [z] at e
      exact n1 (List.eq_nil_of_length_eq_zero e.symm)
    · exfalso
      have e := r2.length
      rw [z] at e
      exact n2 (List.eq_nil_of_length_eq_zero e.symm)
    · exact k _ _ _ (same_new hpn _) (rv_tup hpn (r1.append r2)) hp
  · exact h.elim
theorem ed_add (ha : ED Γ X a ta) (hb : ED Γ X b tb) : ED Γ X (.BinOp a .Add b pos) (d2 sAdd ta tb) := ed_bin (op_add.or (op_add_str.or (op_cat.or op_catT))) link_add ha hb
noncomputable def sMul : D -> D -> (EV -> Prop) -> Prop := fun x y φ => match x, y with
  | .int i, .int j => IntMulOk i j /\ φ (dv (.int (i * j)))
  | .lst p, .int k => -(2 ^ 63) <= k /\ k < 2 ^ 63 /\ p.length * k.toNat <= sizeLine /\ φ (df (.lst (List.replicate k.toNat p).flatten))
  | _, _ => False
end
end DL
namespace DL
open PySem PySem.Spec L2 L3
open PyProof.Rows hiding St
variable {Γ : Hp -> Prop}
mutual
noncomputable def eqD : D -> D -> Bool
  | .non, .non => true
  | .bl a, .bl b => a == b
  | .bl a, .int b => (if a then 1 else 0) == b
  | .int a, .bl b => a == (if b then 1 else 0)
  | .int a, .int b => a == b
  | .str a, .str b => a == b
  | .tup a, .tup b => eqDs a b
  | .lst a, .lst b => eqDs a b
  | _, _ => false
noncomputable def eqDs : List D -> List D -> Bool
  | [], [] => true
  | a :: as, b :: bs => eqD a b && eqDs as bs
  | _, _ => false
end
noncomputable def okD : Nat -> D -> Prop
  | 0, d => match d with
    | .non => True
    | .bl _ => True
    | .int _ => True
    | .str _ => True
    | _ => False
  | n + 1, d => match d with
    | .non => True
    | .bl _ => True
    | .int _ => True
    | .str _ => True
    | .tup ds => ∀ x ∈ ds, okD n x
    | .lst ds => ∀ x ∈ ds, okD n x
    | _ => False
theorem eqDs_true : ∀ {ds es : List D}, eqDs ds es = true ↔ ds.length = es.length /\ ∀ (j : Nat) (x y : D), ds[j]? = some x -> es[j]? = some y -> eqD x y = true
  | [], [] => by simp [eqDs]
  | [], y :: es => by simp [eqDs]
  | x :: ds, [] => by simp [eqDs]
  | x :: ds, y :: es => by
    rw [eqDs, Bool.and_eq_true, eqDs_true]
    constructor
    · rintro ⟨h, hl, q⟩
      refine ⟨by simp [hl], fun j a b ha hb => ?_⟩
      cases j with
      | zero => simp at ha hb; subst ha hb; exact h
      | succ j => exact q j a b (by simpa using ha) (by simpa using hb)
    · rintro ⟨hl, q⟩
      exact ⟨q 0 x y rfl rfl, by simpa using hl, fun j a b ha hb => q (j + 1) a b (by simpa using ha) (by simpa using hb)⟩
theorem eqDs_range (ds es : List D) : eqDs ds es = ((List.range (min ds.length es.length)).all (fun j => eqD (ds.getD j .non) (es.getD j .non)) && ds.length == es.length) := by
  rw [Bool.eq_iff_iff, eqDs_true, Bool.and_eq_true, List.all_eq_true]
  constructor
  · rintro ⟨hl, q⟩
    refine ⟨fun j hj => ?_, by simp [hl]⟩
    have hj' := List.mem_range.mp hj
    have h1 : j < ds.length := by omega
    have h2 : j < es.length := by omega
    have e1 : ds[j]? = some ds[j] := by simp [h1]
    have e2 : es[j]? = some es[j] := by simp [h2]
    have := q j _ _ e1 e2
    simpa [List.getD, e1, e2] using this
  · rintro ⟨q, hl⟩
    have hl' : ds.length = es.length := by simpa using hl
    refine ⟨hl', fun j x y hx hy => ?_⟩
    have h1 := (List.getElem?_eq_some_iff.mp hx).1
    have := q j (List.mem_range.mpr (by omega))
    simpa [List.getD, hx, hy] using this
theorem eqD_refl : ∀ (n : Nat) (d : D), okD n d -> eqD d d = true := by
  intro n
  induction n with
  | zero => intro d h; cases d <;> first | exact h.elim | simp [eqD]
  | succ n ih =>
    intro d h
    cases d with
    | tup ds =>
      show eqDs ds ds = true
      refine eqDs_true.mpr ⟨rfl, fun j x y hx hy => ?_⟩
      rw [hx] at hy
      cases hy
      exact ih x (h x (List.mem_of_getElem? hx))
    | lst ds =>
      show eqDs ds ds = true
      refine eqDs_true.mpr ⟨rfl, fun j x y hx hy => ?_⟩
      rw [hx] at hy
      cases hy
      exact ih x (h x (List.mem_of_getElem? hx))
    | dk _ _ => exact h.elim
    | dt _ _ => exact h.elim
    | ty _ => exact h.elim
    | cn _ => exact h.elim
    | scr _ => exact h.elim
    | exc _ => exact h.elim
    | fd _ => exact h.elim
    | _ => simp [eqD]
section
variable {X : Cx} {pins : List (Addr × Obj)} {σ : St} {H : Hp} {s : Shared}
theorem Rep.inj (I : Inv X pins σ H s) : ∀ (n : Nat) (d e : D) (v : V), okD n d -> okD n e -> Rep X.K H [] d v -> Rep X.K H [] e v -> d = e := by
  intro n
  induction n with
  | zero =>
    intro d e v hd he h1 h2
    cases d <;> first | exact hd.elim | (cases e <;> first | exact he.elim | (have z := (show v = _ from h1).symm.trans (show v = _ from h2); first | rfl | (injection z with z; rw [z]) | cases z))
  | succ n ih =>
    have lists : ∀ (ds es : List D) (xs : List V), (∀ x ∈ ds, okD n x) -> (∀ x ∈ es, okD n x) -> Reps X.K H [] ds xs -> Reps X.K H [] es xs -> ds = es := by
      intro ds
      induction ds with
      | nil =>
        intro es xs _ _ r1 r2
        have := r1.length
        have h2 := r2.length
        rw [this] at h2
        exact (List.eq_nil_of_length_eq_zero h2.symm).symm
      | cons d ds ih2 =>
        intro es xs h1 h2 r1 r2
        obtain ⟨v, r, rfl, q, t⟩ := r1
        cases es with
        | nil => cases r2
        | cons e es =>
          obtain ⟨v', r', e1, q', t'⟩ := r2
          cases e1
          rw [ih d e v (h1 d (List.mem_cons_self ..)) (h2 e (List.mem_cons_self ..)) q q', ih2 es r (fun x hx => h1 x (List.mem_cons_of_mem _ hx)) (fun x hx => h2 x (List.mem_cons_of_mem _ hx)) t t']
    intro d e v hd he h1 h2
    have noTL : ∀ (a : Addr) (xs ys : List V), SqT X.K H a xs -> H a = some (.lst ys) -> False := fun a xs ys q1 q2 => by
      obtain ⟨its, _, p1, _⟩ := I.tuple q1
      obtain ⟨its2, _, p2, _⟩ := I.list (SqL.of q2)
      exact SeqAt.ne_of_list_tuple p2.isList (show s.heap.IsTuple a its.toArray from p1) rfl
    cases d with
    | tup ds =>
      obtain ⟨a, xs, rfl, q1, r1⟩ := h1
      cases e with
      | tup es =>
        obtain ⟨a', ys, e1, q2, r2⟩ := h2
        cases e1
        have := I.tuple_inj q1.1 q2.1
        subst this
        rw [lists ds es xs hd he r1 r2]
      | lst es =>
        obtain ⟨a', ys, e1, q2, _, r2⟩ := h2
        cases e1
        exact (noTL _ _ _ q1.1 q2).elim
      | dk _ _ => exact he.elim
      | dt _ _ => exact he.elim
      | scr _ => exact he.elim
      | exc _ => exact he.elim
      | fd _ => exact he.elim
      | ty _ => exact he.elim
      | cn _ => exact he.elim
      | _ => cases (show V.ref a = _ from h2)
    | lst ds =>
      obtain ⟨a, xs, rfl, q1, _, r1⟩ := h1
      cases e with
      | tup es =>
        obtain ⟨a', ys, e1, q2, r2⟩ := h2
        cases e1
        exact (noTL _ _ _ q2.1 q1).elim
      | lst es =>
        obtain ⟨a', ys, e1, q2, _, r2⟩ := h2
        cases e1
        have := I.list_inj (SqL.of q1) (SqL.of q2)
        subst this
        rw [lists ds es xs hd he r1 r2]
      | dk _ _ => exact he.elim
      | dt _ _ => exact he.elim
      | scr _ => exact he.elim
      | exc _ => exact he.elim
      | fd _ => exact he.elim
      | ty _ => exact he.elim
      | cn _ => exact he.elim
      | _ => cases (show V.ref a = _ from h2)
    | dk _ _ => exact hd.elim
    | dt _ _ => exact hd.elim
    | scr _ => exact hd.elim
    | exc _ => exact hd.elim
    | fd _ => exact hd.elim
    | ty _ => exact hd.elim
    | cn _ => exact hd.elim
    | non =>
      cases e with
      | tup es => obtain ⟨a', ys, e1, _⟩ := h2; cases (show v = _ from h1); cases e1
      | lst es => obtain ⟨a', ys, e1, _⟩ := h2; cases (show v = _ from h1); cases e1
      | dk _ _ => exact he.elim
      | dt _ _ => exact he.elim
      | scr _ => exact he.elim
      | exc _ => exact he.elim
      | fd _ => exact he.elim
      | ty _ => exact he.elim
      | cn _ => exact he.elim
      | non => rfl
      | _ => cases (show v = _ from h1); cases (show V.non = _ from h2)
    | bl b =>
      cases e with
      | tup es => obtain ⟨a', ys, e1, _⟩ := h2; cases (show v = _ from h1); cases e1
      | lst es => obtain ⟨a', ys, e1, _⟩ := h2; cases (show v = _ from h1); cases e1
      | dk _ _ => exact he.elim
      | dt _ _ => exact he.elim
      | scr _ => exact he.elim
      | exc _ => exact he.elim
      | fd _ => exact he.elim
      | ty _ => exact he.elim
      | cn _ => exact he.elim
      | _ => cases (show v = _ from h1); cases (show V.bl b = _ from h2) <;> rfl
    | int b =>
      cases e with
      | tup es => obtain ⟨a', ys, e1, _⟩ := h2; cases (show v = _ from h1); cases e1
      | lst es => obtain ⟨a', ys, e1, _⟩ := h2; cases (show v = _ from h1); cases e1
      | dk _ _ => exact he.elim
      | dt _ _ => exact he.elim
      | scr _ => exact he.elim
      | exc _ => exact he.elim
      | fd _ => exact he.elim
      | ty _ => exact he.elim
      | cn _ => exact he.elim
      | _ => cases (show v = _ from h1); cases (show V.int b = _ from h2) <;> rfl
    | str b =>
      cases e with
      | tup es => obtain ⟨a', ys, e1, _⟩ := h2; cases (show v = _ from h1); cases e1
      | lst es => obtain ⟨a', ys, e1, _⟩ := h2; cases (show v = _ from h1); cases e1
      | dk _ _ => exact he.elim
      | dt _ _ => exact he.elim
      | scr _ => exact he.elim
      | exc _ => exact he.elim
      | fd _ => exact he.elim
      | ty _ => exact he.elim
      | cn _ => exact he.elim
      | _ => cases (show v = _ from h1); cases (show V.str b = _ from h2) <;> rfl
inductive Sh (K : PySem.W.Frag) (H : Hp) (s : Shared) : D -> Value -> Prop where
  | non : Sh K H s .non .none
  | bl (b : Bool) : Sh K H s (.bl b) (.bool b)
  | int (i : Int) (t : Tok) : Sh K H s (.int i) (.int i t)
  | str (x : Str) (t : Tok) : Sh K H s (.str x) (.str x t)
  | tup {a : Addr} {ds : List D} {xs : List V} {its : List Value} (p : s.heap.IsTuple a its.toArray) (r : Vals xs its) (q : Reps K H [] ds xs) : Sh K H s (.tup ds) (.ref a)
  | lst {a : Addr} {ds : List D} {xs : List V} {its : List Value} (p : s.heap.IsList a its.toArray) (r : Vals xs its) (q : Reps K H [] ds xs) : Sh K H s (.lst ds) (.ref a)
theorem sh_of (I : Inv X pins σ H s) {n : Nat} {d : D} {x : V} {u : Value} (hd : okD n d) (h : Rep X.K H [] d x) (r : RelV x u) : Sh X.K H s d u := by
  cases d with
  | non => cases (show x = _ from h); cases r; exact .non
  | bl b => cases (show x = _ from h); cases r; exact .bl b
  | int b => cases (show x = _ from h); obtain ⟨t, rfl⟩ := r; exact .int b t
  | str b => cases (show x = _ from h); obtain ⟨t, rfl⟩ := r; exact .str b t
  | ty _ => cases n <;> exact hd.elim
  | cn _ => cases n <;> exact hd.elim
  | dk _ _ => cases n <;> exact hd.elim
  | dt _ _ => cases n <;> exact hd.elim
  | scr _ => cases n <;> exact hd.elim
  | exc _ => cases n <;> exact hd.elim
  | fd _ => cases n <;> exact hd.elim
  | tup ds =>
    obtain ⟨a, xs, rfl, q, t⟩ := h
    cases r
    obtain ⟨its, rv, p, _⟩ := I.tuple q.1
    exact .tup (show s.heap.IsTuple a its.toArray from p) rv t
  | lst ds =>
    obtain ⟨a, xs, rfl, q, _, t⟩ := h
    cases r
    obtain ⟨its, rv, p, _⟩ := I.list (SqL.of q)
    exact .lst p.isList rv t
theorem eq_main (I : Inv X pins σ H s) : ∀ (n : Nat) (d e : D) (x y : V) (u v : Value) (A : Around), okD n d -> okD n e -> Rep X.K H [] d x -> Rep X.K H [] e y -> RelV x u -> RelV y v -> A.units + n < cLine ->
    SeqAt.RcAt A s u v (eqD d e) /\ SeqAt.RcNeAt A s u v (!eqD d e) /\ SeqAt.EqAt A s u v (eqD d e) := by
  intro n
  induction n with
  | zero =>
    intro d e x y u v A hd he h1 h2 r1 r2 hu
    have hu' : A.units < cLine := by omega
    cases sh_of I hd h1 r1 with
    | tup => exact hd.elim
    | lst => exact hd.elim
    | non =>
      cases sh_of I he h2 r2 with
      | non => exact ⟨SeqAt.RcAt.none_none, SeqAt.RcNeAt.none_none, SeqAt.EqAt.same _⟩
      | bl b => exact ⟨SeqAt.RcAt.none_bool b, SeqAt.RcNeAt.none_bool b, SeqAt.EqAt.none_bool b⟩
      | int i t => exact ⟨SeqAt.RcAt.none_int i t, SeqAt.RcNeAt.none_int i t, SeqAt.EqAt.none_int i t⟩
      | str i t => exact ⟨SeqAt.RcAt.none_str i t, SeqAt.RcNeAt.none_str i t, SeqAt.EqAt.none_str i t⟩
      | tup => exact he.elim
      | lst => exact he.elim
    | bl a =>
      cases sh_of I he h2 r2 with
      | non => exact ⟨SeqAt.RcAt.bool_none a, SeqAt.RcNeAt.bool_none a, SeqAt.EqAt.bool_none a⟩
      | bl b => exact ⟨SeqAt.RcAt.bool_bool a b, SeqAt.RcNeAt.bool_bool a b, SeqAt.EqAt.bool_bool a b⟩
      | int i t => exact ⟨SeqAt.RcAt.bool_int a i t, SeqAt.RcNeAt.bool_int a i t, SeqAt.EqAt.bool_int a i t⟩
      | str i t => exact ⟨SeqAt.RcAt.bool_str a i t, SeqAt.RcNeAt.bool_str a i t, SeqAt.EqAt.bool_str a i t⟩
      | tup => exact he.elim
      | lst => exact he.elim
    | int a t =>
      cases sh_of I he h2 r2 with
      | non => exact ⟨SeqAt.RcAt.int_none a t, SeqAt.RcNeAt.int_none a t, SeqAt.EqAt.int_none a t⟩
      | bl b => exact ⟨SeqAt.RcAt.int_bool a t b, SeqAt.RcNeAt.int_bool a t b, SeqAt.EqAt.int_bool a t b⟩
      | int i t' => exact ⟨SeqAt.RcAt.int_int a t i t', SeqAt.RcNeAt.int_int a t i t', SeqAt.EqAt.int_int a t i t'⟩
      | str i t' => exact ⟨SeqAt.RcAt.int_str a t i t', SeqAt.RcNeAt.int_str a t i t', SeqAt.EqAt.int_str a t i t'⟩
      | tup => exact he.elim
      | lst => exact he.elim
    | str a t =>
      cases sh_of I he h2 r2 with
      | non => exact ⟨SeqAt.RcAt.str_none a t, SeqAt.RcNeAt.str_none a t, SeqAt.EqAt.str_none a t⟩
      | bl b => exact ⟨SeqAt.RcAt.str_bool a t b, SeqAt.RcNeAt.str_bool a t b, SeqAt.EqAt.str_bool a t b⟩
      | int i t' => exact ⟨SeqAt.RcAt.str_int a t i t', SeqAt.RcNeAt.str_int a t i t', SeqAt.EqAt.str_int a t i t'⟩
      | str i t' => exact ⟨SeqAt.RcAt.str_str a t i t', SeqAt.RcNeAt.str_str a t i t', SeqAt.EqAt.str_str a t i t'⟩
      | tup => exact he.elim
      | lst => exact he.elim
  | succ n ih =>
    intro d e x y u v A hd he h1 h2 r1 r2 hu
    have hu' : A.units < cLine := by omega
    have hin : A.in1.units + n < cLine := by
      have : A.in1.units = A.units + 1 := rfl
      omega
    have refs : ∀ {l b : Addr} {k : Bool}, u = .ref l -> v = .ref b -> k = eqD d e -> SeqAt.RcAt A s (.ref l) (.ref b) k -> SeqAt.EqAt A s (.ref l) (.ref b) k := fun {l b k} e1 e2 ek h => by
      by_cases hlb : l = b
      · subst hlb
        have hv : x = y := by
          have z1 : x = .ref l := by
            cases x <;> subst e1 <;> first | (have := (show Value.ref l = Value.ref _ from r1); cases this; rfl) | (obtain ⟨t, z⟩ := r1; cases z) | cases r1
          have z2 : y = .ref l := by
            cases y <;> subst e2 <;> first | (have := (show Value.ref l = Value.ref _ from r2); cases this; rfl) | (obtain ⟨t, z⟩ := r2; cases z) | cases r2
          rw [z1, z2]
        subst hv
        have hde := Rep.inj I (n + 1) d e x hd he h1 h2
        subst hde
        rw [ek, eqD_refl (n + 1) d hd]
        exact SeqAt.EqAt.same _
      · exact SeqAt.EqAt.of_refs hlb h
    have items : ∀ {ds es : List D} {xs ys : List V} {its its2 : List Value}, (∀ z ∈ ds, okD n z) -> (∀ z ∈ es, okD n z) -> Reps X.K H [] ds xs -> Reps X.K H [] es ys -> Vals xs its -> Vals ys its2 ->
        ∀ j (h1 : j < its.toArray.size) (h2 : j < its2.toArray.size), SeqAt.EqAt A.in1 s its.toArray[j] its2.toArray[j] (eqD (ds.getD j .non) (es.getD j .non)) := fun {ds es xs ys its its2} o1 o2 q1 q2 w1 w2 j h1 h2 => by
      have l1 := w1.length
      have l2 := w2.length
      have k1 := q1.length
      have k2 := q2.length
      have g1 : j < ds.length := by simp at h1; omega
      have g2 : j < es.length := by simp at h2; omega
      have e1 : ds[j]? = some ds[j] := by simp [g1]
      have e2 : es[j]? = some es[j] := by simp [g2]
      obtain ⟨x', ex, rx⟩ := q1.get e1
      obtain ⟨y', ey, ry⟩ := q2.get e2
      obtain ⟨u', eu, ru⟩ := w1.get ex
      obtain ⟨v', ev, rv⟩ := w2.get ey
      have f1 : its.toArray[j] = u' := by
        have := (List.getElem?_eq_some_iff.mp eu).2
        simpa using this
      have f2 : its2.toArray[j] = v' := by
        have := (List.getElem?_eq_some_iff.mp ev).2
        simpa using this
      rw [f1, f2, show ds.getD j .non = ds[j] by simp [List.getD, e1], show es.getD j .non = es[j] by simp [List.getD, e2]]
      exact (ih ds[j] es[j] x' y' u' v' A.in1 (o1 _ (List.getElem_mem g1)) (o2 _ (List.getElem_mem g2)) rx ry ru rv hin).2.2
    cases sh_of I hd h1 r1 with
    | non =>
      cases sh_of I he h2 r2 with
      | non => exact ⟨SeqAt.RcAt.none_none, SeqAt.RcNeAt.none_none, SeqAt.EqAt.same _⟩
      | bl b => exact ⟨SeqAt.RcAt.none_bool b, SeqAt.RcNeAt.none_bool b, SeqAt.EqAt.none_bool b⟩
      | int i t => exact ⟨SeqAt.RcAt.none_int i t, SeqAt.RcNeAt.none_int i t, SeqAt.EqAt.none_int i t⟩
      | str i t => exact ⟨SeqAt.RcAt.none_str i t, SeqAt.RcNeAt.none_str i t, SeqAt.EqAt.none_str i t⟩
      | tup p _ _ => exact ⟨SeqAt.RcAt.none_tuple p hu', SeqAt.RcNeAt.none_tuple p hu', SeqAt.EqAt.none_tuple p hu'⟩
      | lst p _ _ => exact ⟨SeqAt.RcAt.none_list p hu', SeqAt.RcNeAt.none_list p hu', SeqAt.EqAt.none_list p hu'⟩
    | bl a =>
      cases sh_of I he h2 r2 with
      | non => exact ⟨SeqAt.RcAt.bool_none a, SeqAt.RcNeAt.bool_none a, SeqAt.EqAt.bool_none a⟩
      | bl b => exact ⟨SeqAt.RcAt.bool_bool a b, SeqAt.RcNeAt.bool_bool a b, SeqAt.EqAt.bool_bool a b⟩
      | int i t => exact ⟨SeqAt.RcAt.bool_int a i t, SeqAt.RcNeAt.bool_int a i t, SeqAt.EqAt.bool_int a i t⟩
      | str i t => exact ⟨SeqAt.RcAt.bool_str a i t, SeqAt.RcNeAt.bool_str a i t, SeqAt.EqAt.bool_str a i t⟩
      | tup p _ _ => exact ⟨SeqAt.RcAt.bool_tuple a p hu', SeqAt.RcNeAt.bool_tuple a p hu', SeqAt.EqAt.bool_tuple a p hu'⟩
      | lst p _ _ => exact ⟨SeqAt.RcAt.bool_list a p hu', SeqAt.RcNeAt.bool_list a p hu', SeqAt.EqAt.bool_list a p hu'⟩
    | int a t =>
      cases sh_of I he h2 r2 with
      | non => exact ⟨SeqAt.RcAt.int_none a t, SeqAt.RcNeAt.int_none a t, SeqAt.EqAt.int_none a t⟩
      | bl b => exact ⟨SeqAt.RcAt.int_bool a t b, SeqAt.RcNeAt.int_bool a t b, SeqAt.EqAt.int_bool a t b⟩
      | int i t' => exact ⟨SeqAt.RcAt.int_int a t i t', SeqAt.RcNeAt.int_int a t i t', SeqAt.EqAt.int_int a t i t'⟩
      | str i t' => exact ⟨SeqAt.RcAt.int_str a t i t', SeqAt.RcNeAt.int_str a t i t', SeqAt.EqAt.int_str a t i t'⟩
      | tup p _ _ => exact ⟨SeqAt.RcAt.int_tuple a t p hu', SeqAt.RcNeAt.int_tuple a t p hu', SeqAt.EqAt.int_tuple a t p hu'⟩
      | lst p _ _ => exact ⟨SeqAt.RcAt.int_list a t p hu', SeqAt.RcNeAt.int_list a t p hu', SeqAt.EqAt.int_list a t p hu'⟩
    | str a t =>
      cases sh_of I he h2 r2 with
      | non => exact ⟨SeqAt.RcAt.str_none a t, SeqAt.RcNeAt.str_none a t, SeqAt.EqAt.str_none a t⟩
      | bl b => exact ⟨SeqAt.RcAt.str_bool a t b, SeqAt.RcNeAt.str_bool a t b, SeqAt.EqAt.str_bool a t b⟩
      | int i t' => exact ⟨SeqAt.RcAt.str_int a t i t', SeqAt.RcNeAt.str_int a t i t', SeqAt.EqAt.str_int a t i t'⟩
      | str i t' => exact ⟨SeqAt.RcAt.str_str a t i t', SeqAt.RcNeAt.str_str a t i t', SeqAt.EqAt.str_str a t i t'⟩
      | tup p _ _ => exact ⟨SeqAt.RcAt.str_tuple a t p hu', SeqAt.RcNeAt.str_tuple a t p hu', SeqAt.EqAt.str_tuple a t p hu'⟩
      | lst p _ _ => exact ⟨SeqAt.RcAt.str_list a t p hu', SeqAt.RcNeAt.str_list a t p hu', SeqAt.EqAt.str_list a t p hu'⟩
    | @tup l ds xs its p r q =>
      cases sh_of I he h2 r2 with
      | non => exact ⟨SeqAt.RcAt.tuple_none p hu', SeqAt.RcNeAt.tuple_none p hu', SeqAt.EqAt.tuple_none p hu'⟩
      | bl b => exact ⟨SeqAt.RcAt.tuple_bool b p hu', SeqAt.RcNeAt.tuple_bool b p hu', SeqAt.EqAt.tuple_bool b p hu'⟩
      | int i t => exact ⟨SeqAt.RcAt.tuple_int i t p hu', SeqAt.RcNeAt.tuple_int i t p hu', SeqAt.EqAt.tuple_int i t p hu'⟩
      | str i t => exact ⟨SeqAt.RcAt.tuple_str i t p hu', SeqAt.RcNeAt.tuple_str i t p hu', SeqAt.EqAt.tuple_str i t p hu'⟩
      | lst p2 _ _ => exact ⟨SeqAt.RcAt.tuple_list p p2 hu', SeqAt.RcNeAt.tuple_list p p2 hu', SeqAt.EqAt.tuple_list p p2 hu'⟩
      | @tup b es ys its2 p2 r' q' =>
        have e1 : its.toArray.size = ds.length := by rw [List.size_toArray, <- r.length, q.length]
        have e2 : its2.toArray.size = es.length := by rw [List.size_toArray, <- r'.length, q'.length]
        have ek : eqD (.tup ds) (.tup es) = ((List.range (min its.toArray.size its2.toArray.size)).all (fun j => eqD (ds.getD j .non) (es.getD j .non)) && its.toArray.size == its2.toArray.size) := by
          rw [e1, e2]
          exact eqDs_range ds es
        rw [ek]
        have hrc := SeqAt.RcAt.tuples p p2 hu' (items hd he q q' r r')
        exact ⟨hrc, SeqAt.RcNeAt.tuples p p2 hu' (items hd he q q' r r'), refs rfl rfl ek.symm hrc⟩
    | @lst l ds xs its p r q =>
      cases sh_of I he h2 r2 with
      | non => exact ⟨SeqAt.RcAt.list_none p hu', SeqAt.RcNeAt.list_none p hu', SeqAt.EqAt.list_none p hu'⟩
      | bl b => exact ⟨SeqAt.RcAt.list_bool b p hu', SeqAt.RcNeAt.list_bool b p hu', SeqAt.EqAt.list_bool b p hu'⟩
      | int i t => exact ⟨SeqAt.RcAt.list_int i t p hu', SeqAt.RcNeAt.list_int i t p hu', SeqAt.EqAt.list_int i t p hu'⟩
      | str i t => exact ⟨SeqAt.RcAt.list_str i t p hu', SeqAt.RcNeAt.list_str i t p hu', SeqAt.EqAt.list_str i t p hu'⟩
      | tup p2 _ _ => exact ⟨SeqAt.RcAt.list_tuple p p2 hu', SeqAt.RcNeAt.list_tuple p p2 hu', SeqAt.EqAt.list_tuple p p2 hu'⟩
      | @lst b es ys its2 p2 r' q' =>
        have e1 : its.toArray.size = ds.length := by rw [List.size_toArray, <- r.length, q.length]
        have e2 : its2.toArray.size = es.length := by rw [List.size_toArray, <- r'.length, q'.length]
        by_cases hsz : its.toArray.size = its2.toArray.size
        · have ek : eqD (.lst ds) (.lst es) = (List.range its.toArray.size).all (fun j => eqD (ds.getD j .non) (es.getD j .non)) := by
            show eqDs ds es = _
            rw [eqDs_range, <- e1, <- e2, <- hsz]
            simp
          rw [ek]
          have hrc := SeqAt.RcAt.lists p p2 hsz hu' (items hd he q q' r r')
          exact ⟨hrc, SeqAt.RcNeAt.lists p p2 hsz hu' (items hd he q q' r r'), refs rfl rfl ek.symm hrc⟩
        · have ek : eqD (.lst ds) (.lst es) = false := by
            show eqDs ds es = _
            have hb : (its.toArray.size == its2.toArray.size) = false := beq_eq_false_iff_ne.mpr hsz
            rw [eqDs_range, <- e1, <- e2, hb, Bool.and_false]
          rw [ek]
          have hne : (its.toArray.size != its2.toArray.size) = true := by simpa using hsz
          have hrc := SeqAt.RcAt.lists_lengths p p2 hne hu'
          exact ⟨hrc, SeqAt.RcNeAt.lists_lengths p p2 hne hu', refs rfl rfl ek.symm hrc⟩
end
section
variable {X : Cx} {a b : Expr} {ta tb : TD} {pos : Pos}
noncomputable def rEqD (K : PySem.W.Frag) (neg : Bool) : R2 := fun x y H Q => ∃ d e, Rep K H [] d x /\ Rep K H [] e y /\ okD 40 d /\ okD 40 e /\ Q (.bl (if neg then !eqD d e else eqD d e)) H
theorem op_eqD (hu : X.A.units + 64 < cLine) : OpR X (compareOp .Eq) (rEqD X.K false) := by
  intro pins s σ H x y v u Q I rx ry h
  obtain ⟨d, e, h1, h2, o1, o2, q⟩ := h
  exact (eq_main I 40 d e x y v u X.A o1 o2 h1 h2 rx ry (by omega)).1 X.prog X.w X.xe _ ⟨.bl _, H, I, rfl, q⟩
theorem op_neD (hu : X.A.units + 64 < cLine) : OpR X (compareOp .NotEq) (rEqD X.K true) := by
  intro pins s σ H x y v u Q I rx ry h
  obtain ⟨d, e, h1, h2, o1, o2, q⟩ := h
  exact (eq_main I 40 d e x y v u X.A o1 o2 h1 h2 rx ry (by omega)).2.1 X.prog X.w X.xe _ ⟨.bl _, H, I, rfl, q⟩
noncomputable def sEq : D -> D -> (EV -> Prop) -> Prop := fun x y φ => okD 40 x /\ okD 40 y /\ φ (dv (.bl (eqD x y)))
noncomputable def sNe : D -> D -> (EV -> Prop) -> Prop := fun x y φ => okD 40 x /\ okD 40 y /\ φ (dv (.bl (!eqD x y)))
theorem ed_eq (hu : X.A.units + 64 < cLine) (ha : ED Γ X a ta) (hb : ED Γ X b tb) : ED Γ X (.Compare a [.Eq] [b] pos) (d2 sEq ta tb) :=
  ed_cmp (op_eqD hu) (fun H O x y vx vy φ Q ho hx hy h k => ⟨x, y, hx.rep0, hy.rep0, h.1, h.2.1, k _ _ H (Same.refl H) (by exact rfl) h.2.2⟩) ha hb (nomark _)
end
end DL
namespace DL
open PySem PySem.Spec L2 L3
open PyProof.Rows hiding St
variable {Γ : Hp -> Prop}
section
variable {X : Cx} {a b c e : Expr} {es : List Expr} {ta tb tc te : TD} {t : TDs} {pos : Pos}
theorem link_mul : Link2 X.K (fun x y H Q => rI IntMulOk (fun i j => .int (i * j)) x y H Q \/ rRep x y H Q) sMul := by
  intro H O x y vx vy φ Q ho hx hy h k
  unfold sMul at h
  split at h
  · exact .inl ⟨_, _, hx, hy, h.1, k _ _ H (Same.refl H) (by exact rfl) h.2⟩
  · obtain ⟨h1, h2, h3, h4⟩ := h
    obtain ⟨a1, xs, rfl, q1, r1⟩ := hx
    refine .inr ⟨a1, _, xs, rfl, hy, q1, h1, h2, by rw [r1.length]; exact h3, fun p hp => ?_⟩
    exact k _ _ _ (same_new hp _) (rv_lst ho hp (r1.rep _)) h4
  · exact h.elim
theorem ed_mul (ha : ED Γ X a ta) (hb : ED Γ X b tb) : ED Γ X (.BinOp a .Mult b pos) (d2 sMul ta tb) := ed_bin (op_mulG.or op_rep) link_mul ha hb
noncomputable def sNeg : D -> (EV -> Prop) -> Prop := fun x φ => match x with
  | .int i => φ (dv (.int (-i)))
  | _ => False
noncomputable def d1 (s : D -> (EV -> Prop) -> Prop) (ta : TD) : TD := fun ρ φ => ta ρ fun x => s x.d φ
theorem ed_neg (ha : ED Γ X a ta) : ED Γ X (.UnaryOp .USub a pos) (d1 sNeg ta) := fun H₀ => impE (pe_un un_neg (ha H₀)) fun σ H Q h => by
  obtain ⟨ρ, o, R, φ, hφ, k⟩ := h
  refine ⟨ρ, o, R, _, hφ, fun v1 r1 H1 s1 rv1 h1 => ?_⟩
  obtain ⟨kd, d⟩ := r1
  have hv := rv1.view
  cases d with
  | int i => exact ⟨i, hv, k _ _ H1 s1 (by exact rfl) h1⟩
  | _ => exact h1.elim
noncomputable def truD : D -> Option Bool
  | .non => some false
  | .bl b => some b
  | .int i => some (i != 0)
  | .str x => if x.length <= sizeLine then some ((x.length : Int) != 0) else none
  | .lst ds => some (!ds.isEmpty)
  | .scr ns => some (!ns.isEmpty)
  | .tup ds => some (!ds.isEmpty)
  | .dk _ ds => some (!ds.isEmpty)
  | .dt _ _ => none
  | .ty _ => none
  | .cn _ => none
  | .exc _ => none
  | .fd _ => none
theorem isEmpty_reps {K : PySem.W.Frag} {H : Hp} {O : List Addr} {ds : List D} {xs : List V} (r : Reps K H O ds xs) : xs.isEmpty = ds.isEmpty := by
  have := r.length
  cases xs <;> cases ds <;> simp_all
theorem tru_view {K : PySem.W.Frag} {H : Hp} {O : List Addr} {d : D} {v : V} {b : Bool} (h : View K H O d v) (e : truD d = some b) : TruV K v H b := by
  cases d with
  | non => cases (show v = _ from h); cases e; rfl
  | bl i => cases (show v = _ from h); cases e; rfl
  | int i => cases (show v = _ from h); cases e; rfl
  | str x =>
    cases (show v = _ from h)
    have e' : (if x.length <= sizeLine then some ((x.length : Int) != 0) else none) = some b := e
    split at e'
    · rename_i hz
      cases e'
      exact ⟨hz, rfl⟩
    · cases e'
  | ty _ => cases e
  | cn _ => cases e
  | exc _ => cases e
  | fd _ => cases e
  | lst ds =>
    obtain ⟨a, xs, rfl, q, r⟩ := h
    cases e
    exact .inl ⟨xs, SqL.of q, by rw [isEmpty_reps r]⟩
  | scr ns =>
    obtain ⟨a, rfl, q⟩ := h
    cases e
    exact .inl ⟨_, q.seq, by cases ns <;> rfl⟩
  | tup ds =>
    obtain ⟨a, xs, rfl, q, r⟩ := h
    cases e
    exact .inr (.inl ⟨xs, q.1, by rw [isEmpty_reps r]⟩)
  | dk ks ds =>
    obtain ⟨a, xs, rfl, q, l, _, r⟩ := h
    cases e
    refine .inr (.inr ⟨_, q, ?_⟩)
    have := r.length
    cases ks <;> cases ds <;> cases xs <;> simp_all
  | dt ks ds => cases e
noncomputable def tTru (t : TD) : TDb := fun ρ φ => t ρ fun r => match truD r.d with
  | some b => φ b
  | none => False
theorem et_val (h : ED Γ X a ta) (he : ∀ whole, isTrue a X.env whole = (do let v <- whole; standAt a.pos; holding [v] (truthy v)) := by intro _; rfl) : ET Γ X a (tTru ta) := fun H₀ => impT (pt_truth (h H₀) he) fun σ H Q q => by
  obtain ⟨ρ, o, R, φ, hφ, k⟩ := q
  refine ⟨ρ, o, R, _, hφ, fun v1 r1 H1 s1 rv1 h1 => ?_⟩
  cases e : truD r1.d with
  | none => simp only [e] at h1
  | some b =>
    simp only [e] at h1
    exact ⟨b, tru_view rv1.view e, k b H1 s1 h1⟩
noncomputable def tBo (t : TD) : TDb := fun ρ φ => t ρ fun r => match r.d with
  | .bl b => φ b
  | _ => False
theorem et_cmp {op : CmpOp} {rr : R2} {s : D -> D -> (EV -> Prop) -> Prop} (ho : OpR X (compareOp op) rr) (hl : Link2 X.K rr s) (ha : ED Γ X a ta) (hb : ED Γ X b tb) (hm : behindInMarks op b = false) : ET Γ X (.Compare a [op] [b] pos) (tBo (d2 s ta tb)) := fun H₀ =>
  impT (pt_cmpR ho (ha H₀) (hb H₀) hm) fun σ H Q h => by
    obtain ⟨ρ, o, R, φ, hφ, k⟩ := h
    refine lift2 (ta := ta) (tb := tb) (H₀ := H₀.1) hl σ H _ ⟨ρ, o, R, _, hφ, fun v r H' s1 rv h1 => ?_⟩
    obtain ⟨kd, d⟩ := r
    cases d with
    | bl b => exact ⟨b, rv.view, k b H' s1 h1⟩
    | _ => exact h1.elim
theorem et_lt (ha : ED Γ X a ta) (hb : ED Γ X b tb) : ET Γ X (.Compare a [.Lt] [b] pos) (tBo (d2 sLt ta tb)) := et_cmp op_lt (link_I0 fun _ _ _ _ => rfl) ha hb (nomark _)
theorem et_eq (hu : X.A.units + 64 < cLine) (ha : ED Γ X a ta) (hb : ED Γ X b tb) : ET Γ X (.Compare a [.Eq] [b] pos) (tBo (d2 sEq ta tb)) :=
  et_cmp (op_eqD hu) (fun H O x y vx vy φ Q ho hx hy h k => ⟨x, y, hx.rep0, hy.rep0, h.1, h.2.1, k _ _ H (Same.refl H) (by exact rfl) h.2.2⟩) ha hb (nomark _)
theorem et_ne (hu : X.A.units + 64 < cLine) (ha : ED Γ X a ta) (hb : ED Γ X b tb) : ET Γ X (.Compare a [.NotEq] [b] pos) (tBo (d2 sNe ta tb)) :=
  et_cmp (op_neD hu) (fun H O x y vx vy φ Q ho hx hy h k => ⟨x, y, hx.rep0, hy.rep0, h.1, h.2.1, k _ _ H (Same.refl H) (by exact rfl) h.2.2⟩) ha hb (nomark _)
variable {tA tB' : TDb} {rest : List Expr}
noncomputable def bAnd (t u : TDb) : TDb := fun ρ φ => t ρ fun c => (c = true -> u ρ φ) /\ (c = false -> φ false)
noncomputable def bOr (t u : TDb) : TDb := fun ρ φ => t ρ fun c => (c = true -> φ true) /\ (c = false -> u ρ φ)
noncomputable def bNot (t : TDb) : TDb := fun ρ φ => t ρ fun c => φ (!c)
theorem ew_and1 (ha : ET Γ X a tA) : EW Γ X (.BoolOp .And [a] pos) tA := fun H₀ => pw_and1 (ha H₀)
theorem ew_or1 (ha : ET Γ X a tA) : EW Γ X (.BoolOp .Or [a] pos) tA := fun H₀ => pw_or1 (ha H₀)
theorem ew_and (ha : ET Γ X a tA) (hb : EW Γ X (.BoolOp .And (b :: rest) pos) tB') : EW Γ X (.BoolOp .And (a :: b :: rest) pos) (bAnd tA tB') := fun H₀ => impW (pw_and (ha H₀) (hb H₀)) fun σ H Q h => by
  obtain ⟨ρ, o, R, φ, hφ, k⟩ := h
  refine ⟨ρ, o, R, _, hφ, fun c H1 s1 h1 => ?_⟩
  cases c with
  | true => exact iteT ⟨ρ, o, R.to s1, φ, h1.1 rfl, fun b H2 s2 q => k b H2 (s1.trans s2) q⟩
  | false => exact iteF (k false H1 s1 (h1.2 rfl))
theorem ew_or (ha : ET Γ X a tA) (hb : EW Γ X (.BoolOp .Or (b :: rest) pos) tB') : EW Γ X (.BoolOp .Or (a :: b :: rest) pos) (bOr tA tB') := fun H₀ => impW (pw_or (ha H₀) (hb H₀)) fun σ H Q h => by
  obtain ⟨ρ, o, R, φ, hφ, k⟩ := h
  refine ⟨ρ, o, R, _, hφ, fun c H1 s1 h1 => ?_⟩
  cases c with
  | true => exact iteT (k true H1 s1 (h1.1 rfl))
  | false => exact iteF ⟨ρ, o, R.to s1, φ, h1.2 rfl, fun b H2 s2 q => k b H2 (s1.trans s2) q⟩
theorem EW.et (h : EW Γ X a tA) : ET Γ X a tA := fun H₀ => PW.pt (h H₀)
theorem et_not (ha : ET Γ X a tA) : ET Γ X (.UnaryOp .Not a pos) (bNot tA) := fun H₀ => impT (pt_not (ha H₀)) fun σ H Q h => by
  obtain ⟨ρ, o, R, φ, hφ, k⟩ := h
  exact ⟨ρ, o, R, _, hφ, fun c H1 s1 h1 => k _ H1 s1 h1⟩
noncomputable def vAnd (ta tb : TD) : TD := fun ρ φ => ta ρ fun x => match x.d with
  | .bl c => (c = true -> tb ρ φ) /\ (c = false -> φ (dv (.bl false)))
  | _ => False
noncomputable def vNot (ta : TD) : TD := fun ρ φ => ta ρ fun x => match x.d with
  | .bl c => φ (dv (.bl (!c)))
  | _ => False
theorem ed_one {op} (h : ED Γ X a ta) : ED Γ X (.BoolOp op [a] pos) ta := fun H₀ => pe_one (h H₀)
theorem ed_and (ha : ED Γ X a ta) (hb : ED Γ X (.BoolOp .And (b :: rest) pos) tb) : ED Γ X (.BoolOp .And (a :: b :: rest) pos) (vAnd ta tb) := fun H₀ => impE (pe_and (ha H₀) (hb H₀)) fun σ H Q h => by
  obtain ⟨ρ, o, R, φ, hφ, k⟩ := h
  refine ⟨ρ, o, R, _, hφ, fun v r H1 s1 rv h1 => ?_⟩
  obtain ⟨kd, d⟩ := r
  cases d with
  | bl c =>
    refine ⟨c, rv.view, ?_⟩
    cases c with
    | true => exact iteT ⟨ρ, o, R.to s1, φ, h1.1 rfl, fun v2 r2 H2 s2 rv2 q => k v2 r2 H2 (s1.trans s2) (rv2.start s1) q⟩
    | false => exact iteF (k _ _ H1 s1 (by exact rfl) (h1.2 rfl))
  | _ => exact h1.elim
theorem ed_not (ha : ED Γ X a ta) : ED Γ X (.UnaryOp .Not a pos) (vNot ta) := fun H₀ => impE (pe_not (ha H₀)) fun σ H Q h => by
  obtain ⟨ρ, o, R, φ, hφ, k⟩ := h
  refine ⟨ρ, o, R, _, hφ, fun v r H1 s1 rv h1 => ?_⟩
  obtain ⟨kd, d⟩ := r
  cases d with
  | bl c => exact ⟨c, rv.view, k _ _ H1 s1 (by exact rfl) h1⟩
  | _ => exact h1.elim
noncomputable def vIf (t : TDb) (ta tb : TD) : TD := fun ρ φ => t ρ fun c => (c = true -> ta ρ φ) /\ (c = false -> tb ρ φ)
theorem ed_ifExp (hc : ET Γ X c tA) (ha : ED Γ X a ta) (hb : ED Γ X b tb) : ED Γ X (.IfExp c a b pos) (vIf tA ta tb) := fun H₀ => impE (pe_ifExp (hc H₀) (ha H₀) (hb H₀)) fun σ H Q h => by
  obtain ⟨ρ, o, R, φ, hφ, k⟩ := h
  refine ⟨ρ, o, R, _, hφ, fun c H1 s1 h1 => ?_⟩
  cases c with
  | true => exact iteT ⟨ρ, o, R.to s1, φ, h1.1 rfl, fun v2 r2 H2 s2 rv2 q => k v2 r2 H2 (s1.trans s2) (rv2.start s1) q⟩
  | false => exact iteF ⟨ρ, o, R.to s1, φ, h1.2 rfl, fun v2 r2 H2 s2 rv2 q => k v2 r2 H2 (s1.trans s2) (rv2.start s1) q⟩
noncomputable def aNil : TDs := fun _ φ => φ []
noncomputable def aCons (te : TD) (t : TDs) : TDs := fun ρ φ => te ρ fun r => t ρ fun rs => φ (r :: rs)
theorem ea_nil : EA Γ X [] aNil := fun H₀ => impA pa_nil fun σ H Q h => by
  obtain ⟨ρ, o, R, φ, hφ, k⟩ := h
  exact k [] [] H (Same.refl H) (by exact rfl) hφ
theorem ea_cons (ha : ED Γ X e te) (hr : EA Γ X es t) (hs : starEach (e :: es) X.env = (false, eval e X.env) :: starEach es X.env := by rfl) : EA Γ X (e :: es) (aCons te t) := fun H₀ => impA (pa_cons (ha H₀) (hr H₀) hs) fun σ H Q h => by
  obtain ⟨ρ, o, R, φ, hφ, k⟩ := h
  refine ⟨ρ, o, R, _, hφ, fun v r H1 s1 rv h1 => ⟨ρ, o, R.to s1, _, h1, fun vs rs H2 s2 rvs h2 => ?_⟩⟩
  exact k (v :: vs) (r :: rs) H2 (s1.trans s2) ⟨v, vs, rfl, rv.same s2, rvs.start s1⟩ h2
noncomputable def solidB : List EV -> Bool
  | [] => true
  | r :: rs => (match r.k with | .own => false | _ => true) && solidB rs
theorem solidB_iff : ∀ {rs : List EV}, solidB rs = true -> ∀ r ∈ rs, r.k ≠ .own
  | [], _ => fun r h => nomatch h
  | ⟨k, d⟩ :: rs, h => fun r hr => by
    rw [solidB, Bool.and_eq_true] at h
    rcases List.mem_cons.mp hr with rfl | hr
    · intro z
      have z' : k = .own := z
      subst z'
      exact absurd h.1 (by simp)
    · exact solidB_iff h.2 r hr
noncomputable def dTup (t : TDs) : TD := fun ρ φ => t ρ fun rs => solidB rs = true /\ Nat.ble rs.length 1000 = true /\ φ (dv (.tup (rs.map EV.d)))
noncomputable def dLst (t : TDs) : TD := fun ρ φ => t ρ fun rs => solidB rs = true /\ Nat.ble rs.length 1000 = true /\ φ (df (.lst (rs.map EV.d)))
theorem le_line {n : Nat} (h : Nat.ble n 1000 = true) : n <= sizeLine := Nat.le_trans (Nat.le_of_ble_eq_true h) (by decide)
theorem RVs.length {K : PySem.W.Frag} {H0 H : Hp} {O : List Addr} : ∀ {rs : List EV} {vs : List V}, RVs K H0 H O rs vs -> vs.length = rs.length
  | [], _, h => by cases h; rfl
  | r :: rs, vs, h => by
    obtain ⟨v, ws, rfl, _, t⟩ := h
    simp [RVs.length t]
theorem ed_tup {x1} (h : EA Γ X es t) : ED Γ X (.Tuple es x1 pos) (dTup t) := fun H₀ => impE (pe_tup (h H₀)) fun σ H Q q => by
  obtain ⟨ρ, o, R, φ, hφ, k⟩ := q
  refine ⟨ρ, o, R, _, hφ, fun vs rs H1 s1 rvs h1 => ⟨by rw [rvs.length]; exact le_line h1.2.1, fun p hp => ?_⟩⟩
  exact k _ _ _ (s1.trans (same_new hp _)) (RV.start (rv_tup hp (rvs.reps (solidB_iff h1.1))) s1) h1.2.2
theorem ed_lst (h : EA Γ X es t) : ED Γ X (.List es pos) (dLst t) := fun H₀ => impE (pe_lst (h H₀)) fun σ H Q q => by
  obtain ⟨ρ, o, R, φ, hφ, k⟩ := q
  refine ⟨ρ, o, R, _, hφ, fun vs rs H1 s1 rvs h1 => ⟨by rw [rvs.length]; exact le_line h1.2.1, fun p hp => ?_⟩⟩
  exact k _ _ _ (s1.trans (same_new hp _)) (RV.start (rv_lst (fun a e => R.ofree (s1.free e)) hp (rvs.reps (solidB_iff h1.1))) s1) h1.2.2
noncomputable def sIx : D -> D -> (EV -> Prop) -> Prop := fun x y φ => match x, y with
  | .lst ds, .int i => match atI ds i with
    | some d => φ (dv d)
    | none => False
  | .tup ds, .int i => match atI ds i with
    | some d => φ (dv d)
    | none => False
  | .scr ns, .int i => match atI ns i with
    | some n => φ (dv (.int n))
    | none => False
  | .str z, .int i => z.length <= sizeLine /\ match atI z.cps.toList i with
    | some c => φ (dv (.str ⟨#[c]⟩))
    | none => False
  | _, _ => False
theorem atI_reps {K : PySem.W.Frag} {H : Hp} {O : List Addr} {ds : List D} {xs : List V} {i : Int} {d : D} (r : Reps K H O ds xs) (h : atI ds i = some d) : ∃ v, atI xs i = some v /\ Rep K H O d v := by
  unfold atI at h ⊢
  rw [r.length]
  cases e : ixN ds.length i with
  | none => rw [e] at h; cases h
  | some j =>
    rw [e] at h
    exact r.get h
theorem link_ix : Link2 X.K (rIx X.K) sIx := by
  intro H O x y vx vy φ Q ho hx hy h k
  unfold sIx at h
  split at h
  · obtain ⟨a, xs, rfl, q, r⟩ := hx
    split at h
    · rename_i d e
      obtain ⟨v, ev, rv⟩ := atI_reps r e
      exact .inl ⟨a, xs, _, v, rfl, hy, SqL.of q, ev, k _ _ H (Same.refl H) (RV.val rv) h⟩
    · exact h.elim
  · obtain ⟨a, xs, rfl, q, r⟩ := hx
    split at h
    · rename_i d e
      obtain ⟨v, ev, rv⟩ := atI_reps r e
      exact .inr (.inl ⟨a, xs, _, v, rfl, hy, q.1, ev, k _ _ H (Same.refl H) (RV.val rv) h⟩)
    · exact h.elim
  · obtain ⟨a, rfl, q⟩ := hx
    split at h
    · rename_i n e
      refine .inl ⟨a, _, _, .int n, rfl, hy, q.seq, ?_, k _ _ H (Same.refl H) (by exact rfl) h⟩
      unfold atI at e ⊢
      rw [List.length_map]
      cases e2 : ixN _ _ with
      | none => rw [e2] at e; cases e
      | some j =>
        rw [e2] at e
        exact (List.getElem?_map ..).trans (congrArg (Option.map V.int) e)
    · exact h.elim
  · obtain ⟨hz, h⟩ := h
    split at h
    · rename_i c e
      exact .inr (.inr ⟨_, _, c, hx, hy, hz, e, k _ _ H (Same.refl H) (by exact rfl) h⟩)
    · exact h.elim
  · exact h.elim
noncomputable abbrev TDo := DE -> (Option Int -> Prop) -> Prop
noncomputable def liftO (K : PySem.W.Frag) (H₀ : Hp) (t : TDo) : TO := fun σ H Q => ∃ ρ o, REnv K H₀ H σ ρ o /\ ∃ φ, t ρ φ /\ ∀ b H', Same H H' -> φ b -> Q b H'
noncomputable def EO (G : Hp -> Prop) (X : Cx) (e : Option Expr) (t : TDo) : Prop := ∀ H₀ : {H : Hp // G H}, PO X e (liftO X.K H₀.1 t)
noncomputable def oNone : TDo := fun _ φ => φ none
noncomputable def oSome (t : TD) : TDo := fun ρ φ => t ρ fun r => match r.d with
  | .int i => φ (some i)
  | _ => False
theorem impO {e : Option Expr} {t t' : TO} (h : PO X e t) (i : ∀ σ H Q, t' σ H Q -> t σ H Q) : PO X e t' := fun pins s σ H Q I q => h pins s σ H Q I (i σ H Q q)
theorem eo_none : EO Γ X none oNone := fun H₀ => impO po_none fun σ H Q h => by
  obtain ⟨ρ, o, R, φ, hφ, k⟩ := h
  exact k none H (Same.refl H) hφ
theorem eo_some (h : ED Γ X e te) : EO Γ X (some e) (oSome te) := fun H₀ => impO (po_some (h H₀)) fun σ H Q q => by
  obtain ⟨ρ, o, R, φ, hφ, k⟩ := q
  refine ⟨ρ, o, R, _, hφ, fun v r H1 s1 rv h1 => ?_⟩
  obtain ⟨kd, d⟩ := r
  cases d with
  | int i => exact ⟨i, rv.view, k _ H1 s1 h1⟩
  | _ => exact h1.elim
noncomputable def cutD (xs : List D) (lo hi : Option Int) : List D := (xs.drop (HT.sIx xs.length 0 lo)).take (HT.sIx xs.length xs.length hi - HT.sIx xs.length 0 lo)
theorem reps_cut {K : PySem.W.Frag} {H : Hp} {O : List Addr} {ds : List D} {xs : List V} (r : Reps K H O ds xs) (lo hi : Option Int) : Reps K H O (cutD ds lo hi) (cutV xs lo hi) := by
  unfold cutD cutV
  rw [r.length]
  exact (r.drop _).take _
noncomputable def sSl : D -> Option Int -> Option Int -> (EV -> Prop) -> Prop := fun x lo hi φ => match x with
  | .lst ds => φ (df (.lst (cutD ds lo hi)))
  | .scr ns => φ (df (.lst (cutD (ns.map D.int) lo hi)))
  | .tup ds => ¬ (HT.sIx ds.length 0 lo = 0 /\ HT.sIx ds.length ds.length hi = ds.length) /\ φ (dv (.tup (cutD ds lo hi)))
  | _ => False
noncomputable def dSl (te : TD) (tl th : TDo) : TD := fun ρ φ => te ρ fun x => tl ρ fun l => th ρ fun u => sSl x.d l u φ
theorem ed_slice {lo hi : Option Expr} {tl th : TDo} {p2 : Pos} (he : ED Γ X e te) (hl : EO Γ X lo tl) (hu : EO Γ X hi th) : ED Γ X (.Subscript e (.Slice lo hi none p2) pos) (dSl te tl th) := fun H₀ =>
  impE (pe_slice (sl_list.or sl_tup) (he H₀) (hl H₀) (hu H₀)) fun σ H Q q => by
    obtain ⟨ρ, o, R, φ, hφ, k⟩ := q
    refine ⟨ρ, o, R, _, hφ, fun v r H1 s1 rv h1 => ⟨ρ, o, R.to s1, _, h1, fun l H2 s2 h2 => ⟨ρ, o, R.to (s1.trans s2), _, h2, fun u H3 s3 h3 => ?_⟩⟩⟩
    have s12 := s1.trans s2
    have s13 := s12.trans s3
    have vw := (rv.same (s2.trans s3)).view
    obtain ⟨kd, d⟩ := r
    cases d with
    | lst ds =>
      obtain ⟨a, xs, rfl, q, r⟩ := vw
      refine .inl ⟨a, xs, rfl, SqL.of q, fun p hp => ?_⟩
      exact k _ _ _ (s13.trans (same_new hp _)) (RV.start (rv_lst (fun a e => R.ofree (s13.free e)) hp (reps_cut r l u)) s13) h3
    | scr ns =>
      obtain ⟨a, rfl, q⟩ := vw
      refine .inl ⟨a, _, rfl, q.seq, fun p hp => ?_⟩
      exact k _ _ _ (s13.trans (same_new hp _)) (RV.start (rv_lst (fun a e => R.ofree (s13.free e)) hp (reps_cut (Reps.ints ns) l u)) s13) h3
    | tup ds =>
      obtain ⟨a, xs, rfl, q, r⟩ := vw
      refine .inr ⟨a, xs, rfl, q.1, by rw [r.length]; exact h3.1, fun p hp => ?_⟩
      exact k _ _ _ (s13.trans (same_new hp _)) (RV.start (rv_tup hp (reps_cut r l u)) s13) h3.2
    | _ => exact h3.elim
end
end DL
namespace DL
open PySem PySem.Spec L2 L3
open PyProof.Rows hiding St
variable {Γ : Hp -> Prop}
noncomputable def pureEV (r : EV) : Prop := match r.k with
  | .val => pureD r.d
  | .own => False
  | .fre => match r.d with
    | .lst ds => pureDs ds
    | .dk _ ds => pureDs ds
    | .dt _ ds => pureDs ds
    | _ => False
  | .new => True
theorem RV.lift {K : PySem.W.Frag} {H0 H : Hp} {O : List Addr} {r : EV} {v : V} (h : RV K H0 H [] r v) (p : pureEV r) (ho : ∀ a, H0 a = none -> a ∉ O) : RV K H0 H O r v := by
  obtain ⟨k, d⟩ := r
  cases k with
  | val => exact Rep.pure _ _ p h
  | own => exact p.elim
  | fre =>
    obtain ⟨a, e, m, n, c⟩ := h
    refine ⟨a, e, m, ho a m, ?_⟩
    cases d with
    | lst ds => obtain ⟨xs, q, r⟩ := c; exact ⟨xs, q, Reps.pure _ _ p r⟩
    | dk ks ds => obtain ⟨xs, q, l, nd, r⟩ := c; exact ⟨xs, q, l, nd, Reps.pure _ _ p r⟩
    | dt ks ds => obtain ⟨xs, q, l, nd, r⟩ := c; exact ⟨xs, q, l, nd, Reps.pure _ _ p r⟩
    | _ => exact c.elim
  | new => exact RepN.to (Same.refl H) (fun a z => ⟨ho a z.2, z.2⟩) _ _ h
noncomputable abbrev FT := List D -> (EV -> Prop) -> Prop
noncomputable def spD (K : PySem.W.Frag) (n : Nat) (T : FT) : Sp := fun vs H Q _ => ∃ ds φ, ds.length = n /\ Reps K H [] ds vs /\ T ds φ /\ ∀ v r H', Same H H' -> RV K H H' [] r v -> pureEV r -> φ r -> Q v H'
structure FD (P : Program) (w : World) (K : PySem.W.Frag) (mg : Str -> Option Value) (base : Heap) (k : Nat) (x : Str) (ps : List Str) (T : FT) : Prop where
  ex : ∃ f fd, FnOk P w K mg base CX0 k f fd ps (spD K ps.length T) /\ Binds K fd ps [] /\ PySem.W.keepIn K (.ref f) = true /\ mg x = some (.ref f)
noncomputable def dCall (n : Nat) (T : FT) (t : TDs) : TD := fun ρ φ => t ρ fun rs => Nat.beq rs.length n = true /\ T (rs.map EV.d) φ
section
variable {X : Cx} {x : Str} {ps : List Str} {T : FT} {k : Nat} {e : Expr} {es : List Expr} {t : TDs} {p pos : Pos}
theorem lift_call {H₀ : Hp} : ∀ σ H Q, liftE X.K H₀ (dCall ps.length T t) σ H Q -> tCall (spD X.K ps.length T) [] E0 (liftA X.K H₀ t) σ H Q := fun σ H Q q => by
  obtain ⟨ρ, o, R, φ, hφ, kk⟩ := q
  refine ⟨ρ, o, R, _, hφ, fun vs rs H1 s1 rvs h1 => ?_⟩
  show spD X.K ps.length T (vs ++ []) H1 Q E0
  rw [List.append_nil]
  refine ⟨rs.map EV.d, φ, by rw [List.length_map]; exact Nat.eq_of_beq_eq_true h1.1, rvs.reps0, h1.2, fun v r H2 s2 rv pr h2 => ?_⟩
  exact kk v r H2 (s1.trans s2) (RV.start (rv.lift pr fun a e => R.ofree (s1.free e)) s1) h2
theorem ed_call (F : FD X.prog X.w X.K X.mg X.base k x ps T) (hr : Room k X.A) (ha : EA Γ X (e :: es) t) (hg : Gl X x := by rfl) (hdb : (x == ("__debug__" : Str)) = false := by decide)
    (he : starEach (e :: es) X.env = (false, eval e X.env) :: starEach es X.env := by rfl) (hpl : (backTo pos (starEach es X.env)).any (·.1) = false := by rfl) : ED Γ X (.Call (.Name x p) (e :: es) [] pos) (dCall ps.length T t) := fun H₀ => by
  obtain ⟨f, fd, ok, b, kp, m⟩ := F.ex
  exact impE (pe_call ok hr hg m kp b .nil pass0 (ha H₀) hdb he hpl) lift_call
noncomputable def Views (K : PySem.W.Frag) (H : Hp) (O : List Addr) : List D -> List V -> Prop
  | [], vs => vs = []
  | d :: ds, vs => ∃ v ws, vs = v :: ws /\ View K H O d v /\ Views K H O ds ws
theorem RVs.views {K : PySem.W.Frag} {H0 H : Hp} {O : List Addr} : ∀ {rs : List EV} {vs : List V}, RVs K H0 H O rs vs -> Views K H O (rs.map EV.d) vs
  | [], _, h => h
  | r :: rs, vs, h => by
    obtain ⟨v, ws, e, q, t⟩ := h
    exact ⟨v, ws, e, q.view, t.views⟩
noncomputable def LinkC (K : PySem.W.Frag) (r : List V -> Hp -> VK -> Prop) (s : FT) : Prop :=
  ∀ (H : Hp) (O : List Addr) (ds : List D) (vs : List V) (φ : EV -> Prop) (Q : VK), (∀ a, H a = none -> a ∉ O) -> Views K H O ds vs -> s ds φ -> (∀ v r H', Same H H' -> RV K H H' O r v -> φ r -> Q v H') -> r vs H Q
noncomputable def dCB (s : FT) (t : TDs) : TD := fun ρ φ => t ρ fun rs => s (rs.map EV.d) φ
theorem lift_cb {r : List V -> Hp -> VK -> Prop} {s : FT} (hl : LinkC X.K r s) {H₀ : Hp} : ∀ σ H Q, liftE X.K H₀ (dCB s t) σ H Q -> tCB r (liftA X.K H₀ t) σ H Q := fun σ H Q q => by
  obtain ⟨ρ, o, R, φ, hφ, kk⟩ := q
  refine ⟨ρ, o, R, _, hφ, fun vs rs H1 s1 rvs h1 => ?_⟩
  exact hl H1 _ _ vs φ Q (fun a e => R.ofree (s1.free e)) rvs.views h1 fun v r H2 s2 rv h2 => kk v r H2 (s1.trans s2) (rv.start s1) h2
theorem ed_callB {id : String} {r : List V -> Hp -> VK -> Prop} {s : FT} (hc : CallR X (.builtin id) r) (hl : LinkC X.K r s) (hm : X.mg x = none) (hv : bootBuiltins x = some (.builtin id)) (ha : EA Γ X (e :: es) t) (hg : Gl X x := by rfl) (hn : x ≠ "__name__" := by decide) (hdb : (x == ("__debug__" : Str)) = false := by decide)
    (he : starEach (e :: es) X.env = (false, eval e X.env) :: starEach es X.env := by rfl) (hpl : (backTo pos (starEach es X.env)).any (·.1) = false := by rfl) : ED Γ X (.Call (.Name x p) (e :: es) [] pos) (dCB s t) := fun H₀ =>
  impE (pe_callB hc hg hm hv (ha H₀) hn hdb he hpl) (lift_cb hl)
theorem ed_callTy {T : String} {r : List V -> Hp -> VK -> Prop} {s : FT} (hc : CallR X (.type T) r) (hl : LinkC X.K r s) (hm : X.mg x = none) (hv : bootBuiltins x = some (.type T)) (ha : EA Γ X (e :: es) t) (hg : Gl X x := by rfl) (hn : x ≠ "__name__" := by decide) (hdb : (x == ("__debug__" : Str)) = false := by decide)
    (he : starEach (e :: es) X.env = (false, eval e X.env) :: starEach es X.env := by rfl) (hpl : (backTo pos (starEach es X.env)).any (·.1) = false := by rfl) : ED Γ X (.Call (.Name x p) (e :: es) [] pos) (dCB s t) := fun H₀ =>
  impE (pe_callTy hc hg hm hv (ha H₀) hn hdb he hpl) (lift_cb hl)
noncomputable def sLen : FT := fun ds φ => match ds with
  | [.lst l] => φ (dv (.int l.length))
  | [.tup l] => φ (dv (.int l.length))
  | [.scr l] => φ (dv (.int l.length))
  | [.str z] => z.length <= sizeLine /\ φ (dv (.int z.length))
  | _ => False
theorem link_len : LinkC X.K (fun xs H Q => (∃ p ys, xs = [.ref p] /\ (SqL X.K H p ys \/ SqT X.K H p ys) /\ Q (.int ys.length) H) \/ ∃ z, xs = [.str z] /\ z.length <= sizeLine /\ Q (.int z.length) H) sLen := by
  intro H O ds vs φ Q ho hv h k
  unfold sLen at h
  split at h
  · obtain ⟨v, ws, rfl, ⟨a, xs, rfl, q, r⟩, rfl⟩ := hv
    refine .inl ⟨a, xs, rfl, .inl (SqL.of q), ?_⟩
    rw [r.length]
    exact k _ _ H (Same.refl H) (by exact rfl) h
  · obtain ⟨v, ws, rfl, ⟨a, xs, rfl, q, r⟩, rfl⟩ := hv
    refine .inl ⟨a, xs, rfl, .inr q.1, ?_⟩
    rw [r.length]
    exact k _ _ H (Same.refl H) (by exact rfl) h
  · obtain ⟨v, ws, rfl, ⟨a, rfl, q⟩, rfl⟩ := hv
    refine .inl ⟨a, _, rfl, .inl q.seq, ?_⟩
    rw [List.length_map]
    exact k _ _ H (Same.refl H) (by exact rfl) h
  · obtain ⟨v, ws, rfl, hz, rfl⟩ := hv
    cases (show v = _ from hz)
    exact .inr ⟨_, rfl, h.1, k _ _ H (Same.refl H) (by exact rfl) h.2⟩
  · exact h.elim
theorem ed_len (hm : X.mg "len" = none) (ha : EA Γ X (e :: es) t) (hg : Gl X "len" := by rfl) (he : starEach (e :: es) X.env = (false, eval e X.env) :: starEach es X.env := by rfl) (hpl : (backTo pos (starEach es X.env)).any (·.1) = false := by rfl) : ED Γ X (.Call (.Name "len" p) (e :: es) [] pos) (dCB sLen t) :=
  ed_callB (call_len_seq.or call_len_str) link_len hm PySem.boot_len ha hg (by decide) (by decide) he hpl
end
end DL
namespace DL
open PySem PySem.Spec L2 L3
open PyProof.Rows hiding St
variable {Γ : Hp -> Prop}
noncomputable def EV.sto (r : EV) : EV := ⟨match r.k with
  | .fre => .own
  | .new => .val
  | k => k, r.d⟩
noncomputable def EV.ret (r : EV) : EV := ⟨match r.k with
  | .own => .fre
  | k => k, r.d⟩
noncomputable def setS : DE -> Nat -> EV -> DE
  | [], _, _ => []
  | _ :: r, 0, v => some v :: r
  | x :: r, i + 1, v => x :: setS r i v
theorem setS_eq : ∀ (ρ : DE) (i : Nat) (v : EV), setS ρ i v = ρ.set i (some v)
  | [], _, _ => rfl
  | _ :: _, 0, _ => rfl
  | x :: r, i + 1, v => by rw [setS, setS_eq r i v, List.set_cons_succ]
theorem Con.grow {K : PySem.W.Frag} {H H' : Hp} {O O' : List Addr} {d : D} {a : Addr} (h : Con K H O d a) (s : ∀ u, H a = some u -> H' a = some u) (g : Grow O O' H H') : Con K H' O' d a := by
  cases d with
  | lst ds => obtain ⟨xs, q, r⟩ := h; exact ⟨xs, s _ q, Reps.grow g _ _ r⟩
  | dk ks ds => obtain ⟨xs, q, l, n, r⟩ := h; exact ⟨xs, s _ q, l, n, Reps.grow g _ _ r⟩
  | dt ks ds => obtain ⟨xs, q, l, n, r⟩ := h; exact ⟨xs, s _ q, l, n, Reps.grow g _ _ r⟩
  | _ => exact h.elim
theorem Con.mtb {K : PySem.W.Frag} {H : Hp} {O : List Addr} {d : D} {a : Addr} (h : Con K H O d a) : (∃ u, H a = some u) /\ (∀ xs, H a ≠ some (.tup xs)) /\ ∀ ob u, H a ≠ some (.frz ob u) := by
  cases d with
  | lst ds => obtain ⟨xs, q, r⟩ := h; exact ⟨⟨_, q⟩, (fun xs z => by rw [q] at z; cases z), (fun ob u z => by rw [q] at z; cases z)⟩
  | dk ks ds => obtain ⟨xs, q, r⟩ := h; exact ⟨⟨_, q⟩, (fun xs z => by rw [q] at z; cases z), (fun ob u z => by rw [q] at z; cases z)⟩
  | dt ks ds => obtain ⟨xs, q, r⟩ := h; exact ⟨⟨_, q⟩, (fun xs z => by rw [q] at z; cases z), (fun ob u z => by rw [q] at z; cases z)⟩
  | _ => exact h.elim
section
variable {K : PySem.W.Frag} {H₀ H H' : Hp} {σ : St} {ρ : DE} {o : List (Nat × Addr)}
theorem REnv.setV (R : REnv K H₀ H σ ρ o) (i : Nat) {d : D} {v : V} (h : Rep K H (o.map Prod.snd) d v) : REnv K H₀ H (σ.set i (some v)) (setS ρ i (dv d)) o where
  same := R.same
  fresh := R.fresh
  trk := R.trk
  mtb := R.mtb
  nda := R.nda
  len := by rw [setS_eq, List.length_set, List.length_set]; exact R.len
  slots := fun j r e => by
    rw [setS_eq] at e
    by_cases hj : j = i
    · subst hj
      have hl : j < ρ.length := by
        rcases Nat.lt_or_ge j ρ.length with z | z
        · exact z
        · rw [List.getElem?_eq_none (by rw [List.length_set]; exact z)] at e
          cases e
      rw [List.getElem?_set_self hl] at e
      cases e
      exact ⟨v, List.getElem?_set_self (by rw [R.len]; exact hl), .inl ⟨rfl, h⟩⟩
    · rw [List.getElem?_set_ne (Ne.symm hj)] at e
      obtain ⟨w, ew, q⟩ := R.slots j r e
      exact ⟨w, by rw [List.getElem?_set_ne (Ne.symm hj)]; exact ew, q⟩
theorem REnv.setO (R : REnv K H₀ H σ ρ o) (s : Same H H') (i : Nat) {d : D} {a : Addr} (ha : H a = none) (c : Con K H' (a :: o.map Prod.snd) d a) :
    REnv K H₀ H' (σ.set i (some (.ref a))) (setS ρ i (dO d)) ((i, a) :: o) /\ Grow (o.map Prod.snd) (((i, a) :: o).map Prod.snd) H H' := by
  have g : Grow (o.map Prod.snd) (((i, a) :: o).map Prod.snd) H H' := by
    refine ⟨fun b u h n => ⟨s b u h, fun z => ?_⟩, fun b xs h => s b _ h, fun b ob u h => s b _ h⟩
    rw [List.map_cons] at z
    rcases List.mem_cons.mp z with z | z
    · exact ne_of_none h ha z
    · exact n z
  refine ⟨?_, g⟩
  have R' := R.to s
  exact {
    same := R'.same
    fresh := fun p hp => by
      rcases List.mem_cons.mp hp with rfl | hp
      · exact R.same.free ha
      · exact R.fresh p hp
    trk := fun p hp => by
      rcases List.mem_cons.mp hp with rfl | hp
      · exact c.mtb.1
      · exact R'.trk p hp
    mtb := fun p hp => by
      rcases List.mem_cons.mp hp with rfl | hp
      · exact c.mtb.2
      · exact R'.mtb p hp
    nda := by
      rw [List.map_cons, List.nodup_cons]
      exact ⟨fun z => R.ofree ha z, R.nda⟩
    len := by rw [setS_eq, List.length_set, List.length_set]; exact R.len
    slots := fun j r e => by
      rw [setS_eq] at e
      by_cases hj : j = i
      · subst hj
        have hl : j < ρ.length := by
          rcases Nat.lt_or_ge j ρ.length with z | z
          · exact z
          · rw [List.getElem?_eq_none (by rw [List.length_set]; exact z)] at e
            cases e
        rw [List.getElem?_set_self hl] at e
        cases e
        exact ⟨_, List.getElem?_set_self (by rw [R.len]; exact hl), .inr ⟨rfl, a, rfl, List.mem_cons_self .., c⟩⟩
      · rw [List.getElem?_set_ne (Ne.symm hj)] at e
        obtain ⟨w, ew, q⟩ := R.slots j r e
        refine ⟨w, by rw [List.getElem?_set_ne (Ne.symm hj)]; exact ew, ?_⟩
        rcases q with ⟨k, q⟩ | ⟨k, a', e1, m, c'⟩
        · exact .inl ⟨k, Rep.grow g _ _ q⟩
        · exact .inr ⟨k, a', e1, List.mem_cons_of_mem _ m, c'.grow (fun u q => s _ _ q) g⟩ }
theorem REnv.put (R : REnv K H₀ H σ ρ o) (s : Same H H') (i : Nat) {r : EV} {v : V} (h : RV K H H' (o.map Prod.snd) r v) (hk : r.k ≠ .own) :
    ∃ o', REnv K H₀ H' (σ.set i (some v)) (setS ρ i r.sto) o' /\ Grow (o.map Prod.snd) (o'.map Prod.snd) H H' := by
  obtain ⟨k, d⟩ := r
  cases k with
  | val => exact ⟨_, (R.to s).setV i h, Grow.same s⟩
  | own => exact absurd rfl hk
  | fre =>
    obtain ⟨a, rfl, m, n, c⟩ := h
    exact ⟨_, R.setO s i m c⟩
  | new => exact ⟨_, (R.to s).setV i (RepN.rep (fun a z => z.1) _ _ h), Grow.same s⟩
theorem inj_snd : ∀ {o : List (Nat × Addr)}, (o.map Prod.snd).Nodup -> ∀ {p q : Nat × Addr}, p ∈ o -> q ∈ o -> p.2 = q.2 -> p = q
  | [], _, _, _, h, _, _ => nomatch h
  | x :: o, nd, p, q, hp, hq, e => by
    rw [List.map_cons, List.nodup_cons] at nd
    rcases List.mem_cons.mp hp with h1 | hp
    · rcases List.mem_cons.mp hq with h2 | hq
      · rw [h1, h2]
      · exact absurd (List.mem_map.mpr ⟨q, hq, by rw [<- e, h1]⟩) nd.1
    · rcases List.mem_cons.mp hq with h2 | hq
      · exact absurd (List.mem_map.mpr ⟨p, hp, by rw [e, h2]⟩) nd.1
      · exact inj_snd nd.2 hp hq e
theorem REnv.chg (R : REnv K H₀ H σ ρ o) {i : Nat} {a : Addr} {d d' : D} {ho : HO} (hs : ρ[i]? = some (some (dO d))) (hσ : σ[i]? = some (some (.ref a))) (hm : (i, a) ∈ o) (hho : (∀ xs, ho ≠ .tup xs) /\ ∀ ob u, ho ≠ .frz ob u)
    (c : (∀ ds xs, Reps K H (o.map Prod.snd) ds xs -> Reps K (upd H a ho) (o.map Prod.snd) ds xs) -> Con K (upd H a ho) (o.map Prod.snd) d' a) :
    REnv K H₀ (upd H a ho) σ (setS ρ i (dO d')) o /\ Grow (o.map Prod.snd) (o.map Prod.snd) H (upd H a ho) := by
  have ha : a ∈ o.map Prod.snd := List.mem_map.mpr ⟨_, hm, rfl⟩
  obtain ⟨m1, m2⟩ := R.mtb _ hm
  have g : Grow (o.map Prod.snd) (o.map Prod.snd) H (upd H a ho) :=
    ⟨fun b u h n => ⟨by rw [upd_ne (show b ≠ a from fun z => n (by rw [z]; exact ha))]; exact h, n⟩, fun b xs h => by rw [upd_ne (show b ≠ a from fun z => m1 xs (by rw [<- z]; exact h))]; exact h, fun b ob u h => by rw [upd_ne (show b ≠ a from fun z => m2 ob u (by rw [<- z]; exact h))]; exact h⟩
  refine ⟨?_, g⟩
  exact {
    same := fun b u h => by
      have : b ≠ a := fun z => by
        have := R.fresh _ hm
        rw [<- z, h] at this
        cases this
      rw [upd_ne this]
      exact R.same b u h
    fresh := R.fresh
    trk := fun p hp => by
      by_cases e : p.2 = a
      · exact ⟨ho, by rw [e]; exact upd_same⟩
      · rw [upd_ne e]
        exact R.trk p hp
    mtb := fun p hp => by
      by_cases e : p.2 = a
      · rw [e, upd_same]
        exact ⟨fun xs z => hho.1 xs (Option.some.inj z), fun ob u z => hho.2 ob u (Option.some.inj z)⟩
      · rw [upd_ne e]
        exact R.mtb p hp
    nda := R.nda
    len := by rw [setS_eq, List.length_set]; exact R.len
    slots := fun j r e => by
      rw [setS_eq] at e
      by_cases hj : j = i
      · subst hj
        have hl : j < ρ.length := (List.getElem?_eq_some_iff.mp hs).1
        rw [List.getElem?_set_self hl] at e
        cases e
        obtain ⟨v, ev, q⟩ := R.slots j _ hs
        rcases q with ⟨k, _⟩ | ⟨_, a', e1, m', _⟩
        · cases k
        · have haa : a' = a := by
            rw [hσ] at ev
            cases ev
            cases e1
            rfl
          subst haa
          exact ⟨v, ev, .inr ⟨rfl, a', e1, hm, c fun ds xs q => Reps.grow g _ _ q⟩⟩
      · rw [List.getElem?_set_ne (Ne.symm hj)] at e
        obtain ⟨w, ew, q⟩ := R.slots j r e
        refine ⟨w, ew, ?_⟩
        rcases q with ⟨k, q⟩ | ⟨k, a', e1, m', c'⟩
        · exact .inl ⟨k, Rep.grow g _ _ q⟩
        · refine .inr ⟨k, a', e1, m', c'.grow (fun u q => ?_) g⟩
          have hne : a' ≠ a := fun z => by
            exact hj (congrArg Prod.fst (inj_snd R.nda m' hm z))
          rw [upd_ne hne]
          exact q }
end
section
variable {X : Cx} {st : Stmt} {rest : List Stmt} {t u : TDS} {e : Expr} {te : TD} {tc : TDb} {pos : Pos}
noncomputable def sNil : TDS := fun ρ Z => Z.nx ρ
noncomputable def sSeq (t u : TDS) : TDS := fun ρ Z => t ρ { Z with nx := fun ρ' => u ρ' Z }
theorem ss_nil : SDs Γ X [] sNil := fun H₀ => impSs pss_nil fun D σ H h => by
  obtain ⟨ρ, o, R, Z, hZ, k1, _⟩ := h
  exact k1 ρ σ H o Grow.refl R hZ
theorem ss_cons (h1 : SD Γ X st t) (h2 : SDs Γ X rest u) : SDs Γ X (st :: rest) (sSeq t u) := fun H₀ => impSs (pss_cons (h1 H₀) (h2 H₀)) fun D σ H h => by
  obtain ⟨ρ, o, R, Z, hZ, k1, k2, k3, k4⟩ := h
  refine ⟨ρ, o, R, _, hZ, fun ρ' σ' H' o' g R' q => ?_, k2, k3, k4⟩
  exact ⟨ρ', o', R', Z, q, fun ρ2 σ2 H2 o2 g2 R2 q2 => k1 ρ2 σ2 H2 o2 (g.trans g2) R2 q2, fun ρ2 σ2 H2 o2 g2 R2 q2 => k2 ρ2 σ2 H2 o2 (g.trans g2) R2 q2, fun ρ2 σ2 H2 o2 g2 R2 q2 => k3 ρ2 σ2 H2 o2 (g.trans g2) R2 q2, k4⟩
theorem ss_one (h1 : SD Γ X st t) : SDs Γ X [st] t := fun H₀ => pss_one (h1 H₀)
theorem ss_never {sts : List Stmt} : SDs Γ X sts (fun _ _ => False) := fun H₀ => impSs pss_never fun D σ H h => by
  obtain ⟨_, _, _, _, hZ, _⟩ := h
  exact hZ.elim
noncomputable def sRet (te : TD) : TDS := fun ρ Z => te ρ fun r => Z.rt r.ret
theorem RV.ret {K : PySem.W.Frag} {H₀ H H' : Hp} {σ : St} {ρ : DE} {o : List (Nat × Addr)} (R : REnv K H₀ H σ ρ o) {r : EV} {v : V} (h : RV K H H' (o.map Prod.snd) r v) : RV K H₀ H' [] r.ret v := by
  obtain ⟨k, d⟩ := r
  cases k with
  | val => exact Rep.sub (O' := []) (fun _ z => absurd z (by simp)) _ _ h
  | own =>
    obtain ⟨a, e, m, c⟩ := h
    obtain ⟨p, hp, ep⟩ := List.mem_map.mp m
    subst ep
    exact ⟨p.2, e, R.fresh p hp, by simp, c.sub fun b hb => by
      have : b = p.2 := by simpa using hb
      rw [this]
      exact m⟩
  | fre =>
    obtain ⟨a, e, m, n, c⟩ := h
    exact ⟨a, e, R.same.free m, by simp, c.sub fun b hb => by
      have : b = a := by simpa using hb
      rw [this]
      exact List.mem_cons_self ..⟩
  | new => exact RepN.to (Same.refl H') (fun a z => ⟨by simp, R.same.free z.2⟩) _ _ h
theorem sd_ret (he : ED Γ X e te) : SD Γ X (.Return (some e) pos) (sRet te) := fun H₀ => impS (ps_ret (he H₀)) fun D σ H h => by
  obtain ⟨ρ, o, R, Z, hZ, k1, k2, k3, k4⟩ := h
  refine ⟨ρ, o, R, _, hZ, fun v r H1 s1 rv h1 => ?_⟩
  exact k4 v r.ret H1 (R.same.trans s1) (RV.ret R rv) h1
noncomputable def sIf (tc : TDb) (t u : TDS) : TDS := fun ρ Z => tc ρ fun c => (c = true -> t ρ Z) /\ (c = false -> u ρ Z)
theorem sd_if {c : Expr} {a b : List Stmt} (hc : ET Γ X c tc) (ha : SDs Γ X a t) (hb : SDs Γ X b u) : SD Γ X (.If c a b pos) (sIf tc t u) := fun H₀ => impS (ps_if (hc H₀) (ha H₀) (hb H₀)) fun D σ H h => by
  obtain ⟨ρ, o, R, Z, hZ, k1, k2, k3, k4⟩ := h
  refine ⟨ρ, o, R, _, hZ, fun c H1 s1 h1 => ?_⟩
  have g : Grow (o.map Prod.snd) (o.map Prod.snd) H H1 := Grow.same s1
  have kk : ∀ {v : TDS}, v ρ Z -> liftS X.K H₀.1 v D σ H1 := fun hv => ⟨ρ, o, R.to s1, Z, hv, fun ρ2 σ2 H2 o2 g2 R2 q2 => k1 ρ2 σ2 H2 o2 (g.trans g2) R2 q2, fun ρ2 σ2 H2 o2 g2 R2 q2 => k2 ρ2 σ2 H2 o2 (g.trans g2) R2 q2, fun ρ2 σ2 H2 o2 g2 R2 q2 => k3 ρ2 σ2 H2 o2 (g.trans g2) R2 q2, k4⟩
  cases c with
  | true => exact iteT (kk (h1.1 rfl))
  | false => exact iteF (kk (h1.2 rfl))
noncomputable def sCut (t : TDS) : TDS := fun ρ Z => ∃ J : DE -> Prop, t ρ { Z with nx := J } /\ ∀ ρ', J ρ' -> Z.nx ρ'
theorem sd_cut (h : SD Γ X st t) : SD Γ X st (sCut t) := fun H₀ => impS (h H₀) fun D σ H h => by
  obtain ⟨ρ, o, R, Z, ⟨J, hZ, hJ⟩, k1, k2, k3, k4⟩ := h
  exact ⟨ρ, o, R, _, hZ, fun ρ2 σ2 H2 o2 g2 R2 q2 => k1 ρ2 σ2 H2 o2 g2 R2 (hJ ρ2 q2), k2, k3, k4⟩
noncomputable def sSet (i : Nat) (te : TD) : TDS := fun ρ Z => te ρ fun r => (match r.k with | .own => False | _ => True) /\ Z.nx (setS ρ i r.sto)
theorem notOwn {r : EV} (h : match r.k with | .own => False | _ => True) : r.k ≠ .own := by
  obtain ⟨k, d⟩ := r
  cases k with
  | own => exact h.elim
  | val => exact fun z => nomatch z
  | fre => exact fun z => nomatch z
  | new => exact fun z => nomatch z
theorem sd_set (i : Nat) {x : Str} {pos' : Pos} (hN : X.N.Nodup) (he : ED Γ X e te) (hi : X.N[i]? = some x := by rfl) (hx : Loc X.env.scope x := by first | exact Or.inl rfl | exact Or.inr rfl) (hs : swapsWith e (some (.Name x pos')) pos.line X.env = pure false := by rfl)
    (hf : X.fn x = true \/ X.env.scope.names.lookup x = some .local := by first | exact .inl rfl | exact .inr rfl | assumption) : SD Γ X (.Assign [.Name x pos'] e pos) (sSet i te) := fun H₀ => impS (ps_set hN hi hx (he H₀) hs hf) fun D σ H h => by
  obtain ⟨ρ, o, R, Z, hZ, k1, k2, k3, k4⟩ := h
  refine ⟨ρ, o, R, _, hZ, fun v r H1 s1 rv h1 => ?_⟩
  obtain ⟨o', R', g⟩ := R.put s1 i rv (notOwn h1.1)
  exact k1 _ _ H1 o' g R' h1.2
noncomputable abbrev TGD := D -> DE -> (DE -> Prop) -> Prop
noncomputable def GLink (K : PySem.W.Frag) (g2 : TG) (g : TGD) : Prop := ∀ (H₀ H : Hp) (σ : St) (ρ : DE) (o : List (Nat × Addr)) (d : D) (v : V) (ψ : DE -> Prop) (Q : St -> Hp -> Prop), REnv K H₀ H σ ρ o -> Rep K H (o.map Prod.snd) d v -> g d ρ ψ ->
  (∀ ρ' σ', REnv K H₀ H σ' ρ' o -> ψ ρ' -> Q σ' H) -> g2 v σ H Q
noncomputable def gN (i : Nat) : TGD := fun d ρ ψ => ψ (setS ρ i (dv d))
theorem gl_name {K : PySem.W.Frag} (i : Nat) : GLink K (gName i) (gN i) := fun H₀ H σ ρ o d v ψ Q R h hg k => k _ _ (R.setV i h) hg
noncomputable def gT2 (i j : Nat) : TGD := fun d ρ ψ => match d with
  | .tup [a, b] => ψ (setS (setS ρ i (dv a)) j (dv b))
  | _ => False
theorem gl_tup2 {K : PySem.W.Frag} (i j : Nat) : GLink K (gTup K 2 (gCons (gName i) (gCons (gName j) gNil))) (gT2 i j) := fun H₀ H σ ρ o d v ψ Q R h hg k => by
  unfold gT2 at hg
  split at hg
  · rename_i a b
    obtain ⟨p, xs, rfl, q, r⟩ := h
    obtain ⟨v1, r1, rfl, h1, v2, r2, rfl, h2, rfl⟩ := r
    refine ⟨p, _, rfl, q.1, rfl, v1, _, rfl, v2, _, rfl, rfl, ?_⟩
    have R1 := R.setV i h1
    have R2 := R1.setV j h2
    exact k _ _ R2 hg
  · exact hg.elim
noncomputable def gT4 (i j l m : Nat) : TGD := fun d ρ ψ => match d with
  | .tup [a, b, c, e] => ψ (setS (setS (setS (setS ρ i (dv a)) j (dv b)) l (dv c)) m (dv e))
  | _ => False
noncomputable def sUn (te : TD) (g : TGD) : TDS := fun ρ Z => te ρ fun r => (match r.k with | .own => False | _ => True) /\ g r.d ρ Z.nx
theorem sd_un {tg : Expr} {g2 : TG} {g : TGD} (he : ED Γ X e te) (hg : PG X tg g2) (hl : GLink X.K g2 g) (hs : swapsWithSole [tg] e pos.line X.env = pure false := by rfl) (hw : swappedStores [tg] e X.env = pure none := by rfl)
    (h1 : (assignEach [tg] X.env).map (·.2) = [assign tg X.env] := by rfl) : SD Γ X (.Assign [tg] e pos) (sUn te g) := fun H₀ => impS (ps_asg (he H₀) hg hs hw h1) fun D σ H h => by
  obtain ⟨ρ, o, R, Z, hZ, k1, k2, k3, k4⟩ := h
  refine ⟨ρ, o, R, _, hZ, fun v r H1 s1 rv h1 => ?_⟩
  exact hl H₀.1 H1 σ ρ o r.d v _ _ (R.to s1) (rv.solid (notOwn h1.1)) h1.2 fun ρ' σ' R' q => k1 ρ' σ' H1 o (Grow.same s1) R' q
structure ItD (K : PySem.W.Frag) (J : It) (ds : List D) (P : Hp -> List Addr -> Prop) : Prop where
  go : ∀ (H : Hp) (O : List Addr) (i : Nat) (d : D), P H O -> ds[i]? = some d -> J.go i H /\ ∀ x H', J.yld i H x H' -> Same H H' /\ Rep K H' O d x
  stop : ∀ (H : Hp) (O : List Addr), P H O -> J.stop ds.length H
  keep : ∀ (O O' : List Addr) (H H' : Hp), P H O -> Grow O O' H H' -> P H' O'
noncomputable abbrev TID := DE -> (List D -> Prop) -> Prop
noncomputable def liftI (K : PySem.W.Frag) (H₀ : Hp) (t : TID) : TI := fun σ H R => ∃ ρ o, REnv K H₀ H σ ρ o /\ ∃ φ, t ρ φ /\ ∀ J ds P H', Same H H' -> ItD K J ds P -> P H' (o.map Prod.snd) -> φ ds -> R J H'
noncomputable def EI (G : Hp -> Prop) (X : Cx) (tg iter : Expr) (t : TID) : Prop := ∀ H₀ : {H : Hp // G H}, PI X tg iter (liftI X.K H₀.1 t)
noncomputable def sFor (ti : TID) (g : TGD) (tb : TDS) : TDS := fun ρ Z => ti ρ fun ds => ∃ P : Nat -> DE -> Prop, P 0 ρ /\ (∀ i d ρ, ds[i]? = some d -> P i ρ -> g d ρ fun ρ' => tb ρ' { Z with nx := P (i + 1), ct := P (i + 1), bk := Z.nx }) /\ ∀ ρ, P ds.length ρ -> Z.nx ρ
theorem sd_for {tg iter : Expr} {body : List Stmt} {ti : TID} {g2 : TG} {g : TGD} {tb : TDS} (hi : EI Γ X tg iter ti) (hg : PG X tg g2) (hl : GLink X.K g2 g) (hb : SDs Γ X body tb) (hc : X.calm = true := by rfl) (hp : PassesOwn (model X.prog X.w) X.A X.env X.xe := by exact PassesOwn.never)
    (hs : ∀ x, foldedSetIterable iter X.env x = pure x := by intro _; rfl) : SD Γ X (.For tg iter body [] pos) (sFor ti g tb) := fun H₀ => impS (ps_for hp hc (hi H₀) hg (hb H₀) hs) fun D σ H h => by
  obtain ⟨ρ, o, R, Z, hZ, k1, k2, k3, k4⟩ := h
  refine ⟨ρ, o, R, _, hZ, fun J ds PJ H1 s1 I hP ⟨P, p0, turn, fin⟩ => ?_⟩
  refine ⟨fun i m σ' H' => m = ds.length - i /\ i <= ds.length /\ ∃ ρ' o', Grow (o.map Prod.snd) (o'.map Prod.snd) H1 H' /\ REnv X.K H₀ H' σ' ρ' o' /\ P i ρ', ⟨_, rfl, Nat.zero_le _, ρ, o, Grow.refl, R.to s1, p0⟩, ?_⟩
  rintro i m σ' H' ⟨rfl, hi', ρ', o', g', R', p'⟩
  have hP' := I.keep _ _ _ _ hP g'
  have gg : Grow (o.map Prod.snd) (o'.map Prod.snd) H H' := (Grow.same s1).trans g'
  by_cases hlt : i < ds.length
  · have ed : ds[i]? = some ds[i] := by simp [hlt]
    obtain ⟨j1, j2⟩ := I.go H' _ i _ hP' ed
    refine .inr ⟨j1, fun σ2 H2 => ∃ ρ2 o2, Grow (o.map Prod.snd) (o2.map Prod.snd) H1 H2 /\ REnv X.K H₀ H2 σ2 ρ2 o2 /\ P (i + 1) ρ2, fun σ2 H2 ⟨ρ2, o2, g2, R2, p2⟩ => ⟨_, (by omega : ds.length - (i + 1) < ds.length - i), rfl, hlt, ρ2, o2, g2, R2, p2⟩, fun x H2 y => ?_⟩
    obtain ⟨s2, rp⟩ := j2 x H2 y
    refine hl H₀.1 H2 σ' ρ' o' _ x _ _ (R'.to s2) rp (turn i _ ρ' ed p') fun ρ3 σ3 R3 q3 => ?_
    have g13 : Grow (o.map Prod.snd) (o'.map Prod.snd) H1 H2 := g'.trans (Grow.same s2)
    have gg3 : Grow (o.map Prod.snd) (o'.map Prod.snd) H H2 := gg.trans (Grow.same s2)
    exact ⟨ρ3, o', R3, _, q3, fun ρ4 σ4 H4 o4 g4 R4 q4 => ⟨ρ4, o4, g13.trans g4, R4, q4⟩, fun ρ4 σ4 H4 o4 g4 R4 q4 => k1 ρ4 σ4 H4 o4 (gg3.trans g4) R4 q4, fun ρ4 σ4 H4 o4 g4 R4 q4 => ⟨ρ4, o4, g13.trans g4, R4, q4⟩, k4⟩
  · have e : i = ds.length := by omega
    subst e
    exact .inl ⟨I.stop H' _ hP', k1 ρ' σ' H' o' gg R' (fin ρ' p')⟩
end
end DL
namespace DL
open PySem PySem.Spec L2 L3
open PyProof.Rows hiding St
variable {Γ : Hp -> Prop}
section
variable {X : Cx} {tg e : Expr} {te : TD} {t : TDs} {pos : Pos}
theorem impI {iter : Expr} {t t' : TI} (h : PI X tg iter t) (i : ∀ σ H R, t' σ H R -> t σ H R) : PI X tg iter t' := fun pins s σ H R I q => h pins s σ H R I (i σ H R q)
noncomputable def PV (X : Cx) (tg : Expr) (r : V -> Hp -> (It -> Hp -> Prop) -> Prop) : Prop :=
  ∀ (pins : List (Addr × Obj)) (s : Shared) (σ : St) (H : Hp) (x : V) (v : Value) (R : It -> Hp -> Prop), Inv X pins σ H s -> RelV x v -> r x H R -> wpAny (model X.prog X.w) X.A (pyIter v) (PIE X pins σ tg R) X.xe s
theorem pi_of {l : Expr} {tl : TE} {r : V -> Hp -> (It -> Hp -> Prop) -> Prop} (hl : PE X l tl) (hv : PV X tg r) : PI X tg l (fun σ H R => tl σ H fun x H1 => r x H1 R) := fun pins s σ H R I h =>
  thn (hl pins s σ H _ I h) fun v s1 ⟨x, H1, I1, r1, q1⟩ => hv pins s1 σ H1 x v R I1 r1 q1
theorem pv_list : PV X tg (fun x H R => ∃ a, x = .ref a /\ (∃ xs, SqL X.K H a xs) /\ R (Itl X.K a) H) := by
  intro pins s1 σ H1 x v R I1 r1 q1
  obtain ⟨a, e, ⟨xs, hq⟩, q⟩ := q1
  subst e
  cases r1
  obtain ⟨its, rv, p, hz⟩ := I1.list hq
  refine wpAny_pyIter_list p.isList ?_
  refine ⟨s1.heap.objs.size, [s1.heap.objs.size], _, _, H1, rfl, I1.kept (t' := s1.toks) fun b o e => Heap.get?_push_of_some _ e, turn_list a _, ⟨_, Heap.get?_push_size _ rfl, rfl, rfl⟩, fun b hb => ?_, q⟩
  have e : b = s1.heap.objs.size := by simpa using hb
  subst e
  exact I1.fpOk (Nat.le_refl _) (I1.hok.fresh (Nat.le_refl _))
theorem pv_tup : PV X tg (fun x H R => ∃ a, x = .ref a /\ (∃ xs, SqT X.K H a xs) /\ R (Itt X.K a) H) := by
  intro pins s1 σ H1 x v R I1 r1 q1
  obtain ⟨a, e, ⟨xs, hq⟩, q⟩ := q1
  subst e
  cases r1
  obtain ⟨its, rv, p, hz⟩ := I1.tuple hq
  refine wpAny_pyIter_tuple (show s1.heap.IsTuple a its.toArray from p) ?_
  refine ⟨s1.heap.objs.size, [s1.heap.objs.size], _, _, H1, rfl, I1.kept (t' := s1.toks) fun b o e => Heap.get?_push_of_some _ e, turn_tuple a _, ⟨_, Heap.get?_push_size _ rfl, rfl, rfl⟩, fun b hb => ?_, q⟩
  have e : b = s1.heap.objs.size := by simpa using hb
  subst e
  exact I1.fpOk (Nat.le_refl _) (I1.hok.fresh (Nat.le_refl _))
theorem pv_str : PV X tg (fun x H R => ∃ z, x = .str z /\ R (Itv z.cps.size (SignV z)) H) := by
  intro pins s1 σ H1 x v R I1 r1 q1
  obtain ⟨z, e, q⟩ := q1
  subst e
  obtain ⟨t, rfl⟩ := r1
  have lay : ∀ (T : String), (∀ A : Around, A.handled = none -> Walks X.prog X.w A s1.heap.objs.size [s1.heap.objs.size] [s1.heap.objs.size] z.cps.size (SignAt z) (fun i h => h.IsStrIter s1.heap.objs.size T z t i)) ->
      (∀ (A : Around) (i : Nat) (s : Shared) (Q : Value -> Shared -> Prop) (E : Value -> Shared -> Prop), s.heap.IsStrIter s1.heap.objs.size T z t i -> Q (.ref s1.heap.objs.size) s -> wpAny (model X.prog X.w) A (pyIter (.ref s1.heap.objs.size)) Q E s) ->
      ["enumerate", "zip", "dict_itemiterator", "dict_reverseitemiterator", "odict_iterator", "itertools.zip_longest", "itertools.pairwise"].contains T = false ->
      PIE X pins σ tg R (.ref s1.heap.objs.size) { s1 with heap := s1.heap.push { cls := .type T, data := .fields #[.str z t, .int 0 0] } } := fun T W hs hT => by
    have I2 : Inv X pins σ H1 { s1 with heap := s1.heap.push { cls := .type T, data := .fields #[.str z t, .int 0 0] } } := I1.kept (t' := s1.toks) fun b u e => Heap.get?_push_of_some _ e
    refine ⟨s1.heap.objs.size, [s1.heap.objs.size], _, _, H1, rfl, I2, turn_str W hs hT, ⟨_, Heap.get?_push_size _ rfl, rfl, rfl⟩, fun b hb => ?_, q⟩
    have e : b = s1.heap.objs.size := by simpa using hb
    subst e
    exact I1.fpOk (Nat.le_refl _) I1.fresh
  cases ha : z.cps.all (· < 128)
  · exact wpAny_pyIter_wide ha (lay "str_iterator" (fun A hA => Walks.strWide hA _ z t) (fun A i s Q E st q => wpAny_pyIter_striter_wide st q) (by decide))
  · exact wpAny_pyIter_ascii ha (lay "str_ascii_iterator" (fun A hA => Walks.strAscii hA _ z t) (fun A i s Q E st q => wpAny_pyIter_striter_ascii st q) (by decide))
noncomputable def itemsD : D -> Option (List D)
  | .lst ds => some ds
  | .tup ds => some ds
  | .scr ns => some (ns.map D.int)
  | .str z => some (z.cps.toList.map fun c => D.str ⟨#[c]⟩)
  | _ => none
noncomputable def iSeq (te : TD) : TID := fun ρ φ => te ρ fun r => (match r.k with | .own => False | _ => True) /\ match itemsD r.d with
  | some ds => φ ds
  | none => False
theorem it_lst {K : PySem.W.Frag} {a : Addr} {ds : List D} : ItD K (Itl K a) ds (fun H O => ∃ xs, H a = some (.lst xs) /\ a ∉ O /\ Reps K H O ds xs) where
  go := fun H O i d ⟨xs, q, n, r⟩ e => by
    obtain ⟨v, ev, rv⟩ := r.get e
    refine ⟨⟨xs, v, SqL.of q, ev⟩, fun x H' y => ?_⟩
    obtain ⟨e1, y⟩ := y
    subst e1
    have := y xs (SqL.of q)
    rw [ev] at this
    cases this
    exact ⟨Same.refl _, rv⟩
  stop := fun H O ⟨xs, q, n, r⟩ => ⟨xs, SqL.of q, by rw [r.length]; exact Nat.le_refl _⟩
  keep := fun O O' H H' ⟨xs, q, n, r⟩ g => ⟨xs, (g.keep _ _ q n).1, (g.keep _ _ q n).2, Reps.grow g _ _ r⟩
theorem it_tup {K : PySem.W.Frag} {a : Addr} {ds : List D} : ItD K (Itt K a) ds (fun H O => ∃ xs, SqT K H a xs /\ Reps K H O ds xs) where
  go := fun H O i d ⟨xs, q, r⟩ e => by
    obtain ⟨v, ev, rv⟩ := r.get e
    refine ⟨⟨xs, v, q, ev⟩, fun x H' y => ?_⟩
    obtain ⟨e1, y⟩ := y
    subst e1
    have := y xs q
    rw [ev] at this
    cases this
    exact ⟨Same.refl _, rv⟩
  stop := fun H O ⟨xs, q, r⟩ => ⟨xs, q, by rw [r.length]; exact Nat.le_refl _⟩
  keep := fun O O' H H' ⟨xs, q, r⟩ g => ⟨xs, sqT_grow g q, Reps.grow g _ _ r⟩
theorem it_scr {K : PySem.W.Frag} {a : Addr} {ns : List Int} : ItD K (Itl K a) (ns.map D.int) (fun H _ => Scr K H a ns) where
  go := fun H O i d q e => by
    rw [List.getElem?_map] at e
    cases en : ns[i]? with
    | none => rw [en] at e; cases e
    | some n =>
      rw [en] at e
      cases e
      have ev : (ns.map V.int)[i]? = some (.int n) := by rw [List.getElem?_map, en]; rfl
      refine ⟨⟨_, _, q.seq, ev⟩, fun x H' y => ?_⟩
      obtain ⟨e1, y⟩ := y
      subst e1
      have := y _ q.seq
      rw [ev] at this
      cases this
      exact ⟨Same.refl _, rfl⟩
  stop := fun H O q => ⟨_, q.seq, by rw [List.length_map, List.length_map]; exact Nat.le_refl _⟩
  keep := fun O O' H H' q g => scr_grow g q
theorem it_str {K : PySem.W.Frag} {z : Str} : ItD K (Itv z.cps.size (SignV z)) (z.cps.toList.map fun c => D.str ⟨#[c]⟩) (fun _ _ => True) where
  go := fun H O i d _ e => by
    rw [List.getElem?_map] at e
    cases en : z.cps.toList[i]? with
    | none => rw [en] at e; cases e
    | some n =>
      rw [en] at e
      cases e
      have hl := (List.getElem?_eq_some_iff.mp en).1
      refine ⟨(show i < z.cps.size by simpa using hl), fun x H' y => ?_⟩
      obtain ⟨e1, c, hc, ex⟩ := y
      subst e1 ex
      have : z.cps.toList[i]? = some c := by rw [Array.getElem?_toList]; exact hc
      rw [en] at this
      cases this
      exact ⟨Same.refl _, rfl⟩
  stop := fun H O _ => by show _ = _; simp
  keep := fun _ _ _ _ _ _ => trivial
noncomputable def rngD (lo : Int) (n : Nat) : List D := (List.range n).map fun (i : Nat) => D.int (lo + (i : Int))
theorem it_rng {K : PySem.W.Frag} {lo : Int} {n : Nat} : ItD K (Itr lo n) (rngD lo n) (fun _ _ => True) where
  go := fun H O i d _ e => by
    unfold rngD at e
    rw [List.getElem?_map] at e
    cases en : (List.range n)[i]? with
    | none => rw [en] at e; cases e
    | some m =>
      rw [en] at e
      cases e
      have hl := (List.getElem?_eq_some_iff.mp en).1
      rw [List.length_range] at hl
      have : m = i := by
        rw [List.getElem?_range hl] at en
        exact (Option.some.inj en).symm
      subst this
      refine ⟨hl, fun x H' y => ?_⟩
      obtain ⟨e1, ex⟩ := y
      subst e1 ex
      exact ⟨Same.refl _, rfl⟩
  stop := fun H O _ => by show n <= _; unfold rngD; simp
  keep := fun _ _ _ _ _ _ => trivial
theorem PV.or {r r' : V -> Hp -> (It -> Hp -> Prop) -> Prop} (h : PV X tg r) (h' : PV X tg r') : PV X tg (fun x H R => r x H R \/ r' x H R) := fun pins s σ H x v R I rx q => q.elim (h pins s σ H x v R I rx) (h' pins s σ H x v R I rx)
theorem ei_seq (he : ED Γ X e te) : EI Γ X tg e (iSeq te) := fun H₀ => impI (pi_of (he H₀) (pv_list.or (pv_tup.or pv_str))) fun σ H R q => by
  obtain ⟨ρ, o, RE, φ, hφ, k⟩ := q
  refine ⟨ρ, o, RE, _, hφ, fun v r H1 s1 rv h1 => ?_⟩
  obtain ⟨h0, h1⟩ := h1
  have rp := rv.solid (notOwn h0)
  obtain ⟨kd, d⟩ := r
  cases d with
  | lst ds =>
    obtain ⟨a, xs, rfl, q, n, r⟩ := rp
    exact .inl ⟨a, rfl, ⟨xs, SqL.of q⟩, k _ _ _ H1 s1 it_lst ⟨xs, q, n, r⟩ h1⟩
  | tup ds =>
    obtain ⟨a, xs, rfl, q, r⟩ := rp
    exact .inr (.inl ⟨a, rfl, ⟨xs, q.1⟩, k _ _ _ H1 s1 it_tup ⟨xs, q.1, r⟩ h1⟩)
  | scr ns =>
    obtain ⟨a, rfl, q⟩ := rp
    exact .inl ⟨a, rfl, ⟨_, q.seq⟩, k _ _ _ H1 s1 it_scr q h1⟩
  | str z =>
    cases (show v = _ from rp)
    exact .inr (.inr ⟨z, rfl, k _ _ _ H1 s1 it_str trivial h1⟩)
  | _ => exact h1.elim
noncomputable def iR1 (t : TDs) : TID := fun ρ φ => t ρ fun rs => match rs with
  | [⟨_, .int j⟩] => -(2 ^ 62) <= j /\ j < 2 ^ 62 /\ φ (rngD 0 j.toNat)
  | _ => False
theorem ei_range1 {a : Expr} {p : Pos} (hm : X.mg "range" = none) (ha : EA Γ X [a] t) (hg : Gl X "range" := by rfl) (hs : starEach [a] X.env = [(false, eval a X.env)] := by rfl) : EI Γ X tg (.Call (.Name "range" p) [a] [] pos) (iR1 t) := fun H₀ => impI (pi_range1 hg hm (ha H₀) hs) fun σ H R q => by
  obtain ⟨ρ, o, RE, φ, hφ, k⟩ := q
  refine ⟨ρ, o, RE, _, hφ, fun vs rs H1 s1 rvs h1 => ?_⟩
  split at h1
  · rename_i kd j
    obtain ⟨v, ws, rfl, rv, rfl⟩ := rvs
    cases (show v = _ from rv.view)
    exact ⟨j, rfl, h1.1, h1.2.1, k _ _ _ H1 s1 it_rng trivial h1.2.2⟩
  · exact h1.elim
end
section
variable {X : Cx} {σ : St} {scope : Scope} {T F : List Str} {js : List Nat} {tg iter elt : Expr} {ifs : List Expr} {pos : Pos} {ti : TID} {g2 : TG} {g : TGD} {tc : TDb} {te : TD}
noncomputable def ρ0 (n : Nat) (js : List Nat) (ρ : DE) : DE := List.replicate n none ++ js.map fun j => slot ρ j
noncomputable def ixO (n : Nat) (js : List Nat) (j : Nat) : Nat := if j ∈ js then n + js.idxOf j else n + js.length + 1 + j
theorem renv_block {K : PySem.W.Frag} {H₀ H H' : Hp} {σ : St} {ρ : DE} {o : List (Nat × Addr)} {n : Nat} {js : List Nat} {D : Addr} {ys : List V} (R : REnv K H₀ H σ ρ o) (nd : js.Nodup) (hD : H D = none) (s : Same H H') (hD' : H' D = some (.lst ys)) (Tn : List Str) (hT : Tn.length = n) :
    REnv K H₀ H' (st0 Tn js σ) (ρ0 n js ρ) ((n + js.length, D) :: o.map fun p => (ixO n js p.1, p.2)) := by
  have hO : ((n + js.length, D) :: o.map fun p => (ixO n js p.1, p.2)).map Prod.snd = D :: o.map Prod.snd := by
    rw [List.map_cons, List.map_map]
    rfl
  have g : Grow (o.map Prod.snd) (D :: o.map Prod.snd) H H' := ⟨fun b u h nb => ⟨s b u h, fun z => (List.mem_cons.mp z).elim (fun e => ne_of_none h hD e) nb⟩, fun b xs h => s b _ h, fun b ob u h => s b _ h⟩
  have R' := R.to s
  exact {
    same := R'.same
    fresh := fun p hp => by
      rcases List.mem_cons.mp hp with rfl | hp
      · exact R.same.free hD
      · obtain ⟨q, hq, rfl⟩ := List.mem_map.mp hp
        exact R.fresh q hq
    trk := fun p hp => by
      rcases List.mem_cons.mp hp with rfl | hp
      · exact ⟨_, hD'⟩
      · obtain ⟨q, hq, rfl⟩ := List.mem_map.mp hp
        exact R'.trk q hq
    mtb := fun p hp => by
      rcases List.mem_cons.mp hp with rfl | hp
      · exact ⟨(fun xs z => by rw [hD'] at z; cases z), (fun ob u z => by rw [hD'] at z; cases z)⟩
      · obtain ⟨q, hq, rfl⟩ := List.mem_map.mp hp
        exact R'.mtb q hq
    nda := by
      rw [hO, List.nodup_cons]
      exact ⟨R.ofree hD, R.nda⟩
    len := by
      unfold st0 ρ0
      simp [hT]
    slots := fun i r e => by
      rw [hO]
      unfold ρ0 at e
      have hi : n <= i := by
        rcases Nat.lt_or_ge i n with z | z
        · rw [List.getElem?_append_left (by simpa using z), List.getElem?_replicate] at e
          split at e <;> cases e
        · exact z
      rw [List.getElem?_append_right (by simpa using hi), List.length_replicate, List.getElem?_map] at e
      cases ej : js[i - n]? with
      | none => rw [ej] at e; cases e
      | some j =>
        rw [ej] at e
        have e' : slot ρ j = some r := Option.some.inj e
        obtain ⟨v, ev, q⟩ := R.slots j r (slot_eq e')
        refine ⟨v, ?_, ?_⟩
        · unfold st0
          rw [List.getElem?_append_right (by simpa [hT] using hi), List.length_replicate, List.getElem?_map, hT, ej]
          show some ((σ[j]?).join) = _
          rw [ev]
          rfl
        · rcases q with ⟨k, q⟩ | ⟨k, a, e1, m, c⟩
          · exact .inl ⟨k, Rep.grow g _ _ q⟩
          · refine .inr ⟨k, a, e1, List.mem_cons_of_mem _ (List.mem_map.mpr ⟨_, m, ?_⟩), c.grow (fun u q => s _ _ q) g⟩
            have hmem : j ∈ js := List.mem_of_getElem? ej
            have hidx : js.idxOf j = i - n := by
              have h1 := (List.getElem?_eq_some_iff.mp ej)
              have h2 := List.getElem_idxOf (List.idxOf_lt_length_iff.mpr hmem)
              exact (List.getElem_inj nd).mp (h2.trans h1.2.symm)
            show (ixO n js j, a) = (i, a)
            unfold ixO
            rw [if_pos hmem, hidx]
            congr 1
            omega }
noncomputable def bYes : TDb := fun _ φ => φ true
noncomputable def EIf (G : Hp -> Prop) (X : Cx) (ifs : List Expr) (t : TDb) : Prop := ∀ H₀ : {H : Hp // G H}, PIf X ifs (liftT X.K H₀.1 t)
theorem eif_nil : EIf Γ X [] bYes := fun H₀ pins s σ H Q I h => by
  obtain ⟨ρ, o, R, φ, hφ, k⟩ := h
  exact pif_nil pins s σ H Q I (k true H (Same.refl H) hφ)
theorem eif_one {c : Expr} (h : ET Γ X c tc) : EIf Γ X [c] tc := fun H₀ => pif_one (h H₀)
end
end DL
namespace DL
open PySem PySem.Spec L2 L3
open PyProof.Rows hiding St
variable {Γ : Hp -> Prop}
section
variable {X : Cx} {x : Str} {e a b : Expr} {es : List Expr} {t : TDs} {ta tb : TD} {p pos : Pos}
structure Kit (K : PySem.W.Frag) : Prop where
  ne : ∀ q ∈ ([("NoneType", "int"), ("NoneType", "bool"), ("NoneType", "str"), ("NoneType", "tuple"), ("NoneType", "list"), ("NoneType", "dict"), ("bool", "str"), ("bool", "tuple"), ("bool", "list"), ("bool", "dict"),
    ("int", "bool"), ("int", "str"), ("int", "tuple"), ("int", "list"), ("int", "dict"), ("str", "int"), ("str", "bool"), ("str", "tuple"), ("str", "list"), ("str", "dict"),
    ("tuple", "int"), ("tuple", "bool"), ("tuple", "str"), ("tuple", "list"), ("tuple", "dict"), ("list", "int"), ("list", "bool"), ("list", "str"), ("list", "tuple"), ("list", "dict"),
    ("dict", "int"), ("dict", "bool"), ("dict", "str"), ("dict", "tuple"), ("dict", "list")] : List (String × String)), PySem.W.kitOne K (.type q.1) (.type q.2) = some false
  bi : PySem.W.kitOne K (.type "bool") (.type "int") = some true
theorem kit_all {K : PySem.W.Frag} : Kit K := by
  constructor
  · intro q hq
    simp only [List.mem_cons, List.not_mem_nil, or_false] at hq
    rcases hq with rfl | rfl | rfl | rfl | rfl | rfl | rfl | rfl | rfl | rfl | rfl | rfl | rfl | rfl | rfl | rfl | rfl | rfl | rfl | rfl | rfl | rfl | rfl | rfl | rfl | rfl | rfl | rfl | rfl | rfl | rfl | rfl | rfl | rfl | rfl <;> kernel_rfl
  · kernel_rfl
theorem kit_same {K : PySem.W.Frag} {T : String} : PySem.W.kitOne K (.type T) (.type T) = some true := by
  unfold PySem.W.kitOne
  rw [if_pos (by simp)]
theorem boot_str' : bootBuiltins "str" = some (.type "str") := by decide +kernel
theorem boot_int' : bootBuiltins "int" = some (.type "int") := by decide +kernel
theorem boot_bool' : bootBuiltins "bool" = some (.type "bool") := by decide +kernel
theorem boot_tuple' : bootBuiltins "tuple" = some (.type "tuple") := by decide +kernel
theorem boot_list' : bootBuiltins "list" = some (.type "list") := by decide +kernel
theorem boot_dict' : bootBuiltins "dict" = some (.type "dict") := by decide +kernel
theorem boot_isinstance' : bootBuiltins "isinstance" = some (.builtin "isinstance") := by decide +kernel
theorem kit_ne {K : PySem.W.Frag} (a T : String) (h : (a, T) ∈ ([("NoneType", "int"), ("NoneType", "bool"), ("NoneType", "str"), ("NoneType", "tuple"), ("NoneType", "list"), ("NoneType", "dict"), ("bool", "str"), ("bool", "tuple"), ("bool", "list"), ("bool", "dict"),
    ("int", "bool"), ("int", "str"), ("int", "tuple"), ("int", "list"), ("int", "dict"), ("str", "int"), ("str", "bool"), ("str", "tuple"), ("str", "list"), ("str", "dict"),
    ("tuple", "int"), ("tuple", "bool"), ("tuple", "str"), ("tuple", "list"), ("tuple", "dict"), ("list", "int"), ("list", "bool"), ("list", "str"), ("list", "tuple"), ("list", "dict"),
    ("dict", "int"), ("dict", "bool"), ("dict", "str"), ("dict", "tuple"), ("dict", "list")] : List (String × String))) : PySem.W.kitOne K (.type a) (.type T) = some false := kit_all.ne (a, T) h
noncomputable def tyName : D -> String
  | .non => "NoneType"
  | .bl _ => "bool"
  | .int _ => "int"
  | .str _ => "str"
  | .tup _ => "tuple"
  | .lst _ => "list"
  | .dk _ _ => "dict"
  | .dt _ _ => "dict"
  | .ty _ => "type"
  | .cn _ => "tuple"
  | .scr _ => "list"
  | .exc _ => "exc"
  | .fd _ => "exc"
noncomputable def kitPairs : List (String × String) := [("NoneType", "int"), ("NoneType", "bool"), ("NoneType", "str"), ("NoneType", "tuple"), ("NoneType", "list"), ("NoneType", "dict"), ("bool", "str"), ("bool", "tuple"), ("bool", "list"), ("bool", "dict"),
    ("int", "bool"), ("int", "str"), ("int", "tuple"), ("int", "list"), ("int", "dict"), ("str", "int"), ("str", "bool"), ("str", "tuple"), ("str", "list"), ("str", "dict"),
    ("tuple", "int"), ("tuple", "bool"), ("tuple", "str"), ("tuple", "list"), ("tuple", "dict"), ("list", "int"), ("list", "bool"), ("list", "str"), ("list", "tuple"), ("list", "dict"),
    ("dict", "int"), ("dict", "bool"), ("dict", "str"), ("dict", "tuple"), ("dict", "list")]
noncomputable def isN (a T : String) : Option Bool := if a = T then some true else if a = "bool" /\ T = "int" then some true else if (a, T) ∈ kitPairs then some false else none
noncomputable def isT (d : D) (T : String) : Option Bool := match d with
  | .ty _ => none
  | .cn _ => none
  | .scr _ => none
  | .exc _ => none
  | .fd _ => none
  | d => isN (tyName d) T
theorem isN_kit {K : PySem.W.Frag} {a T : String} {b : Bool} (h : isN a T = some b) : PySem.W.kitOne K (.type a) (.type T) = some b := by
  unfold isN at h
  split at h
  · rename_i q
    cases h
    subst q
    exact kit_same
  · split at h
    · rename_i q
      cases h
      obtain ⟨rfl, rfl⟩ := q
      exact kit_all.bi
    · split at h
      · rename_i q
        cases h
        exact kit_ne a T q
      · cases h
theorem isT_kit {K : PySem.W.Frag} {d : D} {T : String} {b : Bool} (h : isT d T = some b) : PySem.W.kitOne K (.type (tyName d)) (.type T) = some b := by
  cases d with
  | ty _ => cases h
  | cn _ => cases h
  | scr _ => cases h
  | exc _ => cases h
  | fd _ => cases h
  | _ => exact isN_kit h
theorem isT_non_int : isT .non "int" = some false := (by decide : isN "NoneType" "int" = some false)
theorem isT_non_bool : isT .non "bool" = some false := (by decide : isN "NoneType" "bool" = some false)
theorem isT_non_tuple : isT .non "tuple" = some false := (by decide : isN "NoneType" "tuple" = some false)
theorem isT_bl_int (b : Bool) : isT (.bl b) "int" = some true := (by decide : isN "bool" "int" = some true)
theorem isT_bl_bool (b : Bool) : isT (.bl b) "bool" = some true := (by decide : isN "bool" "bool" = some true)
theorem isT_bl_tuple (b : Bool) : isT (.bl b) "tuple" = some false := (by decide : isN "bool" "tuple" = some false)
theorem isT_int_int (i : Int) : isT (.int i) "int" = some true := (by decide : isN "int" "int" = some true)
theorem isT_int_bool (i : Int) : isT (.int i) "bool" = some false := (by decide : isN "int" "bool" = some false)
theorem isT_int_str (i : Int) : isT (.int i) "str" = some false := (by decide : isN "int" "str" = some false)
theorem isT_int_tuple (i : Int) : isT (.int i) "tuple" = some false := (by decide : isN "int" "tuple" = some false)
theorem isT_str_int (x : Str) : isT (.str x) "int" = some false := (by decide : isN "str" "int" = some false)
theorem isT_str_bool (x : Str) : isT (.str x) "bool" = some false := (by decide : isN "str" "bool" = some false)
theorem isT_str_str (x : Str) : isT (.str x) "str" = some true := (by decide : isN "str" "str" = some true)
theorem isT_str_tuple (x : Str) : isT (.str x) "tuple" = some false := (by decide : isN "str" "tuple" = some false)
theorem isT_tup_int (l : List D) : isT (.tup l) "int" = some false := (by decide : isN "tuple" "int" = some false)
theorem isT_tup_bool (l : List D) : isT (.tup l) "bool" = some false := (by decide : isN "tuple" "bool" = some false)
theorem isT_tup_tuple (l : List D) : isT (.tup l) "tuple" = some true := (by decide : isN "tuple" "tuple" = some true)
theorem isT_tup_list (l : List D) : isT (.tup l) "list" = some false := (by decide : isN "tuple" "list" = some false)
theorem isT_lst_int (l : List D) : isT (.lst l) "int" = some false := (by decide : isN "list" "int" = some false)
theorem isT_lst_bool (l : List D) : isT (.lst l) "bool" = some false := (by decide : isN "list" "bool" = some false)
theorem isT_lst_tuple (l : List D) : isT (.lst l) "tuple" = some false := (by decide : isN "list" "tuple" = some false)
theorem isT_lst_list (l : List D) : isT (.lst l) "list" = some true := (by decide : isN "list" "list" = some true)
theorem isT_dk_int (k : List Key) (l : List D) : isT (.dk k l) "int" = some false := (by decide : isN "dict" "int" = some false)
theorem isT_dk_bool (k : List Key) (l : List D) : isT (.dk k l) "bool" = some false := (by decide : isN "dict" "bool" = some false)
theorem isT_dk_tuple (k : List Key) (l : List D) : isT (.dk k l) "tuple" = some false := (by decide : isN "dict" "tuple" = some false)
theorem isT_dk_dict (k : List Key) (l : List D) : isT (.dk k l) "dict" = some true := (by decide : isN "dict" "dict" = some true)
theorem call_isD : CallR X (.builtin "isinstance") (fun xs H Q => ∃ d x T b, xs = [x, .ty T] /\ Rep X.K H [] d x /\ isT d T = some b /\ Q (.bl b) H) := by
  intro pins s σ H xs us Q I r h
  obtain ⟨d, x, T, b, rfl, rp, e, q⟩ := h
  obtain ⟨u, v, rfl, ru, rv⟩ := vals2 r
  cases rv
  have ek := isT_kit (K := X.K) e
  have fin : ∀ tk, EP X pins σ Q (.bool b) { s with toks := tk } := fun tk => ⟨.bl b, H, I.tok tk, rfl, q⟩
  cases d with
  | non => cases (show x = _ from rp); exact isinst_ok I ru .non ek fin
  | bl c => cases (show x = _ from rp); exact isinst_ok I ru (.bl c) ek fin
  | int c => cases (show x = _ from rp); exact isinst_ok I ru (.int c) ek fin
  | str c => cases (show x = _ from rp); exact isinst_ok I ru (.str c) ek fin
  | ty _ => cases e
  | cn _ => cases e
  | scr _ => cases e
  | exc _ => cases e
  | fd _ => cases e
  | lst ds => obtain ⟨a, xs, rfl, q1, _⟩ := rp; exact isinst_ok I ru (.lst q1) ek fin
  | dk ks ds => obtain ⟨a, xs, rfl, q1, _⟩ := rp; exact isinst_ok I ru (.dK q1) ek fin
  | dt ks ds => obtain ⟨a, xs, rfl, q1, _⟩ := rp; exact isinst_ok I ru (.dT q1) ek fin
  | tup ds =>
    obtain ⟨a, xs, rfl, q1, _⟩ := rp
    cases (show u = Value.ref a from ru)
    obtain ⟨its, _, p, _⟩ := I.tuple q1.1
    obtain ⟨o, h1, h2, _⟩ := p
    exact PySem.W.kia_one PySem.W.kitx_tuple I.kIn ⟨o, h1, h2⟩ ek (fun z => nomatch z) fin
noncomputable def sIsI : FT := fun ds φ => match ds with
  | [d, .ty T] => match isT d T with
    | some b => φ (dv (.bl b))
    | none => False
  | _ => False
theorem ed_isinst (hm : X.mg "isinstance" = none) (ha : EA Γ X (e :: es) t) (hg : Gl X "isinstance" := by rfl) (he : starEach (e :: es) X.env = (false, eval e X.env) :: starEach es X.env := by rfl) (hpl : (backTo pos (starEach es X.env)).any (·.1) = false := by rfl) : ED Γ X (.Call (.Name "isinstance" p) (e :: es) [] pos) (dCB sIsI t) :=
  ed_callB call_isD (fun H O ds vs φ Q ho hv h k => by
    unfold sIsI at h
    split at h
    · split at h
      · rename_i d T b eb
        obtain ⟨v, ws, rfl, h1, v2, ws2, rfl, h2, rfl⟩ := hv
        cases (show v2 = _ from h2)
        exact ⟨_, v, _, _, rfl, h1.rep0, eb, k _ _ H (Same.refl H) (by exact rfl) h⟩
      · exact h.elim
    · exact h.elim) hm boot_isinstance' ha hg (by decide) (by decide) he hpl
noncomputable def sTupC : FT := fun ds φ => match ds with
  | [.lst l] => φ (dv (.tup l))
  | [.tup l] => φ (dv (.tup l))
  | _ => False
theorem ed_tupleC (hm : X.mg "tuple" = none) (ha : EA Γ X (e :: es) t) (hg : Gl X "tuple" := by rfl) (he : starEach (e :: es) X.env = (false, eval e X.env) :: starEach es X.env := by rfl) (hpl : (backTo pos (starEach es X.env)).any (·.1) = false := by rfl) : ED Γ X (.Call (.Name "tuple" p) (e :: es) [] pos) (dCB sTupC t) :=
  ed_callTy call_tuple_of (fun H O ds vs φ Q ho hv h k => by
    unfold sTupC at h
    split at h
    · obtain ⟨v, ws, rfl, ⟨a, xs, rfl, q, r⟩, rfl⟩ := hv
      exact ⟨a, xs, rfl, .inl ⟨SqL.of q, fun l hl => k _ _ _ (same_new hl _) (rv_tup hl r) h⟩⟩
    · obtain ⟨v, ws, rfl, ⟨a, xs, rfl, q, r⟩, rfl⟩ := hv
      exact ⟨a, xs, rfl, .inr ⟨q.1, k (.ref a) (dv (.tup _)) H (Same.refl H) ⟨a, xs, rfl, q, r⟩ h⟩⟩
    · exact h.elim) hm boot_tuple' ha hg (by decide) (by decide) he hpl
noncomputable def sListC : FT := fun ds φ => match ds with
  | [.lst l] => φ (df (.lst l))
  | [.tup l] => φ (df (.lst l))
  | _ => False
theorem ed_listC (hm : X.mg "list" = none) (ha : EA Γ X (e :: es) t) (hg : Gl X "list" := by rfl) (he : starEach (e :: es) X.env = (false, eval e X.env) :: starEach es X.env := by rfl) (hpl : (backTo pos (starEach es X.env)).any (·.1) = false := by rfl) : ED Γ X (.Call (.Name "list" p) (e :: es) [] pos) (dCB sListC t) :=
  ed_callTy call_list_of (fun H O ds vs φ Q ho hv h k => by
    unfold sListC at h
    split at h
    · obtain ⟨v, ws, rfl, ⟨a, xs, rfl, q, r⟩, rfl⟩ := hv
      exact ⟨a, xs, rfl, .inl (SqL.of q), fun l hl => k _ _ _ (same_new hl _) (rv_lst ho hl r) h⟩
    · obtain ⟨v, ws, rfl, ⟨a, xs, rfl, q, r⟩, rfl⟩ := hv
      exact ⟨a, xs, rfl, .inr q.1, fun l hl => k _ _ _ (same_new hl _) (rv_lst ho hl r) h⟩
    · exact h.elim) hm boot_list' ha hg (by decide) (by decide) he hpl
noncomputable def sIntC : FT := fun ds φ => match ds with
  | [.bl b] => φ (dv (.int (if b then 1 else 0)))
  | [.int i] => φ (dv (.int i))
  | _ => False
theorem ed_intC (hm : X.mg "int" = none) (ha : EA Γ X (e :: es) t) (hg : Gl X "int" := by rfl) (he : starEach (e :: es) X.env = (false, eval e X.env) :: starEach es X.env := by rfl) (hpl : (backTo pos (starEach es X.env)).any (·.1) = false := by rfl) : ED Γ X (.Call (.Name "int" p) (e :: es) [] pos) (dCB sIntC t) :=
  ed_callTy call_int1 (fun H O ds vs φ Q ho hv h k => by
    unfold sIntC at h
    split at h
    · obtain ⟨v, ws, rfl, h1, rfl⟩ := hv
      cases (show v = _ from h1)
      exact .inr ⟨_, rfl, k _ _ H (Same.refl H) (by exact rfl) h⟩
    · obtain ⟨v, ws, rfl, h1, rfl⟩ := hv
      cases (show v = _ from h1)
      exact .inl ⟨_, rfl, k _ _ H (Same.refl H) (by exact rfl) h⟩
    · exact h.elim) hm boot_int' ha hg (by decide) (by decide) he hpl
end
section
variable {P : Program} {w : World} {K : PySem.W.Frag} {mg : Str -> Option Value} {base : Heap}
noncomputable def startD (n : Nat) (ds : List D) : DE := ds.map (fun d => some (dv d)) ++ List.replicate (n - ds.length) none
theorem fn_okD {x qual : Str} {st : Stmt} {f : Addr} {fd : FuncData} {N ps : List Str} {k : Nat} {T : FT} (F : Fun K x qual st f fd) (S : FnScope N ps (defScope st))
    (hbody : ∀ (cdv : Value) (A : Around) (outer : List Env) (s : Shared) (H : Hp) (E : XK) (ds : List D) (φ : EV -> Prop), Room k (A.deeper (envOfC qual (defScope st) s.heap.objs.size f cdv)) -> ds.length = ps.length -> T ds φ ->
      ∃ t, SDs (fun _ => True) (cxOf CX0 P w K mg base N qual (defScope st) f cdv A outer s H E).nox (defBody st) t /\ t (startD N.length ds) { nx := fun _ => φ (dv .non), rt := fun r => pureEV r /\ φ r }) : FnOk P w K mg base CX0 (k + 1) f fd ps (spD K ps.length T) := by
  refine F.ok S (fun vs H Q E h => ?_) (fun cdv A outer s H vs Q E hr h => ?_)
  · obtain ⟨ds, φ, hl, r, _⟩ := h
    rw [r.length, hl]
  · obtain ⟨ds, φ, hl, r, hT, kk⟩ := h
    obtain ⟨t, ht, hq⟩ := hbody cdv A outer s H E ds φ hr hl hT
    have rl := r.length
    refine ⟨liftS K H t, ht ⟨H, trivial⟩, startD N.length ds, [], ⟨Same.refl H, (fun _ z => absurd z (by simp)), (fun _ z => absurd z (by simp)), (fun _ z => absurd z (by simp)), List.nodup_nil, fun i r' e => ?_, ?_⟩, _, hq, fun ρ' σ' H' o' g R' q => ?_, fun _ _ _ _ _ _ q => q.elim, fun _ _ _ _ _ _ q => q.elim, fun v r' H' s' rv q => kk v r' H' s' rv q.1 q.2⟩
    · unfold startD at e
      rcases Nat.lt_or_ge i ds.length with hi | hi
      · rw [List.getElem?_append_left (by simpa using hi), List.getElem?_map] at e
        have ed : ds[i]? = some ds[i] := by simp [hi]
        rw [ed] at e
        have e' : some (dv ds[i]) = some r' := Option.some.inj e
        cases e'
        obtain ⟨v, ev, rv⟩ := r.get ed
        refine ⟨v, ?_, .inl ⟨rfl, rv⟩⟩
        unfold L2.start
        rw [List.getElem?_append_left (by rw [List.length_map, rl]; exact hi), List.getElem?_map, ev]
        rfl
      · rw [List.getElem?_append_right (by simpa using hi), List.getElem?_replicate] at e
        split at e <;> cases e
    · unfold L2.start startD
      simp [rl]
    · exact kk .non (dv .non) H' R'.same rfl trivial q
theorem fd_of {x qual : Str} {st : Stmt} {f : Addr} {fd : FuncData} {N ps : List Str} {k : Nat} {T : FT} (F : Fun K x qual st f fd) (S : FnScope N ps (defScope st)) (b : Binds K fd ps []) (m : mg x = some (.ref f))
    (hbody : ∀ (cdv : Value) (A : Around) (outer : List Env) (s : Shared) (H : Hp) (E : XK) (ds : List D) (φ : EV -> Prop), Room k (A.deeper (envOfC qual (defScope st) s.heap.objs.size f cdv)) -> ds.length = ps.length -> T ds φ ->
      ∃ t, SDs (fun _ => True) (cxOf CX0 P w K mg base N qual (defScope st) f cdv A outer s H E).nox (defBody st) t /\ t (startD N.length ds) { nx := fun _ => φ (dv .non), rt := fun r => pureEV r /\ φ r }) : FD P w K mg base (k + 1) x ps T := ⟨f, fd, fn_okD F S hbody, b, F.kp, m⟩
end
noncomputable def lawT : FT := fun ds φ => ∃ ns : List Int, ds = [.scr ns] /\ ns.length <= 63 /\ φ (dv (.bl true))
theorem walkD {l : PySem.W.OpenLaw} {q : Program} {loose : List Str} {XP : (Str -> Option Value) -> Heap -> Prop} {YP : World -> Heap -> Prop} {d : DefRec} {K : Params -> PySem.W.Frag} {x : Str} {k : Nat} (hn : l.most = some 63) (hdf : d.params.defaults = []) (hr : Room k callerA)
    (hY : ∀ (w : World) (h : Heap), YP w h -> (K w.params).In h)
    (F : ∀ (w : World) (mg : Str -> Option Value) (fa : Addr) (h : Heap), (K w.params).In h -> h.Ns mainGlobals mg -> mg d.name = some (.ref fa) ->
      ∃ fd : FuncData, (∀ (s : Shared) (u : Value), BindsTo s fd ⟨[u], []⟩ [(x, u)]) /\ ∀ base : Heap, (K w.params).In base -> base.Ns mainGlobals mg -> FnOk l.prog w (K w.params) mg base CX0 k fa fd [x] (spD (K w.params) 1 lawT)) :
    PySem.W.WalkO q loose XP YP l.row.toRowW d [] (fun f vs => PySem.call f vs) :=
  L2.walk_of (n := 63) (k := k) (x := x) (CX := fun _ => CX0) (sp := fun w => spD (K w.params) 1 lawT) hn (by decide) hdf hr hY F (fun w H a ns hl ho hS => by
    refine ⟨[.scr ns], fun r => r = dv (.bl true), rfl, ⟨.ref a, [], rfl, ⟨a, rfl, ?_⟩, rfl⟩, ⟨ns, rfl, hl, rfl⟩, fun v r H' s rv p e => by subst e; exact rv⟩
    rcases hS with (h | ⟨o, h⟩) | h
    · rcases ho a with z | ⟨o, xs, z⟩
      · rw [z] at h; cases h
      · rw [z] at h; cases h
    · exact .inl ⟨o, h⟩
    · exact .inr h) fun _ _ _ _ _ z => z
end DL
namespace L3
open PySem PySem.Spec PyProof.Rows
section
variable {P : Program} {w : World} {A : Around} {E : Value -> Shared -> Prop} {s : Shared}
theorem nextT_item {it l : Addr} {i : Nat} {xs : Array Value} {x : Value} {Q : Value -> Shared -> Prop} (hi : s.heap.IsTupleIter it l i) (hl : s.heap.IsTuple l xs) (hx : xs[i]? = some x)
    (hQ : ∀ g, g.IsTupleIter it l (i + 1) -> Heap.SameBut it s.heap g -> Q x { s with heap := g }) : wpAny (model P w) A (Builtin.SmallTypes.nextOf (.ref it)) Q E s := by
  obtain ⟨o, ho, hc, hd⟩ := id hi
  obtain ⟨ol, hol, _, nl, hdl⟩ := hl
  unfold Builtin.SmallTypes.nextOf
  refine wpAny_bind (wpAny_callSpecial?_slot (name := Str.ofString "__next__") hi.typeIs F.slot_tuple_iterator_next (wpAny_call_entry F.slot_tuple_iterator_next hi.typeIs F.entry_tuple_iterator_next ?_ (F.args_tuple_iterator_next_1 _)))
  show wpAny _ _ (field (.ref it) 0 >>= _) _ _ s
  refine wpAny_bind (wpAny_field ho hd (x := .ref l) rfl ?_)
  show wpAny _ _ (if (Value.ref l == Value.none) = true then _ else _) _ _ s
  rw [if_neg (show ¬ ((Value.ref l == Value.none) = true) from Bool.false_ne_true)]
  show wpAny _ _ (field (.ref it) 1 >>= _) _ _ s
  refine wpAny_bind (wpAny_field ho hd (x := .int i 0) rfl ?_)
  show wpAny _ _ (seqItems? (.ref l) >>= _) _ _ s
  refine wpAny_bind (wpAny_seqItems hol hdl ?_)
  simp only [Int.toNat_natCast, hx]
  refine wpAny_bind (wpAny_setField ho hd (by simp) (wpAny_pure ⟨x, rfl, wpAny_pure (hQ _ ⟨_, Heap.get?_update_self _ ho (Obj.isFreed_of_fields (Obj.data_mapFields hd _)), (Obj.cls_mapFields ..).trans hc, ?_⟩ (Heap.SameBut.update ..))⟩))
  rw [Obj.data_mapFields hd]
  simp [rawInt]
theorem nextT_end {it l : Addr} {i : Nat} {xs : Array Value} {Q : Value -> Shared -> Prop} (hh : A.handled = none) (hi : s.heap.IsTupleIter it l i) (hl : s.heap.IsTuple l xs) (hx : xs[i]? = none)
    (hE : ∀ g e, Heap.ExtBut it s.heap g -> (∃ o, g.get? e = some o /\ o.cls = .type "StopIteration") -> E (.ref e) { s with heap := g }) : wpAny (model P w) A (Builtin.SmallTypes.nextOf (.ref it)) Q E s := by
  obtain ⟨o, ho, hc, hd⟩ := id hi
  obtain ⟨ol, hol, _, nl, hdl⟩ := hl
  unfold Builtin.SmallTypes.nextOf
  refine wpAny_bind (wpAny_callSpecial?_slot (name := Str.ofString "__next__") hi.typeIs F.slot_tuple_iterator_next (wpAny_call_entry F.slot_tuple_iterator_next hi.typeIs F.entry_tuple_iterator_next ?_ (F.args_tuple_iterator_next_1 _)))
  show wpAny _ _ (field (.ref it) 0 >>= _) _ _ s
  refine wpAny_bind (wpAny_field ho hd (x := .ref l) rfl ?_)
  show wpAny _ _ (if (Value.ref l == Value.none) = true then _ else _) _ _ s
  rw [if_neg (show ¬ ((Value.ref l == Value.none) = true) from Bool.false_ne_true)]
  show wpAny _ _ (field (.ref it) 1 >>= _) _ _ s
  refine wpAny_bind (wpAny_field ho hd (x := .int i 0) rfl ?_)
  show wpAny _ _ (seqItems? (.ref l) >>= _) _ _ s
  refine wpAny_bind (wpAny_seqItems hol hdl ?_)
  simp only [Int.toNat_natCast, hx]
  refine wpAny_bind (wpAny_rule (wpAny_bind (wpAny_setField ho hd (by simp) ?_)))
  show wpAny _ _ (newExc (.type "StopIteration") [] >>= _) _ _ _
  refine wpAny_bind ?_
  simp only [newExc, newTuple]
  refine wpAny_bind (wpAny_newObj_type ?_ (by size_fits))
  refine wpAny_bind (m := firstArgMember _ _) (wpAny_of_eq (a := Value.none) (by first | rfl | (simp only [firstArgMember]; rfl)) ?_)
  refine wpAny_newObj_type ?_ (by size_fits)
  simp only [raiseNew]
  refine wpAny_bind (wpAny_handled ?_)
  first | rw [show A.in1.handled = none from hh] | rw [hh]
  exact wpAny_bind (wpAny_pure (wpAny_throw (hE _ _ (((Heap.SameBut.update ..).extBut.push _).push _) ⟨_, Heap.get?_push_size _ rfl, rfl⟩)))
noncomputable def SqAt (b : Bool) (h : Heap) (l : Addr) (xs : Array Value) : Prop := match b with
  | true => h.IsTuple l xs
  | false => h.IsList l xs
noncomputable def ItAt (b : Bool) (h : Heap) (it l : Addr) (i : Nat) : Prop := match b with
  | true => h.IsTupleIter it l i
  | false => h.IsListIter it l i
theorem SqAt.at {b : Bool} {h g : Heap} {l : Addr} {xs : Array Value} (x : SqAt b h l xs) (k : ∀ o, h.get? l = some o -> g.get? l = some o) : SqAt b g l xs := by
  cases b with
  | true => exact Heap.IsTuple.at (show h.IsTuple l xs from x) k
  | false => exact Heap.IsList.at (show h.IsList l xs from x) k
theorem ItAt.at {b : Bool} {h g : Heap} {it l : Addr} {i : Nat} (x : ItAt b h it l i) (k : ∀ o, h.get? it = some o -> g.get? it = some o) : ItAt b g it l i := by
  cases b with
  | true => exact Heap.IsTupleIter.at (show h.IsTupleIter it l i from x) k
  | false => exact Heap.IsListIter.at (show h.IsListIter it l i from x) k
theorem nextK_item {b : Bool} {it l : Addr} {i : Nat} {xs : Array Value} {x : Value} {Q : Value -> Shared -> Prop} (hi : ItAt b s.heap it l i) (hl : SqAt b s.heap l xs) (hx : xs[i]? = some x)
    (hQ : ∀ g, ItAt b g it l (i + 1) -> Heap.SameBut it s.heap g -> Q x { s with heap := g }) : wpAny (model P w) A (Builtin.SmallTypes.nextOf (.ref it)) Q E s := by
  cases b with
  | true => exact nextT_item hi hl hx hQ
  | false => exact wpAny_nextOf_list_item hi hl hx hQ
theorem nextK_end {b : Bool} {it l : Addr} {i : Nat} {xs : Array Value} {Q : Value -> Shared -> Prop} (hh : A.handled = none) (hi : ItAt b s.heap it l i) (hl : SqAt b s.heap l xs) (hx : xs[i]? = none)
    (hE : ∀ g e, Heap.ExtBut it s.heap g -> (∃ o, g.get? e = some o /\ o.cls = .type "StopIteration") -> E (.ref e) { s with heap := g }) : wpAny (model P w) A (Builtin.SmallTypes.nextOf (.ref it)) Q E s := by
  cases b with
  | true => exact nextT_end hh hi hl hx hE
  | false => exact wpAny_nextOf_list_end hh hi hl hx hE
structure ZAt (b1 b2 : Bool) (g : Heap) (z ti to i1 i2 l1 l2 : Addr) (f : Value) (k : Nat) : Prop where
  zz : IsZip g z ti to f
  its : IsPair g ti (.ref i1) (.ref i2)
  out : ∃ a b, IsPair g to a b
  one : ItAt b1 g i1 l1 k
  two : ItAt b2 g i2 l2 k
structure ZNe (z ti to i1 i2 : Addr) : Prop where
  ab : ti ≠ z
  ac : to ≠ z
  ad : i1 ≠ z
  ae : i2 ≠ z
  bc : ti ≠ to
  bd : ti ≠ i1
  be : ti ≠ i2
  cd : to ≠ i1
  ce : to ≠ i2
  de : i1 ≠ i2
noncomputable def ZOff (z to i1 i2 c : Addr) : Prop := c ≠ z /\ c ≠ to /\ c ≠ i1 /\ c ≠ i2
theorem zip_item {b1 b2 : Bool} {z ti to i1 i2 l1 l2 : Addr} {k : Nat} {xs ys : Array Value} {x y : Value} {Q : Value -> Shared -> Prop} (D : ZNe z ti to i1 i2) (d1 : ZOff z to i1 i2 l1) (d2 : ZOff z to i1 i2 l2) (Z : ZAt b1 b2 s.heap z ti to i1 i2 l1 l2 .none k)
    (t1 : SqAt b1 s.heap l1 xs) (t2 : SqAt b2 s.heap l2 ys) (hx : xs[k]? = some x) (hy : ys[k]? = some y)
    (hQ : ∀ g, ZAt b1 b2 g z ti to i1 i2 l1 l2 (rawInt s.heap.objs.size) (k + 1) -> IsPair g s.heap.objs.size x y -> (∀ c o, ZOff z to i1 i2 c -> s.heap.get? c = some o -> g.get? c = some o) -> Q (.ref s.heap.objs.size) { s with heap := g }) :
    wpAny (model P w) A (Builtin.«zip.__next__» ⟨[.ref z], []⟩) (fun fin s' => ∃ v, fin = .done (.ret v) /\ Q v s') E s := by
  obtain ⟨hz, hti, ⟨a, b, hto⟩, h1, h2⟩ := Z
  show wpAny _ _ (field (.ref z) 2 >>= _) _ _ _
  refine wpAny_bind (wpAny_field hz rfl (x := .bool false) rfl ?_)
  show wpAny _ _ (field (.ref z) 3 >>= _) _ _ _
  refine wpAny_bind (wpAny_field hz rfl (x := .ref ti) rfl ?_)
  refine wpAny_bind (wpAny_seqItems hti rfl ?_)
  show wpAny _ _ (Builtin.SmallTypes.ownedTupleIsFree (.ref z) >>= _) _ _ _
  refine wpAny_bind ?_
  unfold Builtin.SmallTypes.ownedTupleIsFree
  refine wpAny_bind (wpAny_field hz rfl (x := .none) rfl (wpAny_pure ?_))
  simp only [if_true]
  refine wpAny_bind (wpAny_rule ?_)
  refine wpAny_bind (wpAny_field hz rfl (x := .ref to) rfl ?_)
  refine wpAny_bind (wpAny_setField_rec hz (by simp) fun g1 z1 s1 => ?_)
  replace z1 : IsZip g1 z ti to .ellipsis := z1
  refine wpAny_bind ?_
  simp only [List.zipIdx_cons, List.zipIdx_nil, List.forIn_cons, List.forIn_nil]
  refine wpAny_bind (wpAny_bind (wpAny_onRaise ?_))
  show wpAny _ _ (Builtin.SmallTypes.nextOf (.ref i1) >>= _) _ _ _
  refine wpAny_bind (nextK_item (h1.at fun o e => s1.extBut _ o D.ad e) (t1.at fun o e => s1.extBut _ o d1.1 e) hx fun g2 p2 s2 => wpAny_pure ?_)
  have to2 : IsPair g2 to a b := s2.extBut _ _ D.cd (s1.extBut _ _ D.ac hto)
  refine wpAny_bind (wpAny_seqItems to2 rfl (wpAny_bind (wpAny_updateSeq_pair to2 fun g3 to3 s3 => ?_)))
  replace to3 : IsPair g3 to x b := to3
  refine wpAny_bind (wpAny_letGo (wpAny_pure (wpAny_bind (wpAny_bind (wpAny_onRaise ?_)))))
  show wpAny _ _ (Builtin.SmallTypes.nextOf (.ref i2) >>= _) _ _ _
  refine wpAny_bind (nextK_item (h2.at fun o e => s3.extBut _ o D.ce.symm (s2.extBut _ o D.de.symm (s1.extBut _ o D.ae e))) (t2.at fun o e => s3.extBut _ o d2.2.1 (s2.extBut _ o d2.2.2.1 (s1.extBut _ o d2.1 e))) hy fun g4 p4 s4 => wpAny_pure ?_)
  have to4 : IsPair g4 to x b := s4.extBut _ _ D.ce to3
  refine wpAny_bind (wpAny_seqItems to4 rfl (wpAny_bind (wpAny_updateSeq_pair to4 fun g5 to5 s5 => ?_)))
  replace to5 : IsPair g5 to x y := to5
  refine wpAny_bind (wpAny_letGo (wpAny_pure (wpAny_pure (wpAny_bind (wpAny_seqItems to5 rfl (wpAny_bind (wpAny_newTuple ?_)))))))
  have sz : g5.objs.size = s.heap.objs.size := by rw [s5.1, s4.1, s3.1, s2.1, s1.1]
  have z5 : IsZip g5 z ti to .ellipsis := s5.extBut _ _ D.ac.symm (s4.extBut _ _ D.ae.symm (s3.extBut _ _ D.ac.symm (s2.extBut _ _ D.ad.symm z1)))
  have kp5 : ∀ c o, ZOff z to i1 i2 c -> s.heap.get? c = some o -> g5.get? c = some o := fun c o q e => s5.extBut _ _ q.2.1 (s4.extBut _ _ q.2.2.2 (s3.extBut _ _ q.2.1 (s2.extBut _ _ q.2.2.1 (s1.extBut _ _ q.1 e))))
  have q1 : ItAt b1 g5 i1 l1 (k + 1) := p2.at fun o e => s5.extBut _ o D.cd.symm (s4.extBut _ o D.de (s3.extBut _ o D.cd.symm e))
  have q2 : ItAt b2 g5 i2 l2 (k + 1) := p4.at fun o e => s5.extBut _ o D.ce.symm e
  have lz : z < g5.objs.size := Heap.lt_size z5
  show wpAny _ _ (Builtin.SmallTypes.ownedTupleHandOut (.ref z) (.ref g5.objs.size) >>= _) _ _ _
  refine wpAny_bind ?_
  unfold Builtin.SmallTypes.ownedTupleHandOut
  have z6 : IsZip (g5.push { cls := .type "tuple", data := .seq #[x, y] }) z ti to .ellipsis := Heap.get?_push_of_some _ z5
  refine wpAny_bind (wpAny_setField_rec z6 (by simp) fun g7 z7 s7 => ?_)
  replace z7 : IsZip g7 z ti to (rawInt g5.objs.size) := z7
  refine wpAny_setField_rec z7 (by simp) fun g8 z8 s8 => ?_
  replace z8 : IsZip g8 z ti to (rawInt g5.objs.size) := z8
  have up : ∀ c o, c ≠ z -> g5.get? c = some o -> g8.get? c = some o := fun c o c1 e => s8.extBut _ _ c1 (s7.extBut _ _ c1 (Heap.get?_push_of_some _ e))
  have pr : IsPair g8 g5.objs.size x y := s8.extBut _ _ (Nat.ne_of_gt lz) (s7.extBut _ _ (Nat.ne_of_gt lz) (Heap.get?_push_size _ rfl))
  rw [sz] at z8 pr
  refine wpAny_pure ⟨_, rfl, ?_⟩
  show Q (.ref g5.objs.size) _
  rw [sz]
  exact hQ g8 ⟨z8, up _ _ D.ab (kp5 _ _ ⟨D.ab, D.bc, D.bd, D.be⟩ hti), ⟨_, _, up _ _ D.ac to5⟩, q1.at fun o e => up _ o D.ad e, q2.at fun o e => up _ o D.ae e⟩ pr fun c o q e => up c o q.1 (kp5 c o q e)
theorem zip_end {b1 b2 : Bool} {z ti to i1 i2 l1 l2 : Addr} {k : Nat} {xs ys : Array Value} {Q : Fin -> Shared -> Prop} (hh : A.handled = none) (D : ZNe z ti to i1 i2) (d1 : ZOff z to i1 i2 l1) (d2 : ZOff z to i1 i2 l2) (Z : ZAt b1 b2 s.heap z ti to i1 i2 l1 l2 .none k)
    (t1 : SqAt b1 s.heap l1 xs) (t2 : SqAt b2 s.heap l2 ys) (hend : xs[k]? = none \/ ys[k]? = none)
    (hE : ∀ g e, (∀ c o, ZOff z to i1 i2 c -> s.heap.get? c = some o -> g.get? c = some o) -> (∃ o, g.get? e = some o /\ o.cls = .type "StopIteration") -> E (.ref e) { s with heap := g }) :
    wpAny (model P w) A (Builtin.«zip.__next__» ⟨[.ref z], []⟩) Q E s := by
  obtain ⟨hz, hti, ⟨a, b, hto⟩, h1, h2⟩ := Z
  show wpAny _ _ (field (.ref z) 2 >>= _) _ _ _
  refine wpAny_bind (wpAny_field hz rfl (x := .bool false) rfl ?_)
  show wpAny _ _ (field (.ref z) 3 >>= _) _ _ _
  refine wpAny_bind (wpAny_field hz rfl (x := .ref ti) rfl ?_)
  refine wpAny_bind (wpAny_seqItems hti rfl ?_)
  show wpAny _ _ (Builtin.SmallTypes.ownedTupleIsFree (.ref z) >>= _) _ _ _
  refine wpAny_bind ?_
  unfold Builtin.SmallTypes.ownedTupleIsFree
  refine wpAny_bind (wpAny_field hz rfl (x := .none) rfl (wpAny_pure ?_))
  simp only [if_true]
  refine wpAny_bind (wpAny_rule ?_)
  refine wpAny_bind (wpAny_field hz rfl (x := .ref to) rfl ?_)
  refine wpAny_bind (wpAny_setField_rec hz (by simp) fun g1 z1 s1 => ?_)
  replace z1 : IsZip g1 z ti to .ellipsis := z1
  refine wpAny_bind ?_
  simp only [List.zipIdx_cons, List.zipIdx_nil, List.forIn_cons, List.forIn_nil]
  refine wpAny_bind (wpAny_bind (wpAny_onRaise ?_))
  show wpAny _ _ (Builtin.SmallTypes.nextOf (.ref i1) >>= _) _ _ _
  cases hx : xs[k]? with
  | none =>
    refine wpAny_bind (nextK_end hh (h1.at fun o e => s1.extBut _ o D.ad e) (t1.at fun o e => s1.extBut _ o d1.1 e) hx fun g2 e s2 he => ?_)
    obtain ⟨oe, hoe, hce⟩ := he
    have z2 : IsZip g2 z ti to .ellipsis := s2 _ _ D.ad.symm z1
    have ez : e ≠ z := fun x => by subst x; rw [z2] at hoe; cases hoe; simp at hce
    exact wpAny_setField_rec z2 (by simp) fun g3 _ s3 => hE g3 e (fun c o q x => s3.extBut _ _ q.1 (s2 _ _ q.2.2.1 (s1.extBut _ _ q.1 x))) ⟨oe, s3.extBut _ _ ez hoe, hce⟩
  | some x =>
    have hy : ys[k]? = none := by rcases hend with h | h; rw [hx] at h; cases h; exact h
    refine wpAny_bind (nextK_item (h1.at fun o e => s1.extBut _ o D.ad e) (t1.at fun o e => s1.extBut _ o d1.1 e) hx fun g2 p2 s2 => wpAny_pure ?_)
    have to2 : IsPair g2 to a b := s2.extBut _ _ D.cd (s1.extBut _ _ D.ac hto)
    refine wpAny_bind (wpAny_seqItems to2 rfl (wpAny_bind (wpAny_updateSeq_pair to2 fun g3 to3 s3 => ?_)))
    refine wpAny_bind (wpAny_letGo (wpAny_pure (wpAny_bind (wpAny_bind (wpAny_onRaise ?_)))))
    show wpAny _ _ (Builtin.SmallTypes.nextOf (.ref i2) >>= _) _ _ _
    refine wpAny_bind (nextK_end hh (h2.at fun o e => s3.extBut _ o D.ce.symm (s2.extBut _ o D.de.symm (s1.extBut _ o D.ae e))) (t2.at fun o e => s3.extBut _ o d2.2.1 (s2.extBut _ o d2.2.2.1 (s1.extBut _ o d2.1 e))) hy fun g4 e s4 he => ?_)
    obtain ⟨oe, hoe, hce⟩ := he
    have z4 : IsZip g4 z ti to .ellipsis := s4 _ _ D.ae.symm (s3.extBut _ _ D.ac.symm (s2.extBut _ _ D.ad.symm z1))
    have ez : e ≠ z := fun x => by subst x; rw [z4] at hoe; cases hoe; simp at hce
    exact wpAny_setField_rec z4 (by simp) fun g5 _ s5 => hE g5 e (fun c o q x => s5.extBut _ _ q.1 (s4 _ _ q.2.2.2 (s3.extBut _ _ q.2.1 (s2.extBut _ _ q.2.2.1 (s1.extBut _ _ q.1 x))))) ⟨oe, s5.extBut _ _ ez hoe, hce⟩
theorem next_item {b1 b2 : Bool} {z ti to i1 i2 l1 l2 : Addr} {k : Nat} {xs ys : Array Value} {x y : Value} {Q : Option Value -> Shared -> Prop} (D : ZNe z ti to i1 i2) (d1 : ZOff z to i1 i2 l1) (d2 : ZOff z to i1 i2 l2) (Z : ZAt b1 b2 s.heap z ti to i1 i2 l1 l2 .none k)
    (t1 : SqAt b1 s.heap l1 xs) (t2 : SqAt b2 s.heap l2 ys) (hx : xs[k]? = some x) (hy : ys[k]? = some y)
    (hQ : ∀ g, ZAt b1 b2 g z ti to i1 i2 l1 l2 (rawInt s.heap.objs.size) (k + 1) -> IsPair g s.heap.objs.size x y -> (∀ c o, ZOff z to i1 i2 c -> s.heap.get? c = some o -> g.get? c = some o) -> Q (some (.ref s.heap.objs.size)) { s with heap := g }) :
    wpAny (model P w) A (pyNext (.ref z)) Q E s := by
  have ty : s.TypeIs (.ref z) "zip" := ⟨_, Z.zz, rfl⟩
  unfold pyNext
  exact wpAny_bind (wpAny_attempt (wpAny_callSpecial?_slot (name := Str.ofString "__next__") ty F.slot_zip_next (wpAny_call_entry F.slot_zip_next ty F.entry_zip_next (zip_item D d1 d2 Z t1 t2 hx hy fun g a b c => wpAny_pure (hQ g a b c)) (F.args_zip_next_1 _))))
theorem next_end {b1 b2 : Bool} {z ti to i1 i2 l1 l2 : Addr} {k : Nat} {xs ys : Array Value} {Q : Option Value -> Shared -> Prop} (hh : A.handled = none) (D : ZNe z ti to i1 i2) (d1 : ZOff z to i1 i2 l1) (d2 : ZOff z to i1 i2 l2) (Z : ZAt b1 b2 s.heap z ti to i1 i2 l1 l2 .none k)
    (t1 : SqAt b1 s.heap l1 xs) (t2 : SqAt b2 s.heap l2 ys) (hend : xs[k]? = none \/ ys[k]? = none)
    (hQ : ∀ g, (∀ c o, ZOff z to i1 i2 c -> s.heap.get? c = some o -> g.get? c = some o) -> Q none { s with heap := g }) : wpAny (model P w) A (pyNext (.ref z)) Q E s := by
  have ty : s.TypeIs (.ref z) "zip" := ⟨_, Z.zz, rfl⟩
  unfold pyNext
  refine wpAny_bind (wpAny_attempt (wpAny_callSpecial?_slot (name := Str.ofString "__next__") ty F.slot_zip_next (wpAny_call_entry F.slot_zip_next ty F.entry_zip_next (zip_end hh D d1 d2 Z t1 t2 hend fun g e kp he => ?_) (F.args_zip_next_1 _))))
  obtain ⟨o, ho, hc⟩ := he
  refine wpAny_bind (wpAny_isInstance (T := "StopIteration") (b := true) ⟨o, ho, hc⟩ isSubtype_stop ?_)
  exact wpAny_pure (hQ _ kp)
noncomputable def itName (b : Bool) : String := match b with
  | true => "tuple_iterator"
  | false => "list_iterator"
noncomputable abbrev zh1 (b1 : Bool) (h : Heap) (l1 : Addr) : Heap := h.push { cls := .type (itName b1), data := .fields #[.ref l1, .int 0 0] }
noncomputable abbrev zh2 (b1 b2 : Bool) (h : Heap) (l1 l2 : Addr) : Heap := (zh1 b1 h l1).push { cls := .type (itName b2), data := .fields #[.ref l2, .int 0 0] }
noncomputable abbrev zh3 (b1 b2 : Bool) (h : Heap) (l1 l2 : Addr) : Heap := (zh2 b1 b2 h l1 l2).push { cls := .type "tuple", data := .seq #[.ref h.objs.size, .ref (zh1 b1 h l1).objs.size] }
noncomputable abbrev zh4 (b1 b2 : Bool) (h : Heap) (l1 l2 : Addr) : Heap := (zh3 b1 b2 h l1 l2).push { cls := .type "tuple", data := .seq #[.none, .none] }
noncomputable abbrev zh5 (b1 b2 : Bool) (h : Heap) (l1 l2 : Addr) : Heap := (zh4 b1 b2 h l1 l2).push { cls := .type "zip", data := .fields #[.none, .bool false, .bool false, .ref (zh2 b1 b2 h l1 l2).objs.size, .ref (zh3 b1 b2 h l1 l2).objs.size] }
theorem zip_new (b1 b2 : Bool) (l1 l2 : Addr) (xs ys : Array Value) :
    Meets (Builtin.«zip.__new__» ⟨[.type "zip", .ref l1, .ref l2], []⟩) (fun _ R s => SqAt b1 s.heap l1 xs /\ SqAt b2 s.heap l2 ys /\ R (.ok (.ret (.ref (zh4 b1 b2 s.heap l1 l2).objs.size))) { s with heap := zh5 b1 b2 s.heap l1 l2 }) :=
  .of_wp fun prog w A R s h => by
    obtain ⟨hp, g, d, tk, os⟩ := s
    obtain ⟨a1, a2, h⟩ := h
    have hsub := sub_zip
    cases b1 <;> cases b2
    · have b1 : Heap.IsList (Shared.heap ⟨hp, g, d, tk, os⟩) l1 xs := a1
      have b2 : Heap.IsList (Shared.heap ⟨hp.push { cls := .type "list_iterator", data := .fields #[.ref l1, .int 0 0] }, g, d, tk, os⟩) l2 ys := Heap.IsList.push a2 _
      wp_walk using wpAny_pyIter_list b1, wpAny_pyIter_list b2
      exact ⟨_, rfl, h⟩
    · have b1 : Heap.IsList (Shared.heap ⟨hp, g, d, tk, os⟩) l1 xs := a1
      have b2 : Heap.IsTuple (Shared.heap ⟨hp.push { cls := .type "list_iterator", data := .fields #[.ref l1, .int 0 0] }, g, d, tk, os⟩) l2 ys := Heap.IsTuple.push a2 _
      wp_walk using wpAny_pyIter_list b1, wpAny_pyIter_tuple b2
      exact ⟨_, rfl, h⟩
    · have b1 : Heap.IsTuple (Shared.heap ⟨hp, g, d, tk, os⟩) l1 xs := a1
      have b2 : Heap.IsList (Shared.heap ⟨hp.push { cls := .type "tuple_iterator", data := .fields #[.ref l1, .int 0 0] }, g, d, tk, os⟩) l2 ys := Heap.IsList.push a2 _
      wp_walk using wpAny_pyIter_tuple b1, wpAny_pyIter_list b2
      exact ⟨_, rfl, h⟩
    · have b1 : Heap.IsTuple (Shared.heap ⟨hp, g, d, tk, os⟩) l1 xs := a1
      have b2 : Heap.IsTuple (Shared.heap ⟨hp.push { cls := .type "tuple_iterator", data := .fields #[.ref l1, .int 0 0] }, g, d, tk, os⟩) l2 ys := Heap.IsTuple.push a2 _
      wp_walk using wpAny_pyIter_tuple b1, wpAny_pyIter_tuple b2
      exact ⟨_, rfl, h⟩
theorem zip_call {b1 b2 : Bool} {l1 l2 : Addr} {xs ys : Array Value} {Q : Value -> Shared -> Prop} (t1 : SqAt b1 s.heap l1 xs) (t2 : SqAt b2 s.heap l2 ys)
    (h : ∀ g, ZAt b1 b2 g (s.heap.objs.size + 4) (s.heap.objs.size + 2) (s.heap.objs.size + 3) s.heap.objs.size (s.heap.objs.size + 1) l1 l2 .none 0 -> (∀ c o, s.heap.get? c = some o -> g.get? c = some o) -> Q (.ref (s.heap.objs.size + 4)) { s with heap := g }) :
    wpAny (model P w) A (call (.type "zip") [.ref l1, .ref l2]) Q E s := by
  refine callType_new F.called_zip (by decide) (F.typeCall_zip_2 _ _) (F.newCall_zip_2 _ _) (fun obj => F.args_object_init_3 obj _ _) F.entry_zip_new (zip_new b1 b2 l1 l2 xs ys) ⟨t1, t2, ?_⟩
  have n1 : (zh1 b1 s.heap l1).objs.size = s.heap.objs.size + 1 := Heap.size_push ..
  have n2 : (zh2 b1 b2 s.heap l1 l2).objs.size = s.heap.objs.size + 2 := by rw [Heap.size_push, n1]
  have n3 : (zh3 b1 b2 s.heap l1 l2).objs.size = s.heap.objs.size + 3 := by rw [Heap.size_push, n2]
  have n4 : (zh4 b1 b2 s.heap l1 l2).objs.size = s.heap.objs.size + 4 := by rw [Heap.size_push, n3]
  have g5 : (zh5 b1 b2 s.heap l1 l2).get? (zh4 b1 b2 s.heap l1 l2).objs.size = some _ := Heap.get?_push_size _ rfl
  have g4 : (zh5 b1 b2 s.heap l1 l2).get? (zh3 b1 b2 s.heap l1 l2).objs.size = some _ := Heap.get?_push_of_some _ (Heap.get?_push_size _ rfl)
  have g3 : (zh5 b1 b2 s.heap l1 l2).get? (zh2 b1 b2 s.heap l1 l2).objs.size = some _ := Heap.get?_push_of_some _ (Heap.get?_push_of_some _ (Heap.get?_push_size _ rfl))
  have g2 : (zh5 b1 b2 s.heap l1 l2).get? (zh1 b1 s.heap l1).objs.size = some _ := Heap.get?_push_of_some _ (Heap.get?_push_of_some _ (Heap.get?_push_of_some _ (Heap.get?_push_size _ rfl)))
  have g1 : (zh5 b1 b2 s.heap l1 l2).get? s.heap.objs.size = some _ := Heap.get?_push_of_some _ (Heap.get?_push_of_some _ (Heap.get?_push_of_some _ (Heap.get?_push_of_some _ (Heap.get?_push_size _ rfl))))
  show _ /\ _
  rw [n2, n3, n4] at g5
  rw [n1, n2] at g3
  rw [n3] at g4
  rw [n1] at g2
  rw [n4]
  exact ⟨⟨_, g5, rfl⟩, h _ ⟨g5, g3, ⟨_, _, g4⟩, (by cases b1 <;> exact ⟨_, g1, rfl, rfl⟩), (by cases b2 <;> exact ⟨_, g2, rfl, rfl⟩)⟩ fun c o e => Heap.get?_push_of_some _ (Heap.get?_push_of_some _ (Heap.get?_push_of_some _ (Heap.get?_push_of_some _ (Heap.get?_push_of_some _ e))))⟩
end
end L3
namespace L3
open PySem PySem.Spec L2
open PyProof.Rows hiding St
theorem ItAt.there {b : Bool} {h : Heap} {it l : Addr} {i : Nat} (x : ItAt b h it l i) : ∃ o, h.get? it = some o /\ ∀ v, o.data ≠ .cell v := by
  cases b with
  | true =>
    obtain ⟨o, e, c, d⟩ := (show h.IsTupleIter it l i from x)
    exact ⟨o, e, fun v q => by rw [d] at q; cases q⟩
  | false =>
    obtain ⟨o, e, c, d⟩ := (show h.IsListIter it l i from x)
    exact ⟨o, e, fun v q => by rw [d] at q; cases q⟩
noncomputable def SqK (b : Bool) (K : PySem.W.Frag) (H : Hp) (l : Addr) (xs : List V) : Prop := match b with
  | true => SqT K H l xs
  | false => SqL K H l xs
theorem sq_at {b : Bool} {X : Cx} {pins : List (Addr × Obj)} {σ : St} {H : Hp} {s : Shared} {l : Addr} {xs : List V} (I : Inv X pins σ H s) (h : SqK b X.K H l xs) : ∃ its, Vals xs its /\ SqAt b s.heap l its.toArray := by
  cases b with
  | true =>
    obtain ⟨its, r, p, _⟩ := I.tuple h
    exact ⟨its, r, (show s.heap.IsTuple l its.toArray from p)⟩
  | false =>
    obtain ⟨its, r, p, _⟩ := I.list h
    exact ⟨its, r, p.isList⟩
theorem sq_inj {b : Bool} {X : Cx} {pins : List (Addr × Obj)} {σ : St} {H : Hp} {s : Shared} {l : Addr} {xs ys : List V} (I : Inv X pins σ H s) (h : SqK b X.K H l xs) (h' : SqK b X.K H l ys) : xs = ys := by
  cases b with
  | true => exact I.tuple_inj h h'
  | false => exact I.list_inj h h'
theorem sq_off {b : Bool} {X : Cx} {pins : List (Addr × Obj)} {σ : St} {H : Hp} {s : Shared} {l c : Addr} {xs : List V} (I : Inv X pins σ H s) (h : SqK b X.K H l xs) (f : FpOk X pins H c) : l ≠ c := by
  have kc : ∀ {o : Obj}, X.K.lookup l = some o -> l ≠ c := fun {o} lk z => by
    subst z
    have e := I.ok.mod.kin _ _ lk
    rcases f.2.2.2.1 with q | q
    · exact I.ok.noex _ _ e q
    · exact absurd (Nat.lt_of_lt_of_le (Heap.lt_size e) I.ok.bsz) (Nat.not_lt.mpr q)
  cases b with
  | true =>
    rcases h with (h | ⟨o, h⟩) | ⟨o, its, n, lk, _⟩
    · exact ne_of_none h f.1
    · exact ne_of_none h f.1
    · exact kc lk
  | false =>
    rcases h with (h | ⟨o, h⟩) | ⟨o, its, n, lk, _⟩
    · exact ne_of_none h f.1
    · exact ne_of_none h f.1
    · exact kc lk
noncomputable def Itz (b1 b2 : Bool) (K : PySem.W.Frag) (l1 l2 : Addr) : It :=
  ⟨fun i H => ∃ xs ys x y, SqK b1 K H l1 xs /\ SqK b2 K H l2 ys /\ xs[i]? = some x /\ ys[i]? = some y,
   fun i H v H' => ∃ T x y, H T = none /\ v = .ref T /\ (∀ xs, SqK b1 K H l1 xs -> xs[i]? = some x) /\ (∀ ys, SqK b2 K H l2 ys -> ys[i]? = some y) /\ H' = upd H T (.tup [x, y]),
   fun i H => ∃ xs ys, SqK b1 K H l1 xs /\ SqK b2 K H l2 ys /\ (xs.length <= i \/ ys.length <= i)⟩
theorem turn_zip {P : Program} {w : World} {K : PySem.W.Frag} {es : List Expr} {kk : Nat} {tp : Pos} {b1 b2 : Bool} {z ti to i1 i2 l1 l2 : Addr} (D : ZNe z ti to i1 i2) :
    Turn P w K (.Tuple es kk tp) (Itz b1 b2 K l1 l2) [z, ti, to, i1, i2] z (fun i h => ZAt b1 b2 h z ti to i1 i2 l1 l2 .none i) where
  mem := by simp
  obj := fun i h Z b hb => by
    obtain ⟨hz, hti, ⟨u, v, hto⟩, h1, h2⟩ := Z
    obtain ⟨o1, e1, d1⟩ := h1.there
    obtain ⟨o2, e2, d2⟩ := h2.there
    simp only [List.mem_cons, List.not_mem_nil, or_false] at hb
    rcases hb with rfl | rfl | rfl | rfl | rfl
    · exact ⟨_, hz, fun v q => (by cases q)⟩
    · exact ⟨_, hti, fun v q => (by cases q)⟩
    · exact ⟨_, hto, fun v q => (by cases q)⟩
    · exact ⟨o1, e1, fun v q => d1 v q⟩
    · exact ⟨o2, e2, fun v q => d2 v q⟩
  keep := fun i h h' Z k => by
    obtain ⟨hz, hti, ⟨u, v, hto⟩, h1, h2⟩ := Z
    exact ⟨k z (by simp) _ hz, k ti (by simp) _ hti, ⟨u, v, k to (by simp) _ hto⟩, h1.at fun o e => k i1 (by simp) o e, h2.at fun o e => k i2 (by simp) o e⟩
  item := by
    intro X hP hw hK hc i pins s σ H E I hf Z hg
    subst hP hw hK
    obtain ⟨xs, ys, x, y, e1, e2, hx, hy⟩ := hg
    obtain ⟨its1, r1, g1⟩ := sq_at I e1
    obtain ⟨its2, r2, g2⟩ := sq_at I e2
    obtain ⟨u, hu, ru⟩ := r1.get hx
    obtain ⟨v, hv, rv⟩ := r2.get hy
    have fz := hf z (by simp)
    have fto := hf to (by simp)
    have f1 := hf i1 (by simp)
    have f2 := hf i2 (by simp)
    have off : ∀ b ho, H b = some ho -> ZOff z to i1 i2 b := fun b ho e => ⟨ne_of_none e fz.1, ne_of_none e fto.1, ne_of_none e f1.1, ne_of_none e f2.1⟩
    refine next_item D ⟨sq_off I e1 fz, sq_off I e1 fto, sq_off I e1 f1, sq_off I e1 f2⟩ ⟨sq_off I e2 fz, sq_off I e2 fto, sq_off I e2 f1, sq_off I e2 f2⟩ Z g1 g2 (x := u) (y := v) (by simpa using hu) (by simpa using hv) fun g Z2 pr kp => ?_
    have hn : H s.heap.objs.size = none := I.fresh
    have hout : ∀ b, b ∉ [z, to, i1, i2] -> ZOff z to i1 i2 b := fun b hb => by
      simp only [List.mem_cons, List.not_mem_nil, or_false, not_or] at hb
      exact hb
    have un : Un (frs X.stack) [z, to, i1, i2] H (upd H s.heap.objs.size (.tup [x, y])) s.heap g :=
      ⟨fun b o q _ _ hx => kp b o (hout b hx) q, fun b o q _ _ hx => ⟨o.slots, kp b o (hout b hx) q⟩, fun b o q n _ => by rw [upd_ne (Nat.ne_of_lt (Heap.lt_size q))]; exact n, fun b o q hx => ⟨o, kp b o (hout b hx) q⟩,
       fun b zs q => by rw [upd_ne (ne_of_none q hn)]; exact q, fun b o zs q => by rw [upd_ne (ne_of_none q hn)]; exact q, fun b ps q => ⟨#[], by rw [upd_ne (ne_of_none q hn), q]; simp⟩⟩
    have hok : HOk X.prog X.w (upd H s.heap.objs.size (.tup [x, y])) g := fun b o e => by
      by_cases hb : b = s.heap.objs.size
      · subst hb
        rw [upd_same] at e
        cases e
        refine ⟨by simp only [List.length_cons, List.length_nil]; rw [sizeLine_eq]; decide, [u, v], .cons ru (.cons rv .nil), ⟨_, pr, rfl, _, rfl⟩, _, pr, rfl⟩
      · rw [upd_ne hb] at e
        refine (I.hok b o e).stay (fun c ob hc q => kp c ob ?_ q) (fun c q => by rw [upd_ne (ne_of_none q hn)]; exact q) fun c zs q => by rw [upd_ne (ne_of_none q hn)]; exact q
        rcases hc with rfl | hc
        · exact off _ _ e
        · exact off _ _ hc
    have I2 : Inv X pins σ (upd H s.heap.objs.size (.tup [x, y])) { s with heap := g } := I.call' (s' := { s with heap := g }) (ch := [z, to, i1, i2]) rfl un hok I.bare fun b hb => by
      have hb' : b ∈ [z, ti, to, i1, i2] := by
        simp only [List.mem_cons, List.not_mem_nil, or_false] at hb ⊢
        rcases hb with rfl | rfl | rfl | rfl <;> simp
      have q := hf b hb'
      exact ⟨q.2.2.2.1, q.2.1, q.2.2.2.2.1, q.2.2.2.2.2⟩
    have none5 : ∀ b ∈ [z, ti, to, i1, i2], upd H s.heap.objs.size (.tup [x, y]) b = none := fun b hb => by
      have lb : b < s.heap.objs.size := by
        obtain ⟨hz, hti, ⟨u, v, hto⟩, h1, h2⟩ := Z
        obtain ⟨_, q1, _⟩ := h1.there
        obtain ⟨_, q2, _⟩ := h2.there
        simp only [List.mem_cons, List.not_mem_nil, or_false] at hb
        rcases hb with rfl | rfl | rfl | rfl | rfl
        · exact Heap.lt_size hz
        · exact Heap.lt_size hti
        · exact Heap.lt_size hto
        · exact Heap.lt_size q1
        · exact Heap.lt_size q2
      rw [upd_ne (Nat.ne_of_lt lb)]
      exact (hf b hb).1
    refine ⟨_, rfl, wpAny_letOwnedTupleGo_zip Z2.zz fun g2 z3 sb => ?_⟩
    refine ⟨.ref s.heap.objs.size, _, I2.turned (t' := s.toks) (fun b o hb e => sb.extBut b o hb e) (none5 z (by simp)) fz.2.1 fz.2.2.2.1 fz.2.2.2.2.1 fz.2.2.2.2.2, rfl, ⟨_, x, y, hn, rfl, (fun zs q => by rw [<- sq_inj I e1 q]; exact hx), (fun zs q => by rw [<- sq_inj I e2 q]; exact hy), rfl⟩, ?_, none5⟩
    obtain ⟨_, hti, ⟨u2, v2, hto⟩, h1, h2⟩ := Z2
    exact ⟨z3, sb.extBut _ _ D.ab hti, ⟨u2, v2, sb.extBut _ _ D.ac hto⟩, h1.at fun o e => sb.extBut _ o D.ad e, h2.at fun o e => sb.extBut _ o D.ae e⟩
  done := by
    intro X hP hw hK hc i pins s σ H E I hf Z hg
    subst hP hw hK
    obtain ⟨xs, ys, e1, e2, hend⟩ := hg
    obtain ⟨its1, r1, g1⟩ := sq_at I e1
    obtain ⟨its2, r2, g2⟩ := sq_at I e2
    have fz := hf z (by simp)
    have fto := hf to (by simp)
    have f1 := hf i1 (by simp)
    have f2 := hf i2 (by simp)
    have off : ∀ b ho, H b = some ho -> ZOff z to i1 i2 b := fun b ho e => ⟨ne_of_none e fz.1, ne_of_none e fto.1, ne_of_none e f1.1, ne_of_none e f2.1⟩
    have l1' := r1.length
    have l2' := r2.length
    refine next_end (I.ok.hd hc) D ⟨sq_off I e1 fz, sq_off I e1 fto, sq_off I e1 f1, sq_off I e1 f2⟩ ⟨sq_off I e2 fz, sq_off I e2 fto, sq_off I e2 f1, sq_off I e2 f2⟩ Z g1 g2 ?_ fun g kp => ?_
    · rcases hend with q | q
      · exact .inl (by simp; omega)
      · exact .inr (by simp; omega)
    · refine ⟨rfl, ?_⟩
      have hout : ∀ b, b ∉ [z, to, i1, i2] -> ZOff z to i1 i2 b := fun b hb => by
        simp only [List.mem_cons, List.not_mem_nil, or_false, not_or] at hb
        exact hb
      have un : Un (frs X.stack) [z, to, i1, i2] H H s.heap g :=
        ⟨fun b o q _ _ hx => kp b o (hout b hx) q, fun b o q _ _ hx => ⟨o.slots, kp b o (hout b hx) q⟩, fun b o q n _ => n, fun b o q hx => ⟨o, kp b o (hout b hx) q⟩,
         fun b zs q => q, fun b o zs q => q, fun b ps q => ⟨#[], by rw [q]; simp⟩⟩
      refine I.call' (s' := { s with heap := g }) (ch := [z, to, i1, i2]) rfl un (fun b o e => (I.hok b o e).stay (fun c ob hc q => kp c ob ?_ q) (fun c q => q) fun c zs q => q) I.bare fun b hb => ?_
      · rcases hc with rfl | hc
        · exact off _ _ e
        · exact off _ _ hc
      · have hb' : b ∈ [z, ti, to, i1, i2] := by
          simp only [List.mem_cons, List.not_mem_nil, or_false] at hb ⊢
          rcases hb with rfl | rfl | rfl | rfl <;> simp
        have q := hf b hb'
        exact ⟨q.2.2.2.1, q.2.1, q.2.2.2.2.1, q.2.2.2.2.2⟩
  self := fun _ _ _ _ _ Z h => wpAny_pyIter_zip Z.zz h
theorem boot_zip' : bootBuiltins "zip" = some (.type "zip") := by kernel_rfl
noncomputable def iZip (K : PySem.W.Frag) (ta : TA) : TI := fun σ H R => ta σ H fun vs H1 => ∃ b1 b2 l1 l2 xs ys, vs = [.ref l1, .ref l2] /\ SqK b1 K H1 l1 xs /\ SqK b2 K H1 l2 ys /\ R (Itz b1 b2 K l1 l2) H1
theorem pi_zip {X : Cx} {es : List Expr} {kk : Nat} {tp : Pos} {a b : Expr} {ta : TA} {p pos : Pos} (hg : Gl X "zip") (hm : X.mg "zip" = none) (ha : PA X [a, b] ta)
    (he : starEach [a, b] X.env = (false, eval a X.env) :: starEach [b] X.env := by rfl) (hpl : (backTo pos (starEach [b] X.env)).any (·.1) = false := by rfl) : PI X (.Tuple es kk tp) (.Call (.Name "zip" p) [a, b] [] pos) (iZip X.K ta) := by
  intro pins s σ H R I h
  refine wpAny_Call_Name_kw (ld_blt I hg hm boot_zip' ?_ (by decide) (by decide))
  refine PyProof.Rows.callWith_type1 (thn (ha pos pins s σ H _ I h) fun us s1 ⟨vs, H1, I1, r1, b1, b2, l1, l2, xs, ys, e, e1, e2, q⟩ => ?_) he hpl
  subst e
  obtain ⟨u, v, rfl, ru, rv⟩ := vals2 r1
  cases ru
  cases rv
  obtain ⟨its1, r1, g1⟩ := sq_at I1 e1
  obtain ⟨its2, r2, g2⟩ := sq_at I1 e2
  refine zip_call (xs := its1.toArray) (ys := its2.toArray) g1 g2 fun g Z kp => wpAny_pyIter_zip Z.zz ?_
  have D : ZNe (s1.heap.objs.size + 4) (s1.heap.objs.size + 2) (s1.heap.objs.size + 3) s1.heap.objs.size (s1.heap.objs.size + 1) := by
    constructor <;> (intro z; exact absurd (show (_ : Nat) = _ from z) (by omega))
  refine ⟨_, _, _, _, H1, rfl, I1.kept (t' := s1.toks) kp, turn_zip D, Z, fun b hb => ?_, q⟩
  have lb : s1.heap.objs.size <= b := by
    simp only [List.mem_cons, List.not_mem_nil, or_false] at hb
    rcases hb with rfl | rfl | rfl | rfl | rfl
    · exact Nat.le_add_right _ _
    · exact Nat.le_add_right _ _
    · exact Nat.le_add_right _ _
    · exact Nat.le_refl _
    · exact Nat.le_add_right _ _
  exact I1.fpOk lb (I1.hok.fresh lb)
end L3
namespace DL
open PySem PySem.Spec L2 L3
open PyProof.Rows hiding St
structure FlyB (P : Program) (w : World) (outer : List Env) (H : Hp) (h : Heap) (H' : Hp) (B : Heap) (h' : Heap) : Prop where
  un : Un (frs outer) [] H H' h h'
  hok : HOk P w H' h'
  cov : ∀ b o, h'.get? b = some o -> b ∉ frs outer -> (H' b ≠ none \/ ∃ o0, h.get? b = some o0) -> B.get? b = some o
noncomputable def CX1 (P : Program) (w : World) : CXT := fun outer H s E e s' => ∃ (a C : Addr) (t : Value) (H' : Hp) (B : Heap), e = .ref a /\ s'.os = s.os /\ AllBare s'.gens /\ FlyB P w outer H s.heap H' B s'.heap /\
  Heap.FlyingW B outer a (.ref C) t s'.heap /\ E (.ref C) none H'
end DL
namespace DL
noncomputable def sg (t b : Int) : Int := if b < 0 then -(Int.gcd t b : Int) else Int.gcd t b
noncomputable def rt (t b : Int) : Int × Int := (t.fdiv (sg t b), b.fdiv (sg t b))
end DL
namespace DL
open PySem PySem.Spec L2 L3
open PyProof.Rows hiding St
variable {Γ : Hp -> Prop}
open PySem.Builtin.Int (intBits)
theorem fdOk {i j : Int} {m : Nat} (h : j ≠ 0) (hb : intBits j <= m) (hm : m <= 8999 := by omega) : FdOk i j := by
  refine ⟨h, ?_⟩
  unfold intBits at hb
  rw [if_neg (by simpa using h)] at hb
  omega
end DL
namespace DL
open PySem PySem.Spec L2 L3
open PyProof.Rows hiding St
open PySem.Builtin.Int (intBits)
theorem okD_int {n : Nat} {i : Int} : okD n (.int i) = True := by cases n <;> rfl
theorem okD_bl {n : Nat} {i : Bool} : okD n (.bl i) = True := by cases n <;> rfl
theorem okD_str {n : Nat} {i : Str} : okD n (.str i) = True := by cases n <;> rfl
theorem okD_non {n : Nat} : okD n .non = True := by cases n <;> rfl
theorem okD_lst {n : Nat} {ds : List D} (h : 0 < n) : okD n (.lst ds) = ∀ x ∈ ds, okD (n - 1) x := by
  cases n with
  | zero => omega
  | succ n => rfl
theorem eqD_int {a b : Int} : eqD (.int a) (.int b) = (a == b) := rfl
theorem eqD_str {a b : Str} : eqD (.str a) (.str b) = (a == b) := rfl
theorem eqD_bl {a b : Bool} : eqD (.bl a) (.bl b) = (a == b) := rfl
noncomputable def w2 (g : Int -> Int -> (EV -> Prop) -> Prop) : FT := fun ds φ => match ds with
  | [.int a, .int b] => g a b φ
  | _ => False
noncomputable def w1 (g : Int -> (EV -> Prop) -> Prop) : FT := fun ds φ => match ds with
  | [.int a] => g a φ
  | _ => False
theorem w1_of {g : Int -> (EV -> Prop) -> Prop} {ds : List D} {φ : EV -> Prop} (h : w1 g ds φ) : ∃ a, ds = [.int a] /\ g a φ := by
  unfold w1 at h
  split at h
  · exact ⟨_, rfl, h⟩
  · exact h.elim
noncomputable def tWhole : FT := w1 fun _ φ => φ (dv (.bl true))
noncomputable def r2 (g : Int -> Int -> Int -> Int -> (EV -> Prop) -> Prop) : FT := fun ds φ => match ds with
  | [.tup [.int a, .int b], .tup [.int c, .int d]] => g a b c d φ
  | _ => False
end DL
namespace DL
open L2
theorem atI_0 {α : Type} {x : α} {l : List α} : atI (x :: l) 0 = some x := by
  rw [show (0 : Int) = ((0 : Nat) : Int) from rfl]
  exact atI_nat rfl
theorem atI_1 {α : Type} {x y : α} {l : List α} : atI (x :: y :: l) 1 = some y := by
  rw [show (1 : Int) = ((1 : Nat) : Int) from rfl]
  exact atI_nat rfl
theorem atI_2 {α : Type} {x y z : α} {l : List α} : atI (x :: y :: z :: l) 2 = some z := by
  rw [show (2 : Int) = ((2 : Nat) : Int) from rfl]
  exact atI_nat rfl
end DL
namespace L2
open PySem PySem.Spec PyProof.Rows
section
variable {κ : Type} [DecidableEq κ]
noncomputable def valV (kvs : List (κ × V)) (k : κ) : Option V := (kvs.find? fun kv => decide (kv.1 = k)).map (·.2)
noncomputable def putK (kvs : List (κ × V)) (k : κ) (v : V) : List (κ × V) :=
  if (kvs.any fun kv => decide (kv.1 = k)) = true then kvs.map (fun kv => if kv.1 = k then (kv.1, v) else kv) else kvs ++ [(k, v)]
theorem valV_pos {p : κ × V} {r : List (κ × V)} {k : κ} (e : p.1 = k) : valV (p :: r) k = some p.2 := by simp [valV, List.find?_cons, e]
theorem valV_neg {p : κ × V} {r : List (κ × V)} {k : κ} (e : ¬ p.1 = k) : valV (p :: r) k = valV r k := by simp [valV, List.find?_cons, e]
theorem valV_any (k : κ) : ∀ kvs : List (κ × V), (kvs.any fun kv => decide (kv.1 = k)) = (valV kvs k).isSome
  | [] => rfl
  | p :: r => by
    rw [List.any_cons]
    by_cases e : p.1 = k
    · simp only [valV_pos e, decide_eq_true e, Bool.true_or, Option.isSome_some]
    · rw [valV_neg e, decide_eq_false e, Bool.false_or]; exact valV_any k r
theorem length_putK (kvs : List (κ × V)) (k : κ) (v : V) : (putK kvs k v).length <= kvs.length + 1 := by
  unfold putK
  split
  · rw [List.length_map]; omega
  · rw [List.length_append, List.length_cons, List.length_nil]; omega
theorem RelO.isSome_eq {o : Option V} {u : Option Value} (r : RelO o u) : o.isSome = u.isSome := by
  cases o with
  | none => cases u with
    | none => rfl
    | some _ => exact (show False from r).elim
  | some _ => cases u with
    | none => exact (show False from r).elim
    | some _ => rfl
theorem RelO.getD {o : Option V} {u : Option Value} {d : V} {d' : Value} (r : RelO o u) (rd : RelV d d') : RelV (o.getD d) (u.getD d') := by
  cases o with
  | none => cases u with
    | none => exact rd
    | some _ => exact (show False from r).elim
  | some _ => cases u with
    | none => exact (show False from r).elim
    | some _ => exact r
theorem KV.val {kvs : List (κ × V)} {vs : List (κ × Value)} (r : KV kvs vs) (k : κ) : RelO (valV kvs k) (valueAt vs k) := by
  unfold KV at r
  induction r with
  | nil => exact True.intro
  | @cons p q ps qs h t ih =>
    obtain ⟨h1, h2⟩ := h
    by_cases e : p.1 = k
    · have e' : q.1 = k := h1.symm.trans e
      have b : valueAt (q :: qs) k = some q.2 := by simp [valueAt, List.find?_cons, e']
      rw [valV_pos e, b]; exact h2
    · have e' : ¬ q.1 = k := fun z => e (h1.trans z)
      have b : valueAt (q :: qs) k = valueAt qs k := by simp [valueAt, List.find?_cons, e']
      rw [valV_neg e, b]; exact ih
theorem KV.any {kvs : List (κ × V)} {vs : List (κ × Value)} (r : KV kvs vs) (k : κ) : (kvs.any fun kv => decide (kv.1 = k)) = vs.any fun kv => decide (kv.1 = k) := by
  unfold KV at r
  induction r with
  | nil => rfl
  | cons h t ih => rw [List.any_cons, List.any_cons, ih, h.1]
theorem KV.repl {kvs : List (κ × V)} {vs : List (κ × Value)} (r : KV kvs vs) (k : κ) {y : V} {u : Value} (ry : RelV y u) :
    KV (kvs.map fun kv => if kv.1 = k then (kv.1, y) else kv) (vs.map fun kv => if kv.1 = k then (kv.1, u) else kv) := by
  unfold KV at r ⊢
  induction r with
  | nil => exact .nil
  | @cons p q ps qs h t ih =>
    rw [List.map_cons, List.map_cons]
    refine .cons ?_ ih
    obtain ⟨h1, h2⟩ := h
    by_cases e : p.1 = k
    · rw [if_pos e, if_pos (h1.symm.trans e)]; exact ⟨h1, ry⟩
    · rw [if_neg e, if_neg (fun z => e (h1.trans z))]; exact ⟨h1, h2⟩
theorem KV.put {kvs : List (κ × V)} {vs : List (κ × Value)} (r : KV kvs vs) (k : κ) {y : V} {u : Value} (ry : RelV y u) : KV (putK kvs k y) (stored vs k u) := by
  unfold putK stored
  rw [r.any k]
  by_cases e : (vs.any fun kv => decide (kv.1 = k)) = true
  · rw [if_pos e, if_pos e]; exact r.repl k ry
  · rw [if_neg e, if_neg e]; exact Paired.snoc r ⟨rfl, ry⟩
theorem KV.length {kvs : List (κ × V)} {vs : List (κ × Value)} (r : KV kvs vs) : kvs.length = vs.length := Paired.length r
end
theorem kV_is {P : Program} {w : World} {k : Key} {u : Value} (r : RelV (kV k) u) : (mixKind P w).is k u = true := by
  cases k with
  | inl i => obtain ⟨t, e⟩ := (show ∃ t, u = Value.int i t from r); subst e; exact mixKind_int P w i t
  | inr x => obtain ⟨t, e⟩ := (show ∃ t, u = Value.str x t from r); subst e; exact mixKind_str P w x t
theorem items_are {P : Program} {w : World} : ∀ {ks : List Key} {us : List Value}, Vals (ks.map kV) us -> ItemsAre (mixKind P w) ks us
  | [], _, r => by rw [List.map_nil] at r; cases r; exact .nil
  | k :: ks, _, r => by
    rw [List.map_cons] at r
    cases r with
    | cons h t => exact .cons (kV_is h) (items_are t)
noncomputable abbrev KT (H : Hp) : List (List Key × V) -> List (List Key × Addr × Value) -> Prop := Paired fun p q => p.1 = q.1 /\ H q.2.1 = some (.tup (p.1.map kV)) /\ RelV p.2 q.2.2
theorem KT.val {H : Hp} {kvs : List (List Key × V)} {xs : List (List Key × Addr × Value)} (r : KT H kvs xs) (k : List Key) : RelO (valV kvs k) ((atKey xs k).map (·.2)) := by
  induction r with
  | nil => exact True.intro
  | @cons p q ps qs h t ih =>
    obtain ⟨h1, _, h2⟩ := h
    by_cases e : p.1 = k
    · have e' : q.1 = k := h1.symm.trans e
      have b : atKey (q :: qs) k = some q.2 := by simp [atKey, List.find?_cons, e']
      rw [valV_pos e, b]; exact h2
    · have e' : ¬ q.1 = k := fun z => e (h1.trans z)
      have b : atKey (q :: qs) k = atKey qs k := by simp [atKey, List.find?_cons, e']
      rw [valV_neg e, b]; exact ih
theorem KT.repl {H : Hp} {kvs : List (List Key × V)} {xs : List (List Key × Addr × Value)} (r : KT H kvs xs) (k : List Key) {y : V} {u : Value} (ry : RelV y u) :
    KT H (kvs.map fun kv => if kv.1 = k then (kv.1, y) else kv) (xs.map (putAt k u)) := by
  induction r with
  | nil => exact .nil
  | @cons p q ps qs h t ih =>
    rw [List.map_cons, List.map_cons]
    refine .cons ?_ ih
    obtain ⟨h1, h2, h3⟩ := h
    unfold putAt
    by_cases e : p.1 = k
    · rw [if_pos e, if_pos (h1.symm.trans e)]; exact ⟨h1, h2, ry⟩
    · rw [if_neg e, if_neg (fun z => e (h1.trans z))]; exact ⟨h1, h2, h3⟩
theorem KT.put {H : Hp} {kvs : List (List Key × V)} {xs : List (List Key × Addr × Value)} (r : KT H kvs xs) (k : List Key) {b : Addr} {y : V} {u : Value} (hb : H b = some (.tup (k.map kV))) (ry : RelV y u) :
    KT H (putK kvs k y) (storedH xs k b u) := by
  have e : (kvs.any fun kv => decide (kv.1 = k)) = (atKey xs k).isSome := by
    rw [valV_any, (r.val k).isSome_eq, Option.isSome_map]
  unfold putK storedH
  rw [e]
  by_cases q : (atKey xs k).isSome = true
  · rw [if_pos q, if_pos q]; exact r.repl k ry
  · rw [if_neg q, if_neg q]; exact Paired.snoc r ⟨rfl, hb, ry⟩
theorem KT.keeps {H H' : Hp} {kvs : List (List Key × V)} {xs : List (List Key × Addr × Value)} (r : KT H kvs xs) (ht : ∀ b ys, H b = some (.tup ys) -> H' b = some (.tup ys)) : KT H' kvs xs :=
  Paired.mapP r fun _ _ z => ⟨z.1, ht _ _ z.2.1, z.2.2⟩
section
variable {P : Program} {w : World} {H : Hp} {h : Heap} {a : Addr}
theorem rd_of {u : HO} (ok : HOk P w H h) (e : Rd H a u) : ObjOk P w H h a u := e.ok ok
theorem dk_rd {kvs : List (Key × V)} (ok : HOk P w H h) (e : Rd H a (.dK kvs)) : kvs.length <= sizeLine /\ (a == sysModules) = false /\ ∃ vs, KV kvs vs /\ h.DictOf (mixKind P w) a vs :=
  show ObjOk P w H h a (.dK kvs) from rd_of ok e
theorem dk_of {kvs : List (Key × V)} (ok : HOk P w H h) (e : H a = some (.dK kvs)) : kvs.length <= sizeLine /\ (a == sysModules) = false /\ ∃ vs, KV kvs vs /\ h.DictOf (mixKind P w) a vs := dk_rd ok (.inl e)
theorem key_of {ks : List Key} (ok : HOk P w H h) (e : H a = some (.tup (ks.map kV))) : (tupleKind (mixKind P w)).is h ks a := by
  obtain ⟨_, its, r, ⟨o, h1, h2, n, h3⟩, _⟩ := (show ObjOk P w H h a (.tup (ks.map kV)) from ok a _ e)
  exact ⟨o, its.toArray, n, h1, h2, h3, by simpa using items_are r⟩
theorem dt_rd {kvs : List (List Key × V)} (ok : HOk P w H h) (e : Rd H a (.dT kvs)) : kvs.length <= sizeLine /\ (a == sysModules) = false /\
    ∃ xs, KT H kvs xs /\ h.DictOfH (tupleKind (mixKind P w)) a xs := by
  obtain ⟨z, y, xs, r, o, es, ep, h1, h2, h3, h4, h5⟩ := (show ObjOk P w H h a (.dT kvs) from rd_of ok e)
  refine ⟨z, y, xs, r, o, es, ep, h1, h2, h3, h4, fun x hx => ?_, h5⟩
  have all : ∀ {l : List (List Key × V)} {m : List (List Key × Addr × Value)}, KT H l m -> ∀ x ∈ m, (tupleKind (mixKind P w)).is h x.1 x.2.1 := by
    intro l m q
    induction q with
    | nil => intro x hx; exact nomatch hx
    | @cons p q ps qs hq t ih =>
      intro x hx
      rcases List.mem_cons.mp hx with e | hx
      · subst e
        exact key_of ok (by rw [<- hq.1]; exact hq.2.1)
      · exact ih x hx
  exact all r x hx
theorem dt_of {kvs : List (List Key × V)} (ok : HOk P w H h) (e : H a = some (.dT kvs)) : kvs.length <= sizeLine /\ (a == sysModules) = false /\
    ∃ xs, KT H kvs xs /\ h.DictOfH (tupleKind (mixKind P w)) a xs := dt_rd ok (.inl e)
end
noncomputable def DGet (H : Hp) (a : Addr) (y : V) (r : Option V) : Prop :=
  (∃ kvs k, Rd H a (.dK kvs) /\ y = kV k /\ r = valV kvs k) \/ ∃ kvs k b, Rd H a (.dT kvs) /\ y = .ref b /\ H b = some (.tup (k.map kV)) /\ r = valV kvs k
noncomputable def DPut (H : Hp) (a : Addr) (y v : V) (H' : Hp) : Prop :=
  (∃ kvs k, H a = some (.dK kvs) /\ y = kV k /\ kvs.length < sizeLine /\ H' = upd H a (.dK (putK kvs k v))) \/
  ∃ kvs k b, H a = some (.dT kvs) /\ y = .ref b /\ H b = some (.tup (k.map kV)) /\ kvs.length < sizeLine /\ H' = upd H a (.dT (putK kvs k v))
theorem DGet.k {H : Hp} {a : Addr} {kvs : List (Key × V)} {k : Key} (e : H a = some (.dK kvs)) : DGet H a (kV k) (valV kvs k) := .inl ⟨kvs, k, .inl e, rfl, rfl⟩
theorem DGet.t {H : Hp} {a b : Addr} {kvs : List (List Key × V)} {k : List Key} (e : H a = some (.dT kvs)) (eb : H b = some (.tup (k.map kV))) : DGet H a (.ref b) (valV kvs k) := .inr ⟨kvs, k, b, .inl e, rfl, eb, rfl⟩
theorem DPut.k {H : Hp} {a : Addr} {kvs : List (Key × V)} {k : Key} {v : V} (e : H a = some (.dK kvs)) (hl : kvs.length < sizeLine) : DPut H a (kV k) v (upd H a (.dK (putK kvs k v))) := .inl ⟨kvs, k, e, rfl, hl, rfl⟩
theorem DPut.t {H : Hp} {a b : Addr} {kvs : List (List Key × V)} {k : List Key} {v : V} (e : H a = some (.dT kvs)) (eb : H b = some (.tup (k.map kV))) (hl : kvs.length < sizeLine) :
    DPut H a (.ref b) v (upd H a (.dT (putK kvs k v))) := .inr ⟨kvs, k, b, e, rfl, eb, hl, rfl⟩
section
variable {X : Cx} {pins : List (Addr × Obj)} {σ : St} {H : Hp} {s : Shared} {a : Addr} {y v : V} {u r : Value} {o : Option V} {A : Around} {E : Value -> Shared -> Prop}
theorem Inv.big (I : Inv X pins σ H s) : sysModules < s.heap.objs.size := by
  have h : mainGlobals < s.heap.objs.size := (I.mod.glob.keeps I.bk).lt
  exact Nat.lt_trans (by decide) h
theorem d_getItem {Q : Value -> Shared -> Prop} (hu : A.units + 1 < cLine) (I : Inv X pins σ H s) (g : DGet H a y (some v)) (ry : RelV y u) (h : ∀ w' s', Inv X pins σ H s' -> RelV v w' -> Q w' s') :
    wpAny (model X.prog X.w) A (getItem (.ref a) u) Q E s := by
  rcases g with ⟨kvs, k, e, ey, l⟩ | ⟨kvs, k, b, e, ey, eb, l⟩
  · subst ey
    obtain ⟨z, hd, vs, rel, dd⟩ := dk_rd I.hok e
    obtain ⟨w', hw, rw'⟩ := RelO.some_of (v := v) (o := valueAt vs k) (by rw [l]; exact rel.val k)
    exact wpAny_getItem_of (kV_is ry) dd.mapOf hw (h w' _ (I.tok _) rw')
  · subst ey
    cases (show u = Value.ref b from ry)
    obtain ⟨z, hd, xs, rel, dd⟩ := dt_rd I.hok e
    obtain ⟨w', hw, rw'⟩ := RelO.some_of (v := v) (o := (atKey xs k).map (·.2)) (by rw [l]; exact rel.val k)
    obtain ⟨p, hp, hp2⟩ := Option.map_eq_some_iff.mp hw
    refine wpAny_getItem_heap (tupleKind_room_in1 hu) (key_of I.hok eb) dd hp ?_
    rw [hp2]
    exact h w' _ (I.tok _) rw'
theorem d_in {Q : Value -> Shared -> Prop} (hu : A.units + 1 < cLine) (I : Inv X pins σ H s) (g : DGet H a y o) (ry : RelV y u) (h : ∀ s', Inv X pins σ H s' -> Q (.bool o.isSome) s') :
    wpAny (model X.prog X.w) A (compareOp .In u (.ref a)) Q E s := by
  rcases g with ⟨kvs, k, e, ey, l⟩ | ⟨kvs, k, b, e, ey, eb, l⟩
  · subst ey
    obtain ⟨z, hd, vs, rel, dd⟩ := dk_rd I.hok e
    refine wpAny_in_of (kV_is ry) hd dd.mapOf ?_
    rw [<- (rel.val k).isSome_eq, <- l]
    exact h _ (I.tok _)
  · subst ey
    cases (show u = Value.ref b from ry)
    obtain ⟨z, hd, xs, rel, dd⟩ := dt_rd I.hok e
    refine wpAny_in_heap (tupleKind_room_in1 hu) (key_of I.hok eb) hd dd ?_
    have q := (rel.val k).isSome_eq
    rw [Option.isSome_map] at q
    rw [<- q, <- l]
    exact h _ (I.tok _)
theorem d_notIn {Q : Value -> Shared -> Prop} (hu : A.units + 1 < cLine) (I : Inv X pins σ H s) (g : DGet H a y o) (ry : RelV y u) (h : ∀ s', Inv X pins σ H s' -> Q (.bool (!o.isSome)) s') :
    wpAny (model X.prog X.w) A (compareOp .NotIn u (.ref a)) Q E s := by
  rcases g with ⟨kvs, k, e, ey, l⟩ | ⟨kvs, k, b, e, ey, eb, l⟩
  · subst ey
    obtain ⟨z, hd, vs, rel, dd⟩ := dk_rd I.hok e
    refine wpAny_notIn_of (kV_is ry) hd dd.mapOf ?_
    rw [<- (rel.val k).isSome_eq, <- l]
    exact h _ (I.tok _)
  · subst ey
    cases (show u = Value.ref b from ry)
    obtain ⟨z, hd, xs, rel, dd⟩ := dt_rd I.hok e
    refine wpAny_notIn_heap (tupleKind_room_in1 hu) (key_of I.hok eb) hd dd ?_
    have q := (rel.val k).isSome_eq
    rw [Option.isSome_map] at q
    rw [<- q, <- l]
    exact h _ (I.tok _)
theorem d_write {h' : Heap} {t' : Nat} {ob : HO} (I : Inv X pins σ H s) (mu : Mut (H a)) (hs : Heap.SameBut a s.heap h') (he : ∃ q, h'.get? a = some q) (new : ObjOk X.prog X.w (upd H a ob) h' a ob) :
    Inv X pins σ (upd H a ob) { s with heap := h', toks := t' } :=
  I.write (x := a) (e := a) mu (.inl rfl) (fun b q hb z => (hs.2 b hb).trans z) he new
theorem dk_new {P : Program} {w : World} {H' : Hp} {h' : Heap} {kvs : List (Key × V)} {vs : List (Key × Value)} (z : kvs.length <= sizeLine) (hd : (a == sysModules) = false) (rel : KV kvs vs) (dd : h'.DictOf (mixKind P w) a vs) :
    ObjOk P w H' h' a (.dK kvs) := ⟨z, hd, vs, rel, dd⟩
theorem d_setItem {H' : Hp} {Q : Unit -> Shared -> Prop} (hu : A.units + 1 < cLine) (I : Inv X pins σ H s) (g : DPut H a y v H') (ry : RelV y u) (rv : RelV v r) (h : ∀ s', Inv X pins σ H' s' -> Q () s') :
    wpAny (model X.prog X.w) A (setItem (.ref a) u r) Q E s := by
  rcases g with ⟨kvs, k, e, ey, l, eH⟩ | ⟨kvs, k, b, e, ey, eb, l, eH⟩
  · subst ey eH
    obtain ⟨z, hd, vs, rel, dd⟩ := dk_of I.hok e
    have hz : vs.length <= sizeLine := by rw [<- rel.length]; exact z
    have hl : (putK kvs k v).length <= sizeLine := by have := length_putK kvs k v; omega
    refine wpAny_setItem_pairs (hsz := hz) (kV_is ry) dd fun h' dd' hs => h _ ?_
    have he : ∃ q, h'.get? a = some q := let ⟨q, _, _, hq, _⟩ := dd'; ⟨q, hq⟩
    exact d_write I (by rw [e]; exact True.intro) hs he (dk_new hl hd (rel.put k rv) dd')
  · subst ey eH
    cases (show u = Value.ref b from ry)
    obtain ⟨z, hd, xs, rel, dd⟩ := dt_of I.hok e
    have hz : xs.length <= sizeLine := by rw [<- Paired.length rel]; exact z
    have hl : (putK kvs k v).length <= sizeLine := by have := length_putK kvs k v; omega
    refine wpAny_setItem_heap (hsz := hz) (tupleKind_room_in1 hu) (key_of I.hok eb) dd fun h' dd' hs => h _ ?_
    obtain ⟨q, es, ep, hq, h2, h3, h4, _, h5⟩ := dd'
    refine d_write I (by rw [e]; exact True.intro) hs ⟨q, hq⟩ ⟨hl, hd, _, (rel.put k eb rv).keeps fun c ys ec => ?_, q, es, ep, hq, h2, h3, h4, h5⟩
    rw [upd_ne (ne_of ec e (fun z => nomatch z))]
    exact ec
end
theorem dict_typeIs {X : Cx} {pins : List (Addr × Obj)} {σ : St} {H : Hp} {s : Shared} {a : Addr} {y : V} {o : Option V} (I : Inv X pins σ H s) (g : DGet H a y o) : s.TypeIs (.ref a) "dict" := by
  rcases g with ⟨kvs, k, e, _, _⟩ | ⟨kvs, k, b, e, _, _, _⟩
  · obtain ⟨_, _, vs, _, dd⟩ := dk_rd I.hok e
    exact dd.typeIs
  · obtain ⟨_, _, xs, _, dd⟩ := dt_rd I.hok e
    exact dd.typeIs
noncomputable def sDPut (td ty tv : TE) : TS := fun D σ H => tv σ H fun v H1 => td σ H1 fun x H2 => ty σ H2 fun y H3 => ∃ a H4, x = .ref a /\ DPut H3 a y v H4 /\ D.nx σ H4
section
variable {X : Cx} {o i e value : Expr} {pos pos' tpos : Pos} {td ty tv : TE}
theorem ps_dput (hu : X.A.units + 1 < cLine) (ho : PE X o td) (hi : PE X i ty) (hv : PE X value tv) (hs : swapsWith value (some (.Subscript o i pos')) pos.line X.env = pure false) :
    PS X (.Assign [.Subscript o i pos'] value pos) (sDPut td ty tv) := by
  intro pins s σ H D I h
  refine wpAny_Assign_Subscript (thn (hv pins s σ H _ I h) fun r s1 ⟨v, H1, I1, rv, q1⟩ => thn (ho pins s1 σ H1 _ I1 q1) fun u s2 ⟨x, H2, I2, rx, q2⟩ => thn (hi pins s2 σ H2 _ I2 q2) fun iv s3 ⟨y, H3, I3, ry, a, H4, ex, g, q3⟩ => ?_) hs
  subst ex
  obtain rfl : u = Value.ref a := rx
  exact d_setItem hu I3 g ry rv fun s4 I4 => ⟨σ, H4, I4, q3⟩
end
theorem dk_empty {P : Program} {w : World} {H : Hp} (h : Heap) (hb : sysModules < h.objs.size) : ObjOk P w H (h.push { cls := .type "dict", data := .dict #[] }) h.objs.size (.dK []) :=
  ⟨Nat.zero_le _, beq_eq_false_iff_ne.mpr (Ne.symm (Nat.ne_of_lt hb)), [], .nil, Heap.DictOf.new h⟩
noncomputable def tDNewK : TE := fun _ H Q => ∀ p, H p = none -> Q (.ref p) (upd H p (.dK []))
section
variable {X : Cx} {pos : Pos}
theorem pe_dnewK : PE X (.Dict [] [] pos) tDNewK := fun pins s σ H Q I h =>
  wpAny_Dict_empty ⟨.ref s.heap.objs.size, _, I.laid (a := s.heap.objs.size) (o := .dK []) (t' := s.toks) (fun _ _ q => Heap.get?_push_of_some _ q) (Nat.le_refl _) (dk_empty s.heap I.big), rfl, h _ (I.hok.fresh (Nat.le_refl _))⟩
end
structure M1 (X : Cx) (o : Expr) (m : Str) (apos : Pos) (e : Expr) (cpos : Pos) : Prop where
  base : attributeBase o m X.env (eval o X.env) = eval o X.env
  few : ((backTo cpos (starEach [e] X.env)).all (fun x => !x.1) && (backToKw cpos (keywordEach [] X.env)).all (fun x => x.1.isSome)
    && decide (([e] : List Expr).length + ([] : List Keyword).length + (if ([] : List Keyword).isEmpty then 0 else 1) < 30)) = true
  line : (apos.endLine == cpos.line) = true
  trees : backTo cpos (starEach [e] X.env) = [(false, eval e X.env)]
noncomputable def IsD (H : Hp) (a : Addr) : Prop := (∃ kvs, Rd H a (.dK kvs)) \/ ∃ kvs, Rd H a (.dT kvs)
theorem isD_at {X : Cx} {pins : List (Addr × Obj)} {σ : St} {H : Hp} {s : Shared} {a : Addr} (I : Inv X pins σ H s) (d : IsD H a) :
    s.TypeIs (.ref a) "dict" /\ (∀ b, Value.ref a = .ref b -> ∃ ob, s.heap.get? b = some ob /\ ob.dict = none) /\ (a == sysModules) = false := by
  rcases d with ⟨kvs, e⟩ | ⟨kvs, e⟩
  · obtain ⟨_, hd, vs, _, dd⟩ := dk_rd I.hok e
    refine ⟨dd.typeIs, fun b q => ?_, hd⟩
    cases q
    obtain ⟨ob, _, _, h1, h2, _⟩ := dd
    exact ⟨ob, h1, h2.2.1⟩
  · obtain ⟨_, hd, xs, _, dd⟩ := dt_rd I.hok e
    refine ⟨dd.typeIs, fun b q => ?_, hd⟩
    cases q
    obtain ⟨ob, _, _, h1, h2, _⟩ := dd
    exact ⟨ob, h1, h2.2.1⟩
section
variable {X : Cx} {pins : List (Addr × Obj)} {σ : St} {H : Hp} {s : Shared} {a : Addr} {y d : V} {u r : Value} {o : Option V} {A : Around} {E : Value -> Shared -> Prop}
theorem d_get1 {Q : Value -> Shared -> Prop} (hu : A.units + 1 < cLine) (I : Inv X pins σ H s) (g : DGet H a y o) (ry : RelV y u) (h : ∀ w' s', Inv X pins σ H s' -> RelV (o.getD .non) w' -> Q w' s') :
    wpAny (model X.prog X.w) A (call (.builtin "dict.get") [.ref a, u]) Q E s := by
  rcases g with ⟨kvs, k, e, ey, l⟩ | ⟨kvs, k, b, e, ey, eb, l⟩
  · subst ey
    obtain ⟨z, hd, vs, rel, dd⟩ := dk_rd I.hok e
    refine call_meetsIn PySem.F.slot_dict_get dd.typeIs PySem.F.entry_dict_get (PySem.F.args_dict_get_2 _ _) (meets_dict_get (mixKind X.prog X.w) a (kV_is ry) hd) ⟨_, dd.mapOf, h _ _ (I.tok _) ?_⟩
    rw [l]
    exact (rel.val k).getD rfl
  · subst ey
    cases (show u = Value.ref b from ry)
    obtain ⟨z, hd, xs, rel, dd⟩ := dt_rd I.hok e
    refine call_meetsIn PySem.F.slot_dict_get dd.typeIs PySem.F.entry_dict_get (PySem.F.args_dict_get_2 _ _) (meetsH_dict_get (tupleKind (mixKind X.prog X.w)) a b hd) ⟨tupleKind_room_in1 hu, k, xs, key_of I.hok eb, dd, h _ _ (I.tok _) ?_⟩
    rw [l]
    exact (rel.val k).getD rfl
end
noncomputable def tDGet1 (td ty : TE) : TE := fun σ H Q => td σ H fun x H1 => ∃ a, x = .ref a /\ IsD H1 a /\ ty σ H1 fun y H2 => ∃ o, DGet H2 a y o /\ Q (o.getD .non) H2
section
variable {X : Cx} {o e f : Expr} {apos cpos : Pos} {td ty tx : TE}
theorem pe_dget1 (hu : X.A.units + 1 < cLine) (ho : PE X o td) (he : PE X e ty) (m : M1 X o "get" apos e cpos) : PE X (.Call (.Attribute o "get" apos) [e] [] cpos) (tDGet1 td ty) := by
  intro pins s σ H Q I h
  refine wpAny_Call_method m.base m.few m.line PySem.F.plainAttrs_dict PySem.F.slot_dict_get PySem.F.type_dict_get (thn (ho pins s σ H _ I h) fun u s1 ⟨x, H1, I1, rx, a, ex, d, q1⟩ => ?_)
  subst ex
  obtain rfl : u = Value.ref a := rx
  obtain ⟨t1, t2, _⟩ := isD_at I1 d
  refine ⟨t1, t2, ?_⟩
  rw [m.trees]
  refine Calls.callWith_builtin rfl (Calls.evalArgs_plain (Calls.spliced_cons (thn (he pins s1 σ H1 _ I1 q1) fun iv s2 ⟨y, H2, I2, ry, ov, g, q2⟩ => Calls.spliced_nil ?_)))
  exact d_get1 hu I2 g ry fun w' s3 I3 rw' => ⟨_, H2, I3, rw', q2⟩
end
end L2
namespace DL
open PySem PySem.Spec L2 L3
open PyProof.Rows hiding St
variable {Γ : Hp -> Prop}
noncomputable instance decMemKey (k : Key) (ks : List Key) : Decidable (k ∈ ks) := decidable_of_iff (ks.any (fun x => decide (x = k)) = true) (by simp)
section
variable {α : Type}
noncomputable def lookA : List Key -> List α -> Key -> Option α
  | k' :: ks, d :: ds, k => if k' = k then some d else lookA ks ds k
  | _, _, _ => none
noncomputable def kput (ks : List Key) (k : Key) : List Key := if k ∈ ks then ks else ks ++ [k]
noncomputable def dput : List Key -> List α -> Key -> α -> List α
  | k' :: ks, d' :: ds, k, d => if k' = k then d :: ds else d' :: dput ks ds k d
  | _, _, _, d => [d]
end
theorem valV_zip : ∀ (ks : List Key) (xs : List V) (k : Key), valV (ks.zip xs) k = lookA ks xs k
  | [], xs, k => by cases xs <;> rfl
  | k' :: ks, [], k => rfl
  | k' :: ks, x :: xs, k => by
    rw [List.zip_cons_cons, lookA]
    by_cases e : k' = k
    · rw [if_pos e, valV_pos (by exact e)]
    · rw [if_neg e, valV_neg (by exact e), valV_zip ks xs k]
theorem lookA_none {α : Type} : ∀ {ks : List Key} {xs : List α} {k : Key}, ks.length = xs.length -> (lookA ks xs k = none ↔ k ∉ ks)
  | [], xs, k, h => by cases xs <;> simp [lookA] at *
  | k' :: ks, [], k, h => by simp at h
  | k' :: ks, x :: xs, k, h => by
    rw [lookA]
    by_cases e : k' = k
    · simp [e]
    · rw [if_neg e, lookA_none (by simpa using h)]
      simp [e, Ne.symm e]
theorem map_off : ∀ (ks : List Key) (xs : List V) (k : Key) (v : V), k ∉ ks -> (ks.zip xs).map (fun kv => if kv.1 = k then (kv.1, v) else kv) = ks.zip xs
  | [], xs, k, v, _ => by cases xs <;> rfl
  | k' :: ks, [], k, v, _ => rfl
  | k' :: ks, x :: xs, k, v, h => by
    rw [List.zip_cons_cons, List.map_cons, map_off ks xs k v fun z => h (List.mem_cons_of_mem _ z)]
    rw [if_neg (by intro z; exact h (List.mem_cons.mpr (.inl z.symm)))]
theorem any_zip : ∀ {ks : List Key} {xs : List V} {k : Key}, ks.length = xs.length -> (((ks.zip xs).any fun kv => decide (kv.1 = k)) = true ↔ k ∈ ks)
  | [], xs, k, h => by cases xs <;> simp at *
  | k' :: ks, [], k, h => by simp at h
  | k' :: ks, x :: xs, k, h => by
    rw [List.zip_cons_cons, List.any_cons, Bool.or_eq_true, any_zip (by simpa using h)]
    simp [eq_comm]
theorem map_on : ∀ {ks : List Key} {xs : List V} {k : Key} {v : V}, ks.Nodup -> ks.length = xs.length -> k ∈ ks -> (ks.zip xs).map (fun kv => if kv.1 = k then (kv.1, v) else kv) = ks.zip (dput ks xs k v)
  | [], _, _, _, _, _, h => by cases h
  | k' :: ks, [], _, _, _, h, _ => by simp at h
  | k' :: ks, x :: xs, k, v, nd, hl, h => by
    obtain ⟨n1, n2⟩ := List.nodup_cons.mp nd
    rw [List.zip_cons_cons, List.map_cons, dput]
    by_cases e : k' = k
    · subst e
      rw [if_pos rfl, if_pos rfl, map_off ks xs k' v n1, List.zip_cons_cons]
    · rw [if_neg e, if_neg e, List.zip_cons_cons, map_on n2 (by simpa using hl) ((List.mem_cons.mp h).resolve_left (Ne.symm e))]
theorem dput_new {α : Type} : ∀ {ks : List Key} {xs : List α} {k : Key} {v : α}, ks.length = xs.length -> k ∉ ks -> dput ks xs k v = xs ++ [v]
  | [], xs, k, v, h, _ => by
    cases xs with
    | nil => rfl
    | cons => simp at h
  | k' :: ks, [], _, _, h, _ => by simp at h
  | k' :: ks, x :: xs, k, v, h, hn => by
    rw [dput, if_neg (fun z => hn (List.mem_cons.mpr (.inl z.symm))), dput_new (by simpa using h) fun z => hn (List.mem_cons_of_mem _ z)]
    rfl
theorem putK_zip {ks : List Key} {xs : List V} {k : Key} {v : V} (nd : ks.Nodup) (hl : ks.length = xs.length) : putK (ks.zip xs) k v = (kput ks k).zip (dput ks xs k v) := by
  unfold putK kput
  by_cases h : k ∈ ks
  · rw [if_pos ((any_zip hl).mpr h), if_pos h, map_on nd hl h]
  · rw [if_neg (fun z => h ((any_zip hl).mp z)), if_neg h, dput_new hl h, List.zip_append hl]
    rfl
theorem dput_len {α : Type} : ∀ {ks : List Key} {xs : List α} {k : Key} {v : α}, ks.length = xs.length -> (kput ks k).length = (dput ks xs k v).length := fun {ks xs k v} h => by
  by_cases hk : k ∈ ks
  · unfold kput
    rw [if_pos hk]
    induction ks generalizing xs with
    | nil => cases hk
    | cons k' ks ih =>
      cases xs with
      | nil => simp at h
      | cons x xs =>
        rw [dput]
        by_cases e : k' = k
        · rw [if_pos e]; simpa using h
        · rw [if_neg e]
          have := ih (xs := xs) (by simpa using h) ((List.mem_cons.mp hk).resolve_left (Ne.symm e))
          simp [this]
  · rw [dput_new h hk]
    unfold kput
    rw [if_neg hk]
    simp [h]
theorem kput_nodup {ks : List Key} {k : Key} (nd : ks.Nodup) : (kput ks k).Nodup := by
  unfold kput
  split
  · exact nd
  · rename_i h
    exact List.nodup_append.mpr ⟨nd, by simp, by intro a ha b hb e; simp at hb; subst hb; exact h (e ▸ ha)⟩
section
variable {K : PySem.W.Frag} {H : Hp} {O : List Addr}
theorem reps_look : ∀ {ks : List Key} {ds : List D} {xs : List V} {k : Key}, Reps K H O ds xs -> (∀ d, lookA ks ds k = some d -> ∃ v, lookA ks xs k = some v /\ Rep K H O d v) /\ (lookA ks ds k = none -> lookA ks xs k = none)
  | [], ds, xs, k, r => ⟨(fun d h => by cases ds <;> cases h), (fun _ => by cases xs <;> rfl)⟩
  | k' :: ks, [], xs, k, r => by
    cases r
    exact ⟨(fun d h => by cases h), fun _ => rfl⟩
  | k' :: ks, d' :: ds, xs, k, r => by
    obtain ⟨v, ws, rfl, q, t⟩ := r
    rw [lookA, lookA]
    by_cases e : k' = k
    · rw [if_pos e, if_pos e]
      exact ⟨(fun d h => by cases h; exact ⟨v, rfl, q⟩), (fun h => by cases h)⟩
    · rw [if_neg e, if_neg e]
      exact reps_look t
theorem reps_dput : ∀ {ks : List Key} {ds : List D} {xs : List V} {k : Key} {d : D} {v : V}, Reps K H O ds xs -> Rep K H O d v -> Reps K H O (dput ks ds k d) (dput ks xs k v)
  | [], ds, xs, k, d, v, r, q => by
    have e1 : dput ([] : List Key) ds k d = [d] := by cases ds <;> rfl
    have e2 : dput ([] : List Key) xs k v = [v] := by cases xs <;> rfl
    rw [e1, e2]
    exact Reps.one q
  | k' :: ks, [], xs, k, d, v, r, q => by
    cases r
    exact Reps.one q
  | k' :: ks, d' :: ds, xs, k, d, v, r, q => by
    obtain ⟨v', ws, rfl, q', t⟩ := r
    rw [dput, dput]
    by_cases e : k' = k
    · rw [if_pos e, if_pos e]
      exact ⟨v, ws, rfl, q, t⟩
    · rw [if_neg e, if_neg e]
      exact ⟨v', _, rfl, q', reps_dput t q⟩
end
noncomputable def keyD : D -> Option Key
  | .int i => some (.inl i)
  | .str x => some (.inr x)
  | _ => none
theorem key_view {K : PySem.W.Frag} {H : Hp} {O : List Addr} {d : D} {v : V} {k : Key} (h : View K H O d v) (e : keyD d = some k) : v = kV k := by
  cases d with
  | int i => cases e; exact h
  | str i => cases e; exact h
  | _ => cases e
section
variable {X : Cx} {a b c e o : Expr} {es : List Expr} {ta tb tc te td : TD} {t : TDs} {pos : Pos}
theorem ed_dict0 : ED Γ X (.Dict [] [] pos) (fun _ φ => φ (df (.dk [] []))) := fun H₀ => impE pe_dnewK fun σ H Q q => by
  obtain ⟨ρ, o, R, φ, hφ, k⟩ := q
  intro p hp
  exact k (.ref p) (df (.dk [] [])) _ (same_new hp _) ⟨p, rfl, hp, R.ofree hp, [], upd_same, rfl, List.nodup_nil, rfl⟩ hφ
theorem op_inD (hu : X.A.units + 1 < cLine) : OpR X (compareOp .In) (fun x y H Q => ∃ a kvs k, y = .ref a /\ H a = some (.dK kvs) /\ x = kV k /\ Q (.bl (valV kvs k).isSome) H) := by
  intro pins s σ H x y v u Q I rx ry h
  obtain ⟨a, kvs, k, rfl, ha, rfl, q⟩ := h
  cases ry
  exact d_in hu I (DGet.k ha) rx fun s' I' => ⟨.bl _, H, I', rfl, q⟩
theorem op_notinD (hu : X.A.units + 1 < cLine) : OpR X (compareOp .NotIn) (fun x y H Q => ∃ a kvs k, y = .ref a /\ H a = some (.dK kvs) /\ x = kV k /\ Q (.bl (!(valV kvs k).isSome)) H) := by
  intro pins s σ H x y v u Q I rx ry h
  obtain ⟨a, kvs, k, rfl, ha, rfl, q⟩ := h
  cases ry
  exact d_notIn hu I (DGet.k ha) rx fun s' I' => ⟨.bl _, H, I', rfl, q⟩
theorem isSome_look {α : Type} {ks : List Key} {xs : List α} {k : Key} (h : ks.length = xs.length) : (lookA ks xs k).isSome = decide (k ∈ ks) := by
  by_cases hk : k ∈ ks
  · rw [decide_eq_true hk]
    cases e : lookA ks xs k with
    | none => exact absurd hk ((lookA_none h).mp e)
    | some _ => rfl
  · rw [decide_eq_false hk, (lookA_none h).mpr hk]
    rfl
noncomputable def flatD : D -> Bool
  | .non => true
  | .bl _ => true
  | .int _ => true
  | .str _ => true
  | _ => false
noncomputable def inD (x : D) (l : List D) : Bool := l.any fun y => eqD y x
noncomputable def sIn (neg : Bool) : D -> D -> (EV -> Prop) -> Prop := fun x y φ => match y with
  | .dk ks _ => (match keyD x with | some k => φ (dv (.bl (if neg then !decide (k ∈ ks) else decide (k ∈ ks)))) | none => False)
  | .lst l => flatD x = true /\ l.all flatD = true /\ φ (dv (.bl (if neg then !inD x l else inD x l)))
  | .tup l => flatD x = true /\ l.all flatD = true /\ φ (dv (.bl (if neg then !inD x l else inD x l)))
  | .str z => (match x with | .str p => φ (dv (.bl (if neg then !(!(Builtin.Str.occurrences z p 0 z.length 1).isEmpty) else !(Builtin.Str.occurrences z p 0 z.length 1).isEmpty))) | _ => False)
  | _ => False
theorem flat_view {K : PySem.W.Frag} {H : Hp} {O : List Addr} {d : D} {v : V} (h : View K H O d v) (f : flatD d = true) : flatV v = true /\ ∀ (e : D) (w : V), View K H O e w -> flatD e = true -> eqV v w = eqD d e := by
  cases d with
  | non => cases (show v = _ from h); exact ⟨rfl, fun e w he fe => by cases e <;> first | (cases (show w = _ from he); rfl) | cases fe⟩
  | bl b => cases (show v = _ from h); exact ⟨rfl, fun e w he fe => by cases e <;> first | (cases (show w = _ from he); rfl) | cases fe⟩
  | int b => cases (show v = _ from h); exact ⟨rfl, fun e w he fe => by cases e <;> first | (cases (show w = _ from he); rfl) | cases fe⟩
  | str b => cases (show v = _ from h); exact ⟨rfl, fun e w he fe => by cases e <;> first | (cases (show w = _ from he); rfl) | cases fe⟩
  | _ => cases f
theorem in_reps {K : PySem.W.Frag} {H : Hp} {O : List Addr} {x : D} {v : V} (hx : View K H O x v) (fx : flatD x = true) : ∀ {l : List D} {xs : List V}, Reps K H O l xs -> l.all flatD = true -> xs.all flatV = true /\ inV v xs = inD x l
  | [], _, r, _ => by cases r; exact ⟨rfl, rfl⟩
  | d :: l, xs, r, f => by
    obtain ⟨w, ws, rfl, q, t⟩ := r
    rw [List.all_cons, Bool.and_eq_true] at f
    obtain ⟨i1, i2⟩ := in_reps hx fx t f.2
    obtain ⟨g1, g2⟩ := flat_view q.view f.1
    refine ⟨by rw [List.all_cons, g1, i1]; rfl, ?_⟩
    unfold inV inD at *
    rw [List.any_cons, List.any_cons, i2, g2 x v hx fx]
theorem link_in {K : PySem.W.Frag} {neg : Bool} : Link2 K (fun x y H Q => (∃ a kvs k, y = .ref a /\ H a = some (.dK kvs) /\ x = kV k /\ Q (.bl (if neg then !(valV kvs k).isSome else (valV kvs k).isSome)) H) \/ rIn K neg x y H Q \/ ∃ i j, x = .str i /\ y = .str j /\ Q (.bl (if neg then !(!(Builtin.Str.occurrences j i 0 j.length 1).isEmpty) else !(Builtin.Str.occurrences j i 0 j.length 1).isEmpty)) H) (sIn neg) := by
  intro H O x y vx vy φ Q ho hx hy h k
  unfold sIn at h
  split at h
  · split at h
    · rename_i ks ds kk ek
      obtain ⟨a, xs, rfl, q, l, nd, r⟩ := hy
      refine .inl ⟨a, _, kk, rfl, q, key_view hx ek, ?_⟩
      rw [valV_zip, isSome_look (by rw [l, r.length])]
      exact k _ _ H (Same.refl H) (by exact rfl) h
    · exact h.elim
  · obtain ⟨f1, f2, h⟩ := h
    obtain ⟨a, xs, rfl, q, r⟩ := hy
    obtain ⟨g1, g2⟩ := in_reps hx f1 r f2
    refine .inr (.inl ⟨a, xs, rfl, .inl (SqL.of q), (flat_view hx f1).1, g1, ?_⟩)
    rw [g2]
    exact k _ _ H (Same.refl H) (by exact rfl) h
  · obtain ⟨f1, f2, h⟩ := h
    obtain ⟨a, xs, rfl, q, r⟩ := hy
    obtain ⟨g1, g2⟩ := in_reps hx f1 r f2
    refine .inr (.inl ⟨a, xs, rfl, .inr q.1, (flat_view hx f1).1, g1, ?_⟩)
    rw [g2]
    exact k _ _ H (Same.refl H) (by exact rfl) h
  · split at h
    · exact .inr (.inr ⟨_, _, hx, hy, k _ _ H (Same.refl H) (by exact rfl) h⟩)
    · exact h.elim
  · exact h.elim
theorem ed_in (hu : X.A.units + 64 < cLine) (ha : ED Γ X a ta) (hb : ED Γ X b tb) (hm : behindInMarks .In b = false := by with_unfolding_all rfl) : ED Γ X (.Compare a [.In] [b] pos) (d2 (sIn false) ta tb) := ed_cmp ((op_inD (by omega)).or (op_in_seq.or op_in_str)) link_in ha hb hm
theorem et_in (hu : X.A.units + 64 < cLine) (ha : ED Γ X a ta) (hb : ED Γ X b tb) (hm : behindInMarks .In b = false := by with_unfolding_all rfl) : ET Γ X (.Compare a [.In] [b] pos) (tBo (d2 (sIn false) ta tb)) := et_cmp ((op_inD (by omega)).or (op_in_seq.or op_in_str)) link_in ha hb hm
theorem et_notin (hu : X.A.units + 64 < cLine) (ha : ED Γ X a ta) (hb : ED Γ X b tb) (hm : behindInMarks .NotIn b = false := by with_unfolding_all rfl) : ET Γ X (.Compare a [.NotIn] [b] pos) (tBo (d2 (sIn true) ta tb)) := et_cmp ((op_notinD (by omega)).or (op_notIn_seq.or op_notIn_str)) link_in ha hb hm
noncomputable def sIxx : D -> D -> (EV -> Prop) -> Prop := fun x y φ => match x with
  | .dk ks ds => (match keyD y with
    | some k => (match lookA ks ds k with
      | some d => φ (dv d)
      | none => False)
    | none => False)
  | x => sIx x y φ
theorem ix_dict (hu : X.A.units + 1 < cLine) : IxR X (fun x y H Q => ∃ a kvs k v, x = .ref a /\ H a = some (.dK kvs) /\ y = kV k /\ valV kvs k = some v /\ Q v H) := by
  intro value slice pins s σ H x y v u Q I rx ry h hs
  obtain ⟨a, kvs, k, w, rfl, ha, rfl, e, q⟩ := h
  cases rx
  have g : DGet H a (kV k) (some w) := by rw [<- e]; exact DGet.k ha
  exact tail_any (dict_typeIs I g) PySem.F.slot_dict_getitem.lookup (d_getItem hu I g ry fun w' s' I' rw' => ⟨w, H, I', rw', q⟩) hs
theorem link_ixx : Link2 X.K (fun x y H Q => rIx X.K x y H Q \/ ∃ a kvs k v, x = .ref a /\ H a = some (.dK kvs) /\ y = kV k /\ valV kvs k = some v /\ Q v H) sIxx := by
  intro H O x y vx vy φ Q ho hx hy h k
  cases x with
  | dk ks ds =>
    obtain ⟨a, xs, rfl, q, l, nd, r⟩ := hx
    unfold sIxx at h
    dsimp only at h
    split at h
    · rename_i kk ek
      split at h
      · rename_i d ed
        obtain ⟨v, ev, rv⟩ := (reps_look (ks := ks) (k := kk) r).1 d ed
        exact .inr ⟨a, _, kk, v, rfl, q, key_view hy ek, by rw [valV_zip]; exact ev, k _ _ H (Same.refl H) (RV.val rv) h⟩
      · exact h.elim
    · exact h.elim
  | _ => exact .inl (link_ix H O _ y vx vy φ Q ho hx hy h k)
theorem ed_ixx (hu : X.A.units + 64 < cLine) (ha : ED Γ X a ta) (hb : ED Γ X b tb) (hs : PlainIx b := by intro _ _; rfl) : ED Γ X (.Subscript a b pos) (d2 sIxx ta tb) := fun H₀ => impE (pe_ix (ix_seq.or (ix_dict (by omega))) (ha H₀) (hb H₀) hs) (lift2 link_ixx)
noncomputable def dGet2 (td tk tx : TD) : TD := fun ρ φ => td ρ fun r => match r.d with
  | .dk ks ds => tk ρ fun y => tx ρ fun z => (match z.k with | .own => False | _ => True) /\ (match keyD y.d with
    | some k => φ (dv ((lookA ks ds k).getD z.d))
    | none => False)
  | _ => False
end
section
variable {X : Cx} {x : Str} {e ke : Expr} {te tk : TD} {np pos pos' : Pos}
noncomputable def sDput' (i : Nat) (tk te : TD) : TDS := fun ρ Z => match slot ρ i with
  | some ⟨.own, .dk ks ds⟩ => te ρ fun r => tk ρ fun kr => (match r.k with | .own => False | _ => True) /\ ds.length <= 100000 /\ (match keyD kr.d with
    | some k => Z.nx (setS ρ i (dO (.dk (kput ks k) (dput ks ds k r.d))))
    | none => False)
  | _ => False
theorem sd_dput (i : Nat) (hu : X.A.units + 64 < cLine) (hk : ED Γ X ke tk) (he : ED Γ X e te) (hN : X.N[i]? = some x := by rfl) (hv : Vis X.env.scope x := by first | exact Or.inl rfl | exact Or.inr (Or.inl rfl) | exact Or.inr (Or.inr rfl)) (hd : (x == ("__debug__" : Str)) = false := by decide)
    (hcd : (x == ("__classdict__" : Str)) = false := by decide) (hs : swapsWith e (some (.Subscript (.Name x np) ke pos')) pos.line X.env = pure false := by rfl) : SD Γ X (.Assign [.Subscript (.Name x np) ke pos'] e pos) (sDput' i tk te) := fun H₀ =>
  impS (ps_dput (by omega) (pe_var hN hv hd hcd) (hk H₀) (he H₀) hs) fun D σ H h => by
    obtain ⟨ρ, o, R, Z, hZ, k1, k2, k3, k4⟩ := h
    unfold sDput' at hZ
    split at hZ
    · rename_i ks ds es
      obtain ⟨v0, ev0, q0⟩ := R.slots i _ (slot_eq es)
      rcases q0 with ⟨k, _⟩ | ⟨_, a, rfl, m, c⟩
      · cases k
      obtain ⟨xs, hx, hl, nd, rx⟩ := c
      refine ⟨ρ, o, R, _, hZ, fun v r H1 s1 rv h1 => ⟨.ref a, ev0, ρ, o, R.to s1, _, h1, fun v2 r2 H2 s2 rv2 h2 => ?_⟩⟩
      obtain ⟨h0, hlen, h2⟩ := h2
      split at h2
      · rename_i k ek
        have hk : v2 = kV k := key_view rv2.view ek
        subst hk
        have s12 := s1.trans s2
        have hx2 := s12 _ _ hx
        have rx2 := Reps.grow (Grow.same s12) _ _ rx
        have xl : ks.length = xs.length := by rw [hl, rx.length]
        refine ⟨a, _, rfl, DPut.k hx2 ?_, ?_⟩
        · rw [List.length_zip, xl, Nat.min_self, rx.length]
          exact Nat.lt_of_le_of_lt hlen (by decide)
        · rw [putK_zip nd xl]
          obtain ⟨R3, g3⟩ := (R.to s12).chg (d' := .dk (kput ks k) (dput ks ds k r.d)) (ho := .dK ((kput ks k).zip (dput ks xs k v))) (slot_eq es) ev0 m ⟨fun _ z => (by cases z), fun _ _ z => (by cases z)⟩ fun gr =>
            ⟨dput ks xs k v, upd_same, dput_len hl, kput_nodup nd, gr _ _ (reps_dput rx2 ((rv.same s2).solid (notOwn h0)))⟩
          exact k1 _ σ _ o ((Grow.same s12).trans g3) R3 h2
      · exact h2.elim
    · exact hZ.elim
end
end DL
namespace DL
open PySem PySem.Spec L2 L3
open PyProof.Rows hiding St
variable {Γ : Hp -> Prop}
noncomputable def XP (Γ : Hp -> Prop) (X : Cx) (χ : DE -> Addr -> Prop) : Prop := ∀ (H₀ : Hp), Γ H₀ -> ∀ (ρ : DE) (o : List (Nat × Addr)) (pins : List (Addr × Obj)) (σ : St) (H : Hp) (s : Shared) (e : Value) (s' : Shared), Inv X pins σ H s -> REnv X.K H₀ H σ ρ o ->
  CX1 X.prog X.w X.stack H s (fun cls _ H' => Same H H' /\ ∃ C, cls = .ref C /\ χ ρ C) e s' -> X.xe e s'
section
variable {P : Program} {w : World} {K : PySem.W.Frag} {mg : Str -> Option Value} {base : Heap}
theorem renv_start {N : List Str} {ds : List D} {vs : List V} {H : Hp} (r : Reps K H [] ds vs) : REnv K H H (L2.start N vs) (startD N.length ds) [] := by
  have rl := r.length
  refine ⟨Same.refl H, (fun _ z => absurd z (by simp)), (fun _ z => absurd z (by simp)), (fun _ z => absurd z (by simp)), List.nodup_nil, fun i r' e => ?_, ?_⟩
  · unfold startD at e
    rcases Nat.lt_or_ge i ds.length with hi | hi
    · rw [List.getElem?_append_left (by simpa using hi), List.getElem?_map] at e
      have ed : ds[i]? = some ds[i] := by simp [hi]
      rw [ed] at e
      have e' : some (dv ds[i]) = some r' := Option.some.inj e
      cases e'
      obtain ⟨v, ev, rv⟩ := r.get ed
      refine ⟨v, ?_, .inl ⟨rfl, rv⟩⟩
      unfold L2.start
      rw [List.getElem?_append_left (by rw [List.length_map, rl]; exact hi), List.getElem?_map, ev]
      rfl
    · rw [List.getElem?_append_right (by simpa using hi), List.getElem?_replicate] at e
      split at e <;> cases e
  · unfold L2.start startD
    simp [rl]
end
end DL
namespace DL
open PySem PySem.Spec L2 L3
open PyProof.Rows hiding St
variable {Γ : Hp -> Prop}
open PySem.Builtin.Int (intBits)
theorem cp10 {j : Int} (h0 : 0 <= j) (h1 : j <= 1000) : CPow 10 j = True := by
  refine eq_true ⟨h0, by omega, by decide⟩
theorem tenpow_ne {k : Nat} : ((10 : Int) ^ k = 0) = False := by
  refine eq_false ?_
  have : (0 : Int) < 10 ^ k := Int.pow_pos (by decide)
  omega
theorem fd_lit {i j : Int} (h : j ≠ 0) (h1 : j.natAbs <= 1000000000000) : FdOk i j = True := eq_true (fdOk (m := 64) h (PySem.intBits_le_iff.mpr (by omega)))
theorem cutD_take (l : List D) (k : Nat) : cutD l none (some (k : Int)) = l.take k := by
  unfold cutD
  rw [HT.sIx_none, HT.sIx_nat, List.drop_zero, Nat.sub_zero]
  rw [List.take_eq_take_iff]
  omega
theorem cutD_drop (l : List D) (k : Nat) : cutD l (some (k : Int)) none = l.drop k := by
  unfold cutD
  rw [HT.sIx_none, HT.sIx_nat]
  by_cases h : k <= l.length
  · rw [Nat.min_eq_left h, List.take_of_length_le (by simp)]
  · rw [Nat.min_eq_right (by omega), List.drop_of_length_le (Nat.le_refl _), List.drop_of_length_le (by omega)]
    simp
theorem atI_of {α : Type} {l : List α} {i : Int} {x : α} (h0 : 0 <= i) (h : l[i.toNat]? = some x) : atI l i = some x := by
  have := atI_nat h
  rwa [Int.toNat_of_nonneg h0] at this
theorem mod_bd (x m : Int) (h : 0 < m) : 0 <= x.fmod m /\ x.fmod m < m := ⟨Int.fmod_nonneg_of_pos x h, Int.fmod_lt_of_pos x h⟩
theorem bitsOf {x : Int} {m : Nat} (h : x.natAbs < 2 ^ m) : intBits x <= m := PySem.intBits_le_iff.mpr h
end DL
namespace DL
open PySem PySem.Spec L2 L3
theorem sFor_at {ti : TID} {g : TGD} {tb : TDS} {ρ : DE} {Z : DZ} (ds : List D) (h : ∀ φ : List D -> Prop, φ ds -> ti ρ φ) (P : Nat -> DE -> Prop) (h0 : P 0 ρ)
    (ht : ∀ i d ρ, ds[i]? = some d -> P i ρ -> g d ρ fun ρ' => tb ρ' { Z with nx := P (i + 1), ct := P (i + 1), bk := Z.nx }) (hd : ∀ ρ, P ds.length ρ -> Z.nx ρ) : sFor ti g tb ρ Z := h _ ⟨P, h0, ht, hd⟩
theorem rng_get {lo : Int} {n i : Nat} {d : D} (h : (rngD lo n)[i]? = some d) : i < n /\ d = .int (lo + (i : Int)) := by
  unfold rngD at h
  rw [List.getElem?_map] at h
  cases e : (List.range n)[i]? with
  | none => rw [e] at h; cases h
  | some m =>
    rw [e] at h
    have hi := (List.getElem?_eq_some_iff.mp e).1
    rw [List.length_range] at hi
    rw [List.getElem?_range hi] at e
    cases e
    cases h
    exact ⟨hi, rfl⟩
theorem rng_len {lo : Int} {n : Nat} : (rngD lo n).length = n := by unfold rngD; simp
end DL
namespace DL
open PySem PySem.Spec L2 L3
theorem atI_map {α β : Type} (f : α -> β) (l : List α) (i : Int) : atI (l.map f) i = (atI l i).map f := by
  unfold atI
  rw [List.length_map]
  cases ixN l.length i with
  | none => rfl
  | some j => simp
end DL
namespace DL
open PySem PySem.Spec L2 L3
open PyProof.Rows hiding St
theorem pg_tupK {X : Cx} {K0 : PySem.W.Frag} {es : List Expr} {k : Nat} {t : TGs} {n : Nat} {pos : Pos} (hK : X.K = K0) (hc : X.calm = true) (h : PGs X es t) (hn : (assignEach es X.env).length = n := by rfl) (hst : (assignEach es X.env).findIdx? (·.1) = none := by rfl) : PG X (.Tuple es k pos) (gTup K0 n t) := by
  subst hK
  exact pg_tup hc h hn hst
end DL
namespace DL
open PySem PySem.Spec L2 L3
open PyProof.Rows hiding St
variable {Γ : Hp -> Prop}
noncomputable def zipD (xs ys : List D) : List D := List.zipWith (fun x y => D.tup [x, y]) xs ys
noncomputable def seqD : D -> Option (List D)
  | .lst ds => some ds
  | .tup ds => some ds
  | .scr ns => some (ns.map D.int)
  | _ => none
theorem seqD_lst {ds : List D} : seqD (.lst ds) = some ds := rfl
theorem seqD_tup {ds : List D} : seqD (.tup ds) = some ds := rfl
theorem seqD_scr {ns : List Int} : seqD (.scr ns) = some (ns.map D.int) := rfl
noncomputable def SeqP (b : Bool) (K : PySem.W.Frag) (H : Hp) (O : List Addr) (l : Addr) (d : D) : Prop := match d with
  | .lst ds => b = false /\ ∃ xs, H l = some (.lst xs) /\ l ∉ O /\ Reps K H O ds xs
  | .tup ds => b = true /\ ∃ xs, SqT K H l xs /\ Reps K H O ds xs
  | .scr ns => b = false /\ Scr K H l ns
  | _ => False
theorem SeqP.of {K : PySem.W.Frag} {H : Hp} {O : List Addr} {d : D} {v : V} {ds : List D} (h : Rep K H O d v) (e : seqD d = some ds) : ∃ b l, v = .ref l /\ SeqP b K H O l d := by
  cases d with
  | lst es => obtain ⟨a, xs, rfl, q, n, r⟩ := h; exact ⟨false, a, rfl, rfl, xs, q, n, r⟩
  | tup es => obtain ⟨a, xs, rfl, q, r⟩ := h; exact ⟨true, a, rfl, rfl, xs, q.1, r⟩
  | scr ns => obtain ⟨a, rfl, q⟩ := h; exact ⟨false, a, rfl, rfl, q⟩
  | _ => cases e
theorem SeqP.sq {b : Bool} {K : PySem.W.Frag} {H : Hp} {O : List Addr} {l : Addr} {d : D} {ds : List D} (h : SeqP b K H O l d) (e : seqD d = some ds) : ∃ xs, SqK b K H l xs /\ Reps K H O ds xs := by
  cases d with
  | lst es => obtain ⟨rfl, xs, q, n, r⟩ := h; cases e; exact ⟨xs, SqL.of q, r⟩
  | tup es => obtain ⟨rfl, xs, q, r⟩ := h; cases e; exact ⟨xs, q, r⟩
  | scr ns => obtain ⟨rfl, q⟩ := h; cases e; exact ⟨_, q.seq, Reps.ints ns⟩
  | _ => cases e
theorem SeqP.grow {b : Bool} {K : PySem.W.Frag} {H H' : Hp} {O O' : List Addr} {l : Addr} {d : D} (h : SeqP b K H O l d) (g : Grow O O' H H') : SeqP b K H' O' l d := by
  cases d with
  | lst es => obtain ⟨rfl, xs, q, n, r⟩ := h; exact ⟨rfl, xs, (g.keep _ _ q n).1, (g.keep _ _ q n).2, Reps.grow g _ _ r⟩
  | tup es => obtain ⟨rfl, xs, q, r⟩ := h; exact ⟨rfl, xs, sqT_grow g q, Reps.grow g _ _ r⟩
  | scr ns => obtain ⟨rfl, q⟩ := h; exact ⟨rfl, scr_grow g q⟩
  | _ => exact h.elim
section
variable {X : Cx} {pins : List (Addr × Obj)} {σ : St} {H : Hp} {s : Shared}
theorem it_zip {K : PySem.W.Frag} {b1 b2 : Bool} {l1 l2 : Addr} {d1 d2 : D} {xs ys : List D} (e1 : seqD d1 = some xs) (e2 : seqD d2 = some ys) : ItD K (Itz b1 b2 K l1 l2) (zipD xs ys) (fun H O => SeqP b1 K H O l1 d1 /\ SeqP b2 K H O l2 d2) where
  go := fun H O i d ⟨p1, p2⟩ e => by
    obtain ⟨us, q1, r1⟩ := p1.sq e1
    obtain ⟨vs, q2, r2⟩ := p2.sq e2
    unfold zipD at e
    rw [List.getElem?_zipWith] at e
    cases ex : xs[i]? with
    | none => rw [ex] at e; cases e
    | some x =>
      cases ey : ys[i]? with
      | none => rw [ex, ey] at e; cases e
      | some y =>
        rw [ex, ey] at e
        cases e
        obtain ⟨u, eu, ru⟩ := r1.get ex
        obtain ⟨v, ev, rv⟩ := r2.get ey
        refine ⟨⟨us, vs, u, v, q1, q2, eu, ev⟩, fun z H' yl => ?_⟩
        obtain ⟨T, u', v', hT, rfl, eu', ev', rfl⟩ := yl
        have eu' := eu' _ q1
        have ev' := ev' _ q2
        rw [eu] at eu'
        rw [ev] at ev'
        cases eu'
        cases ev'
        have sm : Same H (upd H T (.tup [u, v])) := fun b w hb => by rw [upd_ne (ne_of_none hb hT)]; exact hb
        refine ⟨sm, T, [u, v], rfl, ⟨.inl (.inl upd_same), upd_same⟩, ?_⟩
        exact ⟨u, [v], rfl, Rep.grow (Grow.same sm) _ _ ru, v, [], rfl, Rep.grow (Grow.same sm) _ _ rv, rfl⟩
  stop := fun H O ⟨p1, p2⟩ => by
    obtain ⟨us, q1, r1⟩ := p1.sq e1
    obtain ⟨vs, q2, r2⟩ := p2.sq e2
    refine ⟨us, vs, q1, q2, ?_⟩
    have h1 := r1.length
    have h2 := r2.length
    unfold zipD
    rw [List.length_zipWith, h1, h2]
    omega
  keep := fun O O' H H' ⟨p1, p2⟩ g => ⟨p1.grow g, p2.grow g⟩
noncomputable def iZ (t : TDs) : TID := fun ρ φ => t ρ fun rs => match rs with
  | [⟨k1, d1⟩, ⟨k2, d2⟩] => (match k1 with | .own => False | _ => True) /\ (match k2 with | .own => False | _ => True) /\ match seqD d1, seqD d2 with
    | some xs, some ys => φ (zipD xs ys)
    | _, _ => False
  | _ => False
theorem ei_zip {es : List Expr} {kk : Nat} {tp : Pos} {a b : Expr} {t : TDs} {p pos : Pos} (hm : X.mg "zip" = none) (ha : EA Γ X [a, b] t) (hg : Gl X "zip" := by rfl)
    (he : starEach [a, b] X.env = (false, eval a X.env) :: starEach [b] X.env := by rfl) (hpl : (backTo pos (starEach [b] X.env)).any (·.1) = false := by rfl) : EI Γ X (.Tuple es kk tp) (.Call (.Name "zip" p) [a, b] [] pos) (iZ t) := fun H₀ => impI (pi_zip hg hm (ha H₀) he hpl) fun σ H R q => by
  obtain ⟨ρ, o, RE, φ, hφ, k⟩ := q
  refine ⟨ρ, o, RE, _, hφ, fun vs rs H1 s1 rvs h1 => ?_⟩
  split at h1
  · rename_i k1 d1 k2 d2
    obtain ⟨n1, n2, h1⟩ := h1
    obtain ⟨v1, w1, rfl, q1, v2, w2, rfl, q2, rfl⟩ := rvs
    have p1 := q1.solid (notOwn n1)
    have p2 := q2.solid (notOwn n2)
    split at h1
    · rename_i xs ys e1 e2
      obtain ⟨b1, l1, rfl, z1⟩ := SeqP.of p1 e1
      obtain ⟨b2, l2, rfl, z2⟩ := SeqP.of p2 e2
      obtain ⟨us, y1, _⟩ := z1.sq e1
      obtain ⟨ws, y2, _⟩ := z2.sq e2
      exact ⟨b1, b2, l1, l2, us, ws, rfl, y1, y2, k _ _ _ H1 s1 (it_zip e1 e2) ⟨z1, z2⟩ h1⟩
    · exact h1.elim
  · exact h1.elim
noncomputable def intsD : List D -> Option (List Int)
  | [] => some []
  | .int n :: r => (intsD r).map (n :: ·)
  | _ :: _ => none
theorem intsD_map : ∀ (ns : List Int), intsD (ns.map D.int) = some ns
  | [] => rfl
  | n :: ns => by rw [List.map_cons, intsD, intsD_map ns]; rfl
end
noncomputable def frzS : DE -> Nat -> DE
  | [], _ => []
  | x :: r, 0 => x.map (fun r => dv r.d) :: r
  | x :: r, i + 1 => x :: frzS r i
theorem frzS_get : ∀ (ρ : DE) (i j : Nat), (frzS ρ i)[j]? = if j = i then ρ[j]?.map (fun x => x.map fun r => dv r.d) else ρ[j]?
  | [], i, j => by simp [frzS]
  | x :: r, 0, 0 => rfl
  | x :: r, 0, j + 1 => by simp [frzS]
  | x :: r, i + 1, 0 => by simp [frzS]
  | x :: r, i + 1, j + 1 => by
    have := frzS_get r i j
    simp only [frzS, List.getElem?_cons_succ, this]
    by_cases h : j = i
    · simp [h]
    · rw [if_neg h, if_neg (by omega)]
theorem frzS_len : ∀ (ρ : DE) (i : Nat), (frzS ρ i).length = ρ.length
  | [], _ => rfl
  | _ :: _, 0 => rfl
  | x :: r, i + 1 => by simp [frzS, frzS_len r i]
theorem REnv.frz1 {K : PySem.W.Frag} {H₀ H : Hp} {σ : St} {ρ : DE} {o : List (Nat × Addr)} (R : REnv K H₀ H σ ρ o) (i : Nat) : ∃ o', REnv K H₀ H σ (frzS ρ i) o' /\ ∀ p ∈ o', p ∈ o := by
  refine ⟨o.filter fun p => decide (p.1 ≠ i), ?_, fun p hp => (List.mem_filter.mp hp).1⟩
  have sub : ∀ p ∈ o.filter (fun p => decide (p.1 ≠ i)), p ∈ o := fun p hp => (List.mem_filter.mp hp).1
  have subA : ∀ a ∈ (o.filter (fun p => decide (p.1 ≠ i))).map Prod.snd, a ∈ o.map Prod.snd := fun a ha => by
    obtain ⟨p, hp, e⟩ := List.mem_map.mp ha
    exact List.mem_map.mpr ⟨p, sub p hp, e⟩
  exact {
    same := R.same
    fresh := fun p hp => R.fresh p (sub p hp)
    trk := fun p hp => R.trk p (sub p hp)
    mtb := fun p hp => R.mtb p (sub p hp)
    nda := List.Nodup.sublist (List.Sublist.map _ List.filter_sublist) R.nda
    len := by rw [frzS_len]; exact R.len
    slots := fun j r e => by
      rw [frzS_get] at e
      by_cases hj : j = i
      · rw [if_pos hj] at e
        cases e1 : ρ[j]? with
        | none => rw [e1] at e; cases e
        | some x =>
          rw [e1] at e
          cases x with
          | none => cases e
          | some r' =>
            have e' : some (dv r'.d) = some r := Option.some.inj e
            cases e'
            obtain ⟨v, ev, q⟩ := R.slots j r' e1
            refine ⟨v, ev, .inl ⟨rfl, ?_⟩⟩
            rcases q with ⟨_, q⟩ | ⟨_, a, rfl, m, c⟩
            · exact Rep.sub subA _ _ q
            · refine (c.sub subA).rep fun z => ?_
              obtain ⟨p, hp, ep⟩ := List.mem_map.mp z
              have := inj_snd R.nda (sub p hp) m ep
              have hne := of_decide_eq_true (List.mem_filter.mp hp).2
              rw [this] at hne
              exact hne hj
      · rw [if_neg hj] at e
        obtain ⟨v, ev, q⟩ := R.slots j r e
        refine ⟨v, ev, ?_⟩
        rcases q with ⟨k, q⟩ | ⟨k, a, e1, m, c⟩
        · exact .inl ⟨k, Rep.sub subA _ _ q⟩
        · exact .inr ⟨k, a, e1, List.mem_filter.mpr ⟨m, decide_eq_true hj⟩, c.sub subA⟩ }
noncomputable def sFrz (i : Nat) (t : TDS) : TDS := fun ρ Z => t (frzS ρ i) Z
theorem sd_frz (i : Nat) {X : Cx} {st : Stmt} {t : TDS} (h : SD Γ X st t) : SD Γ X st (sFrz i t) := fun H₀ => impS (h H₀) fun D σ H h => by
  obtain ⟨ρ, o, R, Z, hZ, k1, k2, k3, k4⟩ := h
  obtain ⟨o', R', sub⟩ := R.frz1 i
  have g : Grow (o.map Prod.snd) (o'.map Prod.snd) H H := ⟨fun b u h n => ⟨h, fun z => n (by
    obtain ⟨p, hp, e⟩ := List.mem_map.mp z
    exact List.mem_map.mpr ⟨p, sub p hp, e⟩)⟩, fun b xs h => h, fun b ob u h => h⟩
  exact ⟨_, o', R', Z, hZ, fun ρ2 σ2 H2 o2 g2 R2 q2 => k1 ρ2 σ2 H2 o2 (g.trans g2) R2 q2, fun ρ2 σ2 H2 o2 g2 R2 q2 => k2 ρ2 σ2 H2 o2 (g.trans g2) R2 q2, fun ρ2 σ2 H2 o2 g2 R2 q2 => k3 ρ2 σ2 H2 o2 (g.trans g2) R2 q2, k4⟩
end DL
namespace DL
open PySem PySem.Spec L2 L3
open PyProof.Rows hiding St
variable {Γ : Hp -> Prop}
noncomputable def blsD : List D -> Option (List Bool)
  | [] => some []
  | .bl b :: r => (blsD r).map (b :: ·)
  | _ :: _ => none
theorem blsD_of : ∀ {ds : List D} {bs : List Bool}, blsD ds = some bs -> ds = bs.map D.bl
  | [], bs, h => by cases h; rfl
  | d :: r, bs, h => by
    cases d with
    | bl n =>
      cases e : blsD r with
      | none => unfold blsD at h; rw [e] at h; cases h
      | some ms =>
        unfold blsD at h
        rw [e] at h
        cases h
        rw [blsD_of e]
        rfl
    | _ => cases h
theorem blsD_map : ∀ (bs : List Bool), blsD (bs.map D.bl) = some bs
  | [] => rfl
  | b :: bs => by rw [List.map_cons, blsD, blsD_map bs]; rfl
theorem reps_bls {K : PySem.W.Frag} {H : Hp} {O : List Addr} : ∀ {bs : List Bool} {xs : List V}, Reps K H O (bs.map D.bl) xs -> xs = bs.map V.bl
  | [], _, h => h
  | n :: bs, xs, h => by
    obtain ⟨v, r, rfl, q, t⟩ := h
    rw [reps_bls t]
    cases (show v = _ from q)
    rfl
section
variable {X : Cx} {e : Expr} {es : List Expr} {t : TDs} {p pos : Pos}
noncomputable def sAllL (g : List Bool -> Bool) : FT := fun ds φ => match ds with
  | [.lst l] => match blsD l with
    | some bs => φ (dv (.bl (g bs)))
    | none => False
  | _ => False
theorem link_all {f : List V -> Bool} {g : List Bool -> Bool} (hf : ∀ bs : List Bool, f (bs.map V.bl) = g bs) : LinkC X.K (rAll X.K f) (sAllL g) := by
  intro H O ds vs φ Q ho hv h k
  unfold sAllL at h
  split at h
  · rename_i l
    split at h
    · rename_i bs en
      obtain ⟨v, ws, rfl, ⟨a, xs, rfl, q, r⟩, rfl⟩ := hv
      have el := blsD_of en
      subst el
      have := reps_bls r
      subst this
      refine ⟨a, _, rfl, .inl (SqL.of q), fun y hy => ?_, ?_⟩
      · obtain ⟨b, _, rfl⟩ := List.mem_map.mp hy
        rfl
      · rw [hf]
        exact k _ _ H (Same.refl H) (by exact rfl) h
    · exact h.elim
  · exact h.elim
theorem ed_allC (hm : X.mg "all" = none) (ha : EA Γ X (e :: es) t) (hc : X.calm = true := by rfl) (hg : Gl X "all" := by rfl) (he : starEach (e :: es) X.env = (false, eval e X.env) :: starEach es X.env := by rfl) (hpl : (backTo pos (starEach es X.env)).any (·.1) = false := by rfl) : ED Γ X (.Call (.Name "all" p) (e :: es) [] pos) (dCB (sAllL fun bs => bs.all id) t) :=
  ed_callB (call_all_seq hc) (link_all fun bs => by
    induction bs with
    | nil => rfl
    | cons b bs ih => rw [List.map_cons, List.all_cons, List.all_cons, ih]; cases b <;> rfl) hm (by kernel_rfl) ha hg (by decide) (by decide) he hpl
end
end DL
namespace DL
open PySem PySem.Spec L2 L3
open PyProof.Rows hiding St
variable {Γ : Hp -> Prop}
section
variable {X : Cx} {a b e ix : Expr} {es : List Expr} {t : TDs} {ta tb te tk : TD} {pos : Pos}
noncomputable def popD (ds : List D) : Option (List D × D) := match ds.getLast? with
  | some d => some (ds.dropLast, d)
  | none => none
theorem popD_app (ds : List D) (d : D) : popD (ds ++ [d]) = some (ds, d) := by
  unfold popD
  simp
end
end DL
namespace DL
open PySem PySem.Spec L2 L3
open PyProof.Rows hiding St
noncomputable def g1 (g : D -> (EV -> Prop) -> Prop) : FT := fun ds φ => match ds with
  | [d] => g d φ
  | _ => False
noncomputable def g2 (g : D -> D -> (EV -> Prop) -> Prop) : FT := fun ds φ => match ds with
  | [d, e] => g d e φ
  | _ => False
noncomputable def g3 (g : D -> D -> D -> (EV -> Prop) -> Prop) : FT := fun ds φ => match ds with
  | [d, e, f] => g d e f φ
  | _ => False
theorem f1_of {g : D -> (EV -> Prop) -> Prop} {ds : List D} {φ : EV -> Prop} (h : g1 g ds φ) : ∃ d, ds = [d] /\ g d φ := by
  unfold g1 at h
  split at h
  · exact ⟨_, rfl, h⟩
  · exact h.elim
theorem f2_of {g : D -> D -> (EV -> Prop) -> Prop} {ds : List D} {φ : EV -> Prop} (h : g2 g ds φ) : ∃ d e, ds = [d, e] /\ g d e φ := by
  unfold g2 at h
  split at h
  · exact ⟨_, _, rfl, h⟩
  · exact h.elim
theorem cut_seq {t u : TDS} {ρ : DE} {Z : DZ} (J : DE -> Prop) (h1 : t ρ { Z with nx := J }) (h2 : ∀ ρ2, J ρ2 -> u ρ2 Z) : sSeq (sCut t) u ρ Z := ⟨J, h1, h2⟩
end DL
namespace L2
open PySem PySem.Spec PyProof.Rows
theorem entry_upd_loop : entryFor table "dict.update.loop" = some Builtin.«dict.update.loop» := entryFor_of_tree (by kernel_rfl)
theorem plain_upd_loop : plainId "dict.update.loop" = true := by decide +kernel
theorem miss_list_keys : typeLookup (.type "list") "keys" = pure none := by rw [typeLookup_type, builtinLookup_eq_fast]; kernel_rfl
section
variable {prog : Program} {w : World} {A : Around} {E : Value -> Shared -> Prop} {s : Shared}
theorem keys_none {a : Addr} {xs : Array Value} {Q : Option Value -> Shared -> Prop} (hl : PlainL s.heap a xs) (hA : A.handled = none)
    (h : ∀ h' tk, (∀ b o, s.heap.get? b = some o -> h'.get? b = some o) -> Q none { s with heap := h', toks := tk }) : wpAny (model prog w) A (getAttr? (.ref a) "keys") Q E s := by
  obtain ⟨o, k, hx, hc, hd, hdat⟩ := hl
  obtain ⟨c, dct, dat, sl⟩ := o
  simp only at hc hdat hd
  subst hc hdat hd
  obtain ⟨hp, g, d, tk, os⟩ := s
  have hT : ∀ tk', (⟨hp, g, d, tk', os⟩ : Shared).TypeIs (.ref a) "list" := fun _ => ⟨_, hx, rfl⟩
  have f1 := sub_AttributeError
  have f3 := F.slot_list_getattribute.lookup
  have f4 := F.slot_list_getattribute.bind (.ref a)
  have f5 := am_list_getattr_none
  unfold getAttr? getAttrBy? getAttrBy
  repeat (any_goals (first | assumption | exact hT _ | ((with_reducible show wpAny _ _ (call (Value.builtin "list.__getattribute__") _ _) _ _ _); refine call_meets F.slot_list_getattribute (hT _) am_entry_list_getattribute (F.args_list_getattribute_2 _ _) (meets_getattribute_miss_list a xs k sl "keys" _ miss_list_keys (by decide +kernel) (by size_fits)) ⟨hx, hA, fun h' tk' e hx' => ?_⟩) | wp_step))
  obtain ⟨t', u', he⟩ := hx'.there
  show wpAny _ _ (getattributeRaised _ _ _ _ _ _ _) _ _ _
  unfold getattributeRaised
  repeat (any_goals (first | assumption | wp_step))
  exact h _ _ hx'.keeps
end
section
variable {prog : Program} {w : World} {K : Type} [DecidableEq K] {knd : KeyKind prog w K} {A : Around} {s : Shared} {R : Result -> Shared -> Prop}
noncomputable def PairAt (knd : KeyKind prog w K) (h : Heap) (v : Value) (kx : K × Value) : Prop := ∃ b o n key, v = .ref b /\ h.get? b = some o /\ o.cls = .type "tuple" /\ o.data = .seq #[key, kx.2] n /\ knd.is kx.1 key = true
theorem stored_new {kvs : List (K × Value)} {k : K} {x : Value} (h : k ∉ kvs.map (·.1)) : stored kvs k x = kvs ++ [(k, x)] := by
  unfold stored
  rw [if_neg]
  intro z
  rw [List.any_eq_true] at z
  obtain ⟨p, hp, e⟩ := z
  exact h (List.mem_map.mpr ⟨p, hp, by simpa using e⟩)
theorem upd_loop (hh : A.handled = none) (d it l : Addr) (hdi : d ≠ it) (hdl : d ≠ l) (hli : l ≠ it) (its : List Value) (more : List (K × Value)) (hlen : its.length = more.length) (hnd : (more.map (·.1)).Nodup) (hsz : more.length <= sizeLine) :
    ∀ (k i : Nat) (s : Shared), its.length = i + k -> s.heap.IsListIter it l i -> s.heap.IsList l its.toArray -> s.heap.DictOf knd d (more.take i) ->
    (∀ (j : Nat) v kx, its[j]? = some v -> more[j]? = some kx -> PairAt knd s.heap v kx) ->
    (∀ h' tk, h'.DictOf knd d more -> (∀ b o, b ≠ d -> b ≠ it -> s.heap.get? b = some o -> h'.get? b = some o) -> R (.ok (.ret .none)) { s with heap := h', toks := tk }) ->
    codeAny (model prog w) A (.builtin "dict.update.loop" ⟨[.ref d, .ref it, rawInt (i : Int), .none], []⟩) R s := by
  intro k
  induction k with
  | zero =>
    intro i s hk hi hl hd hp hR
    refine codeAny_builtin entry_upd_loop ?_
    rw [Around.under_plainId plain_upd_loop _]
    have W := Walks.list (prog := prog) (w := w) (A := A.in1) hh it l hli its.toArray
    show wpAny _ A.in1 (pyNext (.ref it) >>= _) _ _ s
    refine wpAny_bind (W.done s _ _ ⟨by simpa [hk] using hi, hl⟩ fun h' tk hk' => ?_)
    show wpAny _ A.in1 (Builtin.Dict.addKeywords d [] >>= _) _ _ _
    refine wpAny_bind (wpAny_pure (wpAny_pure ?_))
    refine hR h' tk ?_ fun b o _ hb e => hk' b o (by simpa using hb) e
    rw [List.take_of_length_le (by omega)] at hd
    obtain ⟨o, es, ep, ho, r⟩ := hd
    exact ⟨o, es, ep, hk' d o (by simpa using hdi) ho, r⟩
  | succ k ih =>
    intro i s hk hi hl hd hp hR
    refine codeAny_builtin entry_upd_loop ?_
    rw [Around.under_plainId plain_upd_loop _]
    have W := Walks.list (prog := prog) (w := w) (A := A.in1) hh it l hli its.toArray
    show wpAny _ A.in1 (pyNext (.ref it) >>= _) _ _ s
    refine wpAny_bind (W.item i s _ _ (by simp; omega) ⟨hi, hl⟩ fun v h' tk hv hst' hk' => ?_)
    have hv' : its[i]? = some v := by simpa using hv
    have him : i < more.length := by omega
    obtain ⟨kx, ekx⟩ : ∃ kx, more[i]? = some kx := ⟨more[i], List.getElem?_eq_getElem him⟩
    have hd' : h'.DictOf knd d (more.take i) := by
      obtain ⟨o, es, ep, ho, r⟩ := hd
      exact ⟨o, es, ep, hk' d o (by simpa using hdi) ho, r⟩
    have hp' : ∀ (j : Nat) v kx, its[j]? = some v -> more[j]? = some kx -> PairAt knd h' v kx := fun j v kx h1 h2 => by
      obtain ⟨b, o, n, key, e1, e2, e3, e4, e5⟩ := hp j v kx h1 h2
      refine ⟨b, o, n, key, e1, hk' b o ?_ e2, e3, e4, e5⟩
      intro z
      have : b = it := by simpa using z
      subst this
      obtain ⟨o', ho', hc', _⟩ := hi
      rw [ho'] at e2
      cases e2
      rw [hc'] at e3
      exact absurd e3 (by decide)
    obtain ⟨b, o, n, key, rfl, hb, hbc, hbd, hkey⟩ := hp' i v kx hv' ekx
    have hT : ({ s with heap := h', toks := tk } : Shared).TypeIs (.ref b) "tuple" := ⟨o, hb, hbc⟩
    refine wpAny_bind (wpAny_holding ?_)
    refine wpAny_bind (wpAny_tryCatch ?_)
    show wpAny _ A.in1 (typeOf (.ref b) >>= _) _ _ _
    refine wpAny_bind (wpAny_typeOf hT ?_)
    show wpAny _ A.in1 (seqItems? (.ref b) >>= _) _ _ _
    refine wpAny_bind (wpAny_seqItems hb hbd (wpAny_pure ?_))
    show wpAny _ A.in1 (holding [key, kx.2] (dictSet d key kx.2)) _ _ _
    have hnew : kx.1 ∉ (more.take i).map (·.1) := by
      have e : more.take (i + 1) = more.take i ++ [kx] := by rw [List.take_succ, ekx]; rfl
      have h4 : ((more.take (i + 1)).map (·.1)).Nodup := hnd.sublist ((List.take_sublist _ _).map _)
      rw [e, List.map_append, List.nodup_append] at h4
      intro z
      exact h4.2.2 _ z kx.1 (by simp) rfl
    refine wpAny_holding (wpAny_dictSet_pairs (hsz := by rw [List.length_take]; omega) hkey hd' fun h2 dd hs => ?_)
    rw [stored_new hnew, show more.take i ++ [(kx.1, kx.2)] = more.take (i + 1) by rw [List.take_succ, ekx]; rfl] at dd
    refine wpAny_pure ⟨plainId_quiet plain_upd_loop _, ?_⟩
    have keep : ∀ b o, b ≠ d -> h'.get? b = some o -> h2.get? b = some o := fun b o hb e => (hs.2 b hb).trans e
    refine ih (i + 1) _ (by omega) ?_ ?_ dd ?_ fun h3 tk3 d3 k3 => ?_
    · obtain ⟨o', ho', r'⟩ := hst'.1
      exact ⟨o', keep _ _ (Ne.symm hdi) ho', r'⟩
    · obtain ⟨o', ho', r'⟩ := hst'.2
      exact ⟨o', keep _ _ (Ne.symm hdl) ho', r'⟩
    · intro j v kx h1 h2'
      obtain ⟨b, o, n, key, e1, e2, e3, e4, e5⟩ := hp' j v kx h1 h2'
      refine ⟨b, o, n, key, e1, keep b o ?_ e2, e3, e4, e5⟩
      intro z
      subst z
      obtain ⟨o', es, ep, ho', hc', hdat, _⟩ := hd'
      rw [ho'] at e2
      cases e2
      rw [hdat] at e4
      cases e4
    · exact hR h3 tk3 d3 fun b o h1 h2' e => k3 b o h1 h2' (keep b o h1 (hk' b o (by simpa using h2') e))
theorem call_dict_pairs {E : Value -> Shared -> Prop} {l : Addr} {its : List Value} {more : List (K × Value)} {Q : Value -> Shared -> Prop} (hh : A.handled = none) (hl : PlainL s.heap l its.toArray) (hlen : its.length = more.length) (hnd : (more.map (·.1)).Nodup) (hsz : more.length <= sizeLine)
    (hp : ∀ (j : Nat) v kx, its[j]? = some v -> more[j]? = some kx -> PairAt knd s.heap v kx)
    (h : ∀ h' tk, h'.DictOf knd s.heap.objs.size more -> (∀ b o, s.heap.get? b = some o -> h'.get? b = some o) -> Q (.ref s.heap.objs.size) { s with heap := h', toks := tk }) :
    wpAny (model prog w) A (call (.type "dict") [.ref l]) Q E s := by
  refine callType_codes (Q₁ := fun obj s₁ => obj = .ref s.heap.objs.size /\ s₁ = { s with heap := s.heap.push { cls := .type "dict", data := .dict #[] } }) F.kt_called_dict (F.kt_typeCall_dict_1 _) F.entry_dict_init (kt_code_dict_new _ ⟨rfl, rfl⟩) ?_
  rintro obj s₁ ⟨rfl, rfl⟩
  have hnew : (s.heap.push { cls := .type "dict", data := .dict #[] }).DictOf knd s.heap.objs.size [] := Heap.DictOf.new s.heap
  have k1 : ∀ b o, s.heap.get? b = some o -> (s.heap.push { cls := .type "dict", data := .dict #[] }).get? b = some o := fun b o e => Heap.get?_push_of_some _ e
  have hl1 := hl.keeps k1
  have hls : l < s.heap.objs.size := by obtain ⟨o, n, e, _⟩ := hl; exact Heap.lt_size e
  refine ⟨hnew.typeIs, F.args_dict_init_2 _ _, ?_⟩
  unfold Builtin.«dict.__init__»
  refine wpAny_bind ?_
  unfold Builtin.Dict.selfAndRest
  refine wpAny_bind (wpAny_notOrdered_dict hnew.typeIs ?_)
  show wpAny _ _ (pure (s.heap.objs.size, [Value.ref l])) _ _ _
  refine wpAny_pure ?_
  show wpAny _ _ (Builtin.Dict.updateFrom "dict.__init__" s.heap.objs.size (.ref l) [] .none) _ _ _
  unfold Builtin.Dict.updateFrom
  refine wpAny_bind (wpAny_typeOf hl1.isList.typeIs ?_)
  rw [if_pos (by decide)]
  refine wpAny_bind (keys_none hl1 hh fun h2 tk2 k2 => ?_)
  rw [if_pos (by rfl)]
  refine wpAny_bind (wpAny_rule ?_)
  have hl2 := (hl1.keeps k2).isList
  have hlt : l < h2.objs.size := by obtain ⟨o, e, _⟩ := hl2; exact Heap.lt_size e
  refine wpAny_bind (wpAny_pyIter_list hl2 ?_)
  have hdlt : s.heap.objs.size < h2.objs.size := by
    obtain ⟨o, es, ep, ho, _⟩ := hnew
    exact Heap.lt_size (k2 _ _ ho)
  refine wpAny_pure ⟨plainId_quiet plain_upd_loop _, ?_⟩
  refine upd_loop (knd := knd) (A := A.in1) hh s.heap.objs.size h2.objs.size l (Nat.ne_of_lt hdlt) (Nat.ne_of_gt hls) (Nat.ne_of_lt hlt) its more hlen hnd hsz its.length 0 _ (by omega) ?_ ?_ ?_ ?_ fun h3 tk3 d3 k3 => ?_
  · exact ⟨_, Heap.get?_push_size _ rfl, rfl, rfl⟩
  · exact hl2.push _
  · obtain ⟨o, es, ep, ho, r⟩ := hnew
    exact ⟨o, es, ep, Heap.get?_push_of_some _ (k2 _ _ ho), r⟩
  · intro j v kx h1 h2'
    obtain ⟨b, o, n, key, e1, e2, e3, e4, e5⟩ := hp j v kx h1 h2'
    exact ⟨b, o, n, key, e1, Heap.get?_push_of_some _ (k2 _ _ (k1 _ _ e2)), e3, e4, e5⟩
  · refine ⟨rfl, h h3 tk3 d3 fun b o e => k3 b o ?_ ?_ (Heap.get?_push_of_some _ (k2 _ _ (k1 _ _ e)))⟩
    · exact Nat.ne_of_lt (Heap.lt_size e)
    · exact Nat.ne_of_lt (Nat.lt_trans (Heap.lt_size e) hdlt)
end
end L2
namespace L2
open PySem PySem.Spec PyProof.Rows
theorem lri_no_len : typeLookup (.type "list_reverseiterator") "__len__" = pure none := by rw [typeLookup_type, builtinLookup_eq_fast]; kernel_rfl
theorem lri_hint : typeLookup (.type "list_reverseiterator") "__length_hint__" = pure (some (.builtin "list_reverseiterator.__length_hint__")) := by rw [typeLookup_type, builtinLookup_eq_fast]; kernel_rfl
section
variable {prog : Program} {w : World} {A : Around} {E : Value -> Shared -> Prop} {s : Shared}
theorem hint_rev {r : Addr} {Q : Bool -> Shared -> Prop} (hT : s.TypeIs (.ref r) "list_reverseiterator") (h : Q false s) : wpAny (model prog w) A (Builtin.List.listLengthHint (.ref r)) Q E s := by
  unfold Builtin.List.listLengthHint
  refine wpAny_bind (wpAny_specialOf hT lri_no_len ?_)
  show wpAny _ A (specialOf (Value.ref r) (Str.ofString "__length_hint__") >>= _) _ _ _
  refine wpAny_bind (wpAny_specialOf hT lri_hint ?_)
  generalize hid : ("list_reverseiterator.__length_hint__" : String) = id0
  wp_delta
  rw [show splitId id0 = some ("list_reverseiterator", "__length_hint__") from by subst hid; decide +kernel]
  subst hid
  refine wpAny_bind (wpAny_isInstance (T := "list_reverseiterator") (b := true) hT (by rw [isSubtype_type]; kernel_rfl) ?_)
  refine wpAny_ite_split (fun hab => absurd hab (by decide)) (fun _ => ?_)
  refine wpAny_ite_split (fun _ => ?_) (fun hab => absurd (by decide +kernel) hab)
  refine wpAny_ite_split (fun hab => absurd hab (by decide)) (fun _ => ?_)
  exact wpAny_pure h
theorem list_rev {l r : Addr} {items : Array Value} {Q : Value -> Shared -> Prop} (hh : A.handled = none) (hl : s.heap.IsList l items) (hr : s.heap.IsRevIter r l ((items.size : Int) - 1)) (hne : l ≠ r) (hn : items.size <= sizeLine)
    (hQ : ∀ h' tk acc' c', (∀ b o, b ≠ r -> s.heap.get? b = some o -> h'.get? b = some o) -> h'.get? s.heap.objs.size = some { cls := .type "list", dict := none, data := .seq acc' c', slots := #[] } ->
      ItemsOf (fun i v => items[items.size - 1 - i]? = some v) acc' items.size -> Q (.ref s.heap.objs.size) { s with heap := h', toks := tk }) :
    wpAny (model prog w) A (call (.type "list") [.ref r]) Q E s := by
  refine callType_codes (Q₁ := fun obj s₁ => obj = .ref s.heap.objs.size /\ s₁ = { s with heap := s.heap.push { cls := .type "list", data := .seq #[] } }) PySem.F.called_list (PySem.F.typeCall_list_1 _) PySem.F.entry_list_init
    (code_list_new _ ⟨rfl, rfl⟩) fun obj s₁ h₁ => ?_
  obtain ⟨rfl, rfl⟩ := h₁
  have hS : (s.heap.push { cls := .type "list", data := .seq #[] }).get? s.heap.objs.size = some { cls := .type "list", data := .seq #[] } := Heap.get?_push_size _ rfl
  have hrs : r < s.heap.objs.size := by obtain ⟨o, e, _⟩ := hr; exact Heap.lt_size e
  have hls : l < s.heap.objs.size := by obtain ⟨o, e, _⟩ := hl; exact Heap.lt_size e
  have W := Walks.listRev (prog := prog) (w := w) (A := A.in1.in1) hh r l hne items
  have hSf : s.heap.objs.size ∉ [r, l] := by
    simp only [List.mem_cons, List.not_mem_nil, or_false, not_or]
    exact ⟨Nat.ne_of_gt hrs, Nat.ne_of_gt hls⟩
  refine ⟨⟨_, hS, rfl⟩, PySem.F.args_list_init_2 _ _, ?_⟩
  show wpAny _ _ (do let old <- Builtin.List.listItems (.ref s.heap.objs.size); Builtin.List.listUpdate (.ref s.heap.objs.size) (fun _ => #[]); letGo old.toList.reverse; Builtin.List.listExtendWith (.ref s.heap.objs.size) (.ref r) .none) _ _ _
  refine wpAny_bind ?_
  unfold Builtin.List.listItems
  refine wpAny_bind (wpAny_seqItems hS rfl (wpAny_pure ?_))
  show wpAny _ _ (updateSeq s.heap.objs.size (fun _ => #[]) >>= fun _ => letGo (#[] : Array Value).toList.reverse >>= fun _ => Builtin.List.listExtendWith (.ref s.heap.objs.size) (.ref r) .none) _ _ _
  refine wpAny_bind (wpAny_updateSeq hS rfl ?_)
  have hS₂ := Heap.get?_update_self (Obj.mapSeq (fun _ => (#[] : Array Value))) hS rfl
  have oth : ∀ b o, s.heap.get? b = some o -> ((s.heap.push { cls := .type "list", data := .seq #[] }).update s.heap.objs.size (Obj.mapSeq (fun _ => (#[] : Array Value)))).get? b = some o :=
    fun b o e => (Heap.get?_update_other _ _ (Nat.ne_of_gt (Heap.lt_size e))).trans (Heap.get?_push_of_some _ e)
  refine wpAny_bind (wpAny_letGo ?_)
  have hr2 := hr.at fun o e => oth r o e
  have hl2 := hl.at fun o e => oth l o e
  unfold Builtin.List.listExtendWith
  refine wpAny_bind (wpAny_typeOf (T := "list_reverseiterator") hr2.typeIs ?_)
  have h1 : Builtin.List.listSameRef (.ref s.heap.objs.size) (.ref r) = false := by simp [Builtin.List.listSameRef, Nat.ne_of_gt hrs]
  simp only [h1, show (Value.type "list_reverseiterator" == Value.type "list") = false by decide, show (Value.type "list_reverseiterator" == Value.type "tuple") = false by decide, Bool.or_false, Bool.false_eq_true, if_false]
  refine wpAny_bind (wpAny_pyIter_revIter hr2 ?_)
  refine wpAny_bind (wpAny_holding (hint_rev hr2.typeIs ?_))
  refine wpAny_ite_split (fun hab => absurd hab (by decide)) (fun _ => ?_)
  refine wpAny_pure ⟨plainId_quiet PySem.F.plain_extend_loop _, codeAny_extend_loopS W.toS hn _ hSf .none items.size 0 _ #[] _ rfl (Nat.zero_le _) ⟨Nat.zero_le _, by simpa using hr2, hl2⟩ hS₂ (ItemsOf.nil _) fun s' acc' c' hm hS' hacc => ?_⟩
  rw [Moved.eq_with hm]
  refine ⟨rfl, hQ s'.heap s'.toks acc' c' (fun b o hb e => hm.heap b o (fun hmem => ?_) (oth b o e)) hS' hacc⟩
  rcases List.mem_cons.mp hmem with e' | hmem
  · exact absurd (Heap.lt_size e) (by rw [e']; exact Nat.lt_irrefl _)
  · exact hb (by simpa using hmem)
end
end L2
namespace L2
open PySem PySem.Spec PyProof.Rows
section
variable {X : Cx}
noncomputable def PairsOf (K : PySem.W.Frag) (H : Hp) : List V -> List (Key × V) -> Prop := Paired fun p kv => ∃ b, p = V.ref b /\ SqT K H b [kV kv.1, kv.2]
theorem call_dictP (hc : X.calm = true) : CallR X (.type "dict") (fun xs H Q => ∃ a ps kvs, xs = [.ref a] /\ SqL X.K H a ps /\ PairsOf X.K H ps kvs /\ (kvs.map (·.1)).Nodup /\ ∀ p, H p = none -> Q (.ref p) (upd H p (.dK kvs))) := by
  intro pins s σ H xs us Q I r h
  obtain ⟨a, ps, kvs, rfl, ha, hp, hn, q⟩ := h
  obtain ⟨u, rfl, ru⟩ := vals1 r
  cases ru
  obtain ⟨its, rv, pl, hz⟩ := I.list ha
  have hlen : ps.length = kvs.length := hp.length
  have hli := rv.length
  have ex : ∃ more : List (Key × Value), KV kvs more /\ ∀ (j : Nat) v kx, its[j]? = some v -> more[j]? = some kx -> PairAt (mixKind X.prog X.w) s.heap v kx := by
    clear hn q hz pl hlen hli ha
    induction rv generalizing kvs with
    | nil => cases hp; exact ⟨[], .nil, fun j v kx e => by simp at e⟩
    | cons r1 r2 ih =>
      cases hp with
      | cons h t =>
        obtain ⟨more, k1, k2⟩ := ih _ t
        obtain ⟨b, rfl, sq⟩ := h
        cases r1
        obtain ⟨ts, rt, ⟨o, e1, e2, n, e3⟩, _⟩ := I.tuple sq
        cases rt with
        | cons t1 rt =>
          cases rt with
          | cons t2 rt =>
            cases rt
            rename_i kk key x
            refine ⟨(_, x) :: more, .cons ⟨rfl, t2⟩ k1, fun j v kx h1 h2 => ?_⟩
            cases j with
            | zero =>
              simp at h1 h2
              subst h1 h2
              exact ⟨b, o, n, key, rfl, e1, e2, e3, kV_is t1⟩
            | succ j => exact k2 j v kx (by simpa using h1) (by simpa using h2)
  obtain ⟨more, k1, k2⟩ := ex
  have hml : kvs.length = more.length := k1.length
  have hkeys : more.map (·.1) = kvs.map (·.1) := by
    clear hn q hp hlen k2 hml
    induction k1 with
    | nil => rfl
    | cons h t ih => rw [List.map_cons, List.map_cons, ih, h.1]
  have hb := I.big
  refine call_dict_pairs (knd := mixKind X.prog X.w) (I.ok.hd hc) pl (by omega) (by rw [hkeys]; exact hn) (by omega) k2 fun h' tk hd keep => ?_
  refine ⟨.ref s.heap.objs.size, _, I.laid (t' := tk) (a := s.heap.objs.size) (o := .dK kvs) keep (Nat.le_refl _) ?_, rfl, q _ (I.hok.fresh (Nat.le_refl _))⟩
  exact dk_new (by omega) (by simpa using (Nat.ne_of_gt hb)) k1 hd
noncomputable def tListRev (K : PySem.W.Frag) (te : TE) : TE := fun σ H Q => te σ H fun x H1 => ∃ a xs, x = .ref a /\ SqL K H1 a xs /\ ∀ p, H1 p = none -> Q (.ref p) (upd H1 p (.lst xs.reverse))
theorem Vals.rev {xs : List V} {us : List Value} (r : Vals xs us) : Vals xs.reverse us.reverse := by
  induction r with
  | nil => exact .nil
  | cons h t ih =>
    rw [List.reverse_cons, List.reverse_cons]
    exact ih.append (.cons h .nil)
theorem pe_listRev {e : Expr} {te : TE} {p p2 pos pos2 : Pos} (hc : X.calm = true) (hg : Gl X "list") (hm : X.mg "list" = none) (hg2 : Gl X "reversed") (hm2 : X.mg "reversed" = none) (he : PE X e te)
    (h1 : starEach [.Call (.Name "reversed" p2) [e] [] pos2] X.env = (false, eval (.Call (.Name "reversed" p2) [e] [] pos2) X.env) :: starEach [] X.env := by rfl)
    (h2 : starEach [e] X.env = (false, eval e X.env) :: starEach [] X.env := by rfl) :
    PE X (.Call (.Name "list" p) [.Call (.Name "reversed" p2) [e] [] pos2] [] pos) (tListRev X.K te) := by
  intro pins s σ H Q I h
  refine wpAny_Call_Name_kw (ld_blt I hg hm DL.boot_list' ?_ (by decide) (by decide))
  refine PyProof.Rows.callWith_type1 ?_ h1 (by rfl)
  rw [h1]
  show wpAny _ _ (spliced ((false, eval _ X.env) :: backTo pos (starEach [] X.env))) _ _ s
  refine Calls.spliced_cons ?_
  refine wpAny_Call_Name_kw (ld_blt I hg2 hm2 PyProof.Rows.boot_reversed ?_ (by decide) (by decide))
  refine PyProof.Rows.callWith_type1 ?_ h2 (by rfl)
  rw [h2]
  show wpAny _ _ (spliced ((false, eval _ X.env) :: backTo pos2 (starEach [] X.env))) _ _ s
  refine Calls.spliced_cons (thn (he pins s σ H _ I h) fun u s1 ⟨x, H1, I1, r1, q1⟩ => ?_)
  obtain ⟨a, xs, rfl, sq, q⟩ := q1
  cases r1
  refine Calls.spliced_nil ?_
  obtain ⟨its, rv, pl, hz⟩ := I1.list sq
  have hl := pl.isList
  have hals : a < s1.heap.objs.size := by obtain ⟨o, e, _⟩ := hl; exact Heap.lt_size e
  refine call_reversed_list hl (Calls.spliced_nil ?_)
  have hlen := rv.length
  refine list_rev (A := X.A) (I1.ok.hd hc) (hl.push _) (r := s1.heap.objs.size) ⟨_, Heap.get?_push_size _ rfl, rfl, rfl⟩ (Nat.ne_of_lt hals) (by simp; omega) fun h' tk acc' c' keep hD hacc => ?_
  have keep' : ∀ b o, s1.heap.get? b = some o -> h'.get? b = some o := fun b o e => keep b o (Nat.ne_of_lt (Heap.lt_size e)) (Heap.get?_push_of_some _ e)
  have eacc : acc'.toList = its.reverse := by
    apply List.ext_getElem?
    intro j
    by_cases hj : j < acc'.size
    · have h3 := hacc.2 j acc'[j] (by simp [hj])
      have h4 : acc'.size = its.length := by simpa using hacc.1
      rw [List.getElem?_reverse (by omega)]
      have h5 : its[its.length - 1 - j]? = some acc'[j] := by simpa using h3
      rw [h5]
      simp [hj]
    · have h4 : acc'.size = its.length := by simpa using hacc.1
      rw [List.getElem?_eq_none (by simpa using hj), List.getElem?_eq_none (by simp; omega)]
  have hsz : s1.heap.objs.size <= (s1.heap.push (revObj a ((its.toArray.size : Int) - 1))).objs.size := by rw [size_push']; exact Nat.le_succ _
  have hok : ObjOk X.prog X.w (upd H1 (s1.heap.push (revObj a ((its.toArray.size : Int) - 1))).objs.size (.lst xs.reverse)) h' (s1.heap.push (revObj a ((its.toArray.size : Int) - 1))).objs.size (.lst xs.reverse) :=
    ⟨by simpa using hz, its.reverse, c', Vals.rev rv, by rw [<- eacc]; simpa using hD⟩
  exact ⟨.ref (s1.heap.push (revObj a ((its.toArray.size : Int) - 1))).objs.size, _, I1.laid (t' := tk) keep' hsz hok, rfl, q _ (I1.hok.fresh hsz)⟩
end
end L2
namespace DL
open PySem PySem.Spec L2 L3
open PyProof.Rows hiding St
variable {Γ : Hp -> Prop}
section
variable {X : Cx} {e ke : Expr} {es : List Expr} {t : TDs} {te tk : TD} {p p2 pos pos2 : Pos}
noncomputable def kD : Key -> D
  | .inl i => .int i
  | .inr x => .str x
noncomputable def pairsD (ks : List Key) (ds : List D) : List D := (ks.zip ds).map fun q => .tup [kD q.1, q.2]
noncomputable def sDictP : FT := fun xs φ => match xs with
  | [.lst l] => ∃ ks ds, l = pairsD ks ds /\ ks.length = ds.length /\ ks.Nodup /\ φ (df (.dk ks ds))
  | _ => False
theorem rep_kD {K : PySem.W.Frag} {H : Hp} {O : List Addr} {k : Key} {v : V} (h : Rep K H O (kD k) v) : v = kV k := by
  cases k with
  | inl i => exact h
  | inr x => exact h
theorem reps_pairs {K : PySem.W.Frag} {H : Hp} {O : List Addr} : ∀ (ks : List Key) (ds : List D) (ps : List V), ks.length = ds.length -> Reps K H O (pairsD ks ds) ps -> ∃ xs, PairsOf K H ps (ks.zip xs) /\ Reps K H O ds xs
  | [], [], ps, _, h => by
    cases (show ps = [] from h)
    exact ⟨[], .nil, rfl⟩
  | [], _ :: _, _, h, _ => by cases h
  | _ :: _, [], _, h, _ => by cases h
  | k :: ks, d :: ds, ps, hl, h => by
    obtain ⟨v, ws, rfl, ⟨a, zs, rfl, sq, r⟩, hr⟩ := h
    obtain ⟨v1, w1, rfl, r1, v2, w2, rfl, r2, rfl⟩ := r
    cases rep_kD r1
    obtain ⟨xs, h1, h2⟩ := reps_pairs ks ds ws (by simpa using hl) hr
    exact ⟨v2 :: xs, .cons ⟨a, rfl, sq.1⟩ h1, v2, xs, rfl, r2, h2⟩
theorem keys_zip {α β : Type} : ∀ (ks : List α) (xs : List β), ks.length = xs.length -> (ks.zip xs).map (·.1) = ks
  | [], _, _ => rfl
  | k :: ks, [], h => by cases h
  | k :: ks, x :: xs, h => by
    rw [List.zip_cons_cons, List.map_cons, keys_zip ks xs (by simpa using h)]
theorem ed_dictP (hm : X.mg "dict" = none) (ha : EA Γ X (e :: es) t) (hc : X.calm = true := by rfl) (hg : Gl X "dict" := by rfl) (he : starEach (e :: es) X.env = (false, eval e X.env) :: starEach es X.env := by rfl) (hpl : (backTo pos (starEach es X.env)).any (·.1) = false := by rfl) : ED Γ X (.Call (.Name "dict" p) (e :: es) [] pos) (dCB sDictP t) :=
  ed_callTy (call_dictP hc) (fun H O ds vs φ Q ho hv h k => by
    unfold sDictP at h
    split at h
    · obtain ⟨ks, ds, rfl, hl, nd, h⟩ := h
      obtain ⟨v, ws, rfl, ⟨a, xs, rfl, q, r⟩, rfl⟩ := hv
      obtain ⟨zs, h1, h2⟩ := reps_pairs ks ds xs hl r
      have hz : ks.length = zs.length := by rw [hl, h2.length]
      exact ⟨a, xs, _, rfl, SqL.of q, h1, by rw [keys_zip ks zs hz]; exact nd, fun p hp => k _ (df (.dk _ _)) _ (same_new hp _) ⟨p, rfl, hp, ho p hp, zs, upd_same, hl, nd, Reps.grow (grow_new hp) _ _ h2⟩ h⟩
    · exact h.elim) hm boot_dict' ha hg (by decide) (by decide) he hpl
noncomputable def dListRev (te : TD) : TD := fun ρ φ => te ρ fun r => match r.d with
  | .lst l => φ (df (.lst l.reverse))
  | _ => False
theorem Reps.rev {K : PySem.W.Frag} {H : Hp} {O : List Addr} : ∀ {ds : List D} {xs : List V}, Reps K H O ds xs -> Reps K H O ds.reverse xs.reverse
  | [], xs, h => by
    cases (show xs = [] from h)
    exact rfl
  | d :: ds, xs, h => by
    obtain ⟨v, ws, rfl, h1, h2⟩ := h
    rw [List.reverse_cons, List.reverse_cons]
    exact (Reps.rev h2).append (Reps.one h1)
theorem ed_listRev (hm : X.mg "list" = none) (hm2 : X.mg "reversed" = none) (he : ED Γ X e te) (hc : X.calm = true := by rfl) (hg : Gl X "list" := by rfl) (hg2 : Gl X "reversed" := by rfl)
    (h1 : starEach [.Call (.Name "reversed" p2) [e] [] pos2] X.env = (false, eval (.Call (.Name "reversed" p2) [e] [] pos2) X.env) :: starEach [] X.env := by rfl)
    (h2 : starEach [e] X.env = (false, eval e X.env) :: starEach [] X.env := by rfl) :
    ED Γ X (.Call (.Name "list" p) [.Call (.Name "reversed" p2) [e] [] pos2] [] pos) (dListRev te) := fun H₀ => impE (pe_listRev hc hg hm hg2 hm2 (he H₀) h1 h2) fun σ H Q q => by
  obtain ⟨ρ, o, R, φ, hφ, k⟩ := q
  refine ⟨ρ, o, R, _, hφ, fun v r H1 s1 rv h1 => ?_⟩
  have vw := rv.view
  obtain ⟨k1, d1⟩ := r
  cases d1 with
  | lst l =>
    obtain ⟨a, xs, rfl, q, r⟩ := vw
    exact ⟨a, xs, rfl, SqL.of q, fun p hp => k _ (df (.lst _)) _ (s1.trans (same_new hp _)) (RV.start (rv_lst (fun a => (R.to s1).ofree) hp (Reps.rev r)) s1) h1⟩
  | _ => exact h1.elim
end
end DL
namespace L2
open PySem PySem.Spec PyProof.Rows
section
variable {X : Cx} {tg : Expr} {pins : List (Addr × Obj)} {σ : St} {H : Hp} {s : Shared} {a : Addr} {ob : Obj} {kvs : List (Key × V)}
noncomputable def Itv (a : Addr) (ob : Obj) (kvs : List (Key × V)) : It := ⟨fun i H => H a = some (.frz ob (.dK kvs)) /\ i < kvs.length, fun i H x H' => H' = H /\ ∃ k, kvs[i]? = some (k, x), fun i H => H a = some (.frz ob (.dK kvs)) /\ i = kvs.length⟩
end
end L2
namespace DL
open PySem PySem.Spec L2 L3
open PyProof.Rows hiding St
variable {Γ : Hp -> Prop}
noncomputable abbrev TK := List Key
noncomputable instance decMemTK (k : TK) (ks : List TK) : Decidable (k ∈ ks) := decidable_of_iff (ks.any (fun x => decide (x = k)) = true) (by simp)
noncomputable def keysD : List D -> Option (List Key)
  | [] => some []
  | d :: ds => match keyD d, keysD ds with
    | some k, some ks => some (k :: ks)
    | _, _ => none
noncomputable def keyT : D -> Option TK
  | .tup ds => keysD ds
  | _ => none
end DL
namespace L2
open PySem PySem.Spec PySem.W PyProof.Rows
noncomputable def RawD (h : Heap) (d : Addr) (rows : Array DictEntry) (ep : Nat) : Prop := ∃ o, h.get? d = some o /\ o.ExactDict /\ o.data = .dict rows ep
theorem RawD.lt {h : Heap} {d : Addr} {rows : Array DictEntry} {ep : Nat} (x : RawD h d rows ep) : d < h.objs.size := let ⟨_, g, _⟩ := x; Heap.lt_size g
end L2
namespace L2
open PySem PySem.Spec PySem.W PyProof.Rows
section
variable {n : Nat} {cmp : Nat -> Nat -> (Bool -> Shared -> Prop) -> Shared -> Prop} {s : Shared}
noncomputable abbrev POrd (n : Nat) (p : Array Nat) : Prop := p.Perm (List.toArray (List.range n))
theorem POrd.lt {p : Array Nat} (h : POrd n p) (hn : 0 < n) (i : Nat) : p.getD i 0 < n := by
  by_cases hi : i < p.size
  · have e : p.getD i 0 = p[i] := by simp [Array.getD, hi]
    rw [e]
    have m : p[i] ∈ List.toArray (List.range n) := h.mem_iff.mp (Array.getElem_mem hi)
    simpa using m
  · have e : p.getD i 0 = 0 := by simp [Array.getD, hi]
    omega
end
end L2
namespace DL
open PySem PySem.Spec L2 L3
open PyProof.Rows hiding St
variable {Γ : Hp -> Prop}
noncomputable def tkD (k : TK) : D := .tup (k.map kD)
end DL
namespace DL
open PySem PySem.Spec L2 L3
open PyProof.Rows hiding St
variable {Γ : Hp -> Prop}
section
variable {X : Cx} {a b c : Expr} {ta tb tc : TD} {pos : Pos}
noncomputable def dChain (p q : Int -> Int -> Bool) (ta tb tc : TD) : TD := fun ρ φ => ta ρ fun x => tb ρ fun y => match x.d, y.d with
  | .int i, .int j => (p i j = true -> tc ρ fun z => match z.d with
      | .int k => φ (dv (.bl (q j k)))
      | _ => False) /\ (p i j = false -> φ (dv (.bl false)))
  | _, _ => False
theorem lift_chain {p q : Int -> Int -> Bool} {H₀ : Hp} {rr rr' : R2} (h1 : ∀ i j H Q, Q (.bl (p i j)) H -> rr (.int i) (.int j) H Q) (h2 : ∀ i j H Q, Q (.bl (q i j)) H -> rr' (.int i) (.int j) H Q) :
    ∀ σ H Q, liftE X.K H₀ (dChain p q ta tb tc) σ H Q -> tChain rr rr' (liftE X.K H₀ ta) (liftE X.K H₀ tb) (liftE X.K H₀ tc) σ H Q := fun σ H Q h => by
  obtain ⟨ρ, o, R, φ, hφ, k⟩ := h
  refine ⟨ρ, o, R, _, hφ, fun v1 r1 H1 s1 rv1 g1 => ⟨ρ, o, R.to s1, _, g1, fun v2 r2 H2 s2 rv2 g2 => ?_⟩⟩
  split at g2
  · rename_i i j ei ej
    have e1 := rv1.view
    have e2 := rv2.view
    rw [ei] at e1
    rw [ej] at e2
    cases (show v1 = _ from e1)
    cases (show v2 = _ from e2)
    refine h1 i j H2 _ ⟨p i j, rfl, ?_⟩
    cases hp : p i j with
    | false => exact k _ _ H2 (s1.trans s2) (by exact rfl) (g2.2 hp)
    | true =>
      refine ⟨ρ, o, (R.to s1).to s2, _, g2.1 hp, fun v3 r3 H3 s3 rv3 g3 => ?_⟩
      split at g3
      · rename_i l el
        have e3 := rv3.view
        rw [el] at e3
        cases (show v3 = _ from e3)
        exact h2 j l H3 _ (k _ _ H3 (s1.trans (s2.trans s3)) (by exact rfl) g3)
      · exact g3.elim
  · exact g2.elim
theorem lift_tst {t : TD} {H₀ : Hp} {e : Expr} {u : TE} (hp : PT X e (tTest u)) (hl : ∀ σ H Q, liftE X.K H₀ t σ H Q -> u σ H Q) : PT X e (liftT X.K H₀ (tBo t)) := impT hp fun σ H Q h => by
  obtain ⟨ρ, o, R, φ, hφ, k⟩ := h
  refine hl σ H _ ⟨ρ, o, R, _, hφ, fun v r H' s1 rv h1 => ?_⟩
  obtain ⟨kd, d⟩ := r
  cases d with
  | bl b => exact ⟨b, rv.view, k b H' s1 h1⟩
  | _ => exact h1.elim
theorem et_leLe (ha : ED Γ X a ta) (hb : ED Γ X b tb) (hc : ED Γ X c tc) (hm : lastMarks [CmpOp.LtE, .LtE] [b, c] = false := by with_unfolding_all rfl) : ET Γ X (.Compare a [.LtE, .LtE] [b, c] pos) (tBo (dChain (fun i j => decide (i <= j)) (fun i j => decide (i <= j)) ta tb tc)) := fun H₀ =>
  lift_tst (pt_chain op_le op_le (ha H₀) (hb H₀) (hc H₀) hm) (lift_chain (fun i j H Q h => ⟨i, j, rfl, rfl, h⟩) fun i j H Q h => ⟨i, j, rfl, rfl, h⟩)
end
end DL
namespace L2
open PySem PySem.Spec PyProof.Rows
section
variable {prog : Program} {w : World} {A : Around} {E : Value -> Shared -> Prop} {s : Shared}
theorem draw_lst {J l : Addr} {its : Array Value} (ne : l ≠ J) : ∀ (n i : Nat) (s : Shared) (Q : List Value -> Shared -> Prop), s.heap.IsListIter J l i -> s.heap.IsList l its -> i + n <= its.size ->
    (∀ h', h'.IsListIter J l (i + n) -> h'.IsList l its -> Heap.SameBut J s.heap h' -> Q ((its.toList.drop i).take n) { s with heap := h' }) -> wpAny (model prog w) A (draw (.ref J) n) Q E s
  | 0, i, s, Q, y, hl, _, q => by
    show wpAny _ _ (pure []) Q E s
    apply wpAny_pure
    have := q s.heap y hl (Heap.SameBut.refl ..)
    simpa using this
  | n + 1, i, s, Q, y, hl, le, q => by
    have lt : i < its.size := by omega
    show wpAny _ _ (pyNext (.ref J) >>= _) Q E s
    apply wpAny_bind
    refine wpAny_pyNext_list_item y hl (x := its[i]) (by simp [lt]) fun h1 y1 s1 => ?_
    have hl1 : h1.IsList l its := hl.at fun o e => s1.extBut l o ne e
    apply wpAny_bind; apply wpAny_holding
    refine draw_lst ne n (i + 1) _ _ y1 hl1 (by omega) fun h2 y2 hl2 s2 => wpAny_pure (?_ : _)
    have e0 : its.toList.drop i = its[i] :: its.toList.drop (i + 1) := by simp [List.drop_eq_getElem_cons, lt]
    have := q h2 (by rw [show i + (n + 1) = i + 1 + n by omega]; exact y2) hl2 (s1.trans s2)
    rw [e0, List.take_succ_cons] at this
    exact this
theorem unpack_lst {env : Env} {elts : List Expr} {x1} {pos : Pos} {l : Addr} {its : Array Value} {Q : Unit -> Shared -> Prop} (hh : A.handled = none) (hl : s.heap.IsList l its) (hn : (assignEach elts env).length = its.size) (hs : (assignEach elts env).findIdx? (·.1) = none)
    (q : ∀ h', Heap.ExtBut s.heap.objs.size s.heap h' -> wpAny (model prog w) A (assignInOrder ((assignEach elts env).map (·.2)) its.toList) Q E { s with heap := h' }) : wpAny (model prog w) A (assign (.Tuple elts x1 pos) env (.ref l)) Q E s := by
  have ne : l ≠ s.heap.objs.size := by obtain ⟨o, e, _⟩ := hl; exact Nat.ne_of_lt (Heap.lt_size e)
  rw [assign_Tuple]
  apply wpAny_bind; apply wpAny_standAt
  unfold unpack
  rw [hn, hs]
  apply wpAny_bind; apply wpAny_holding
  unfold unpackItems
  apply wpAny_bind
  unfold notIterableAtAll
  apply wpAny_bind
  refine wpAny_specialOf hl.typeIs PySem.F.slot_list_iter.lookup (?_ : _)
  apply wpAny_pure
  simp only [Bool.false_eq_true, if_false]
  apply wpAny_bind; apply wpAny_holding
  refine wpAny_pyIter_list hl (?_ : _)
  apply wpAny_bind; apply wpAny_holding
  refine draw_lst ne its.size 0 _ _ ⟨_, Heap.get?_push_size _ rfl, rfl, rfl⟩ (hl.push _) (by omega) fun h1 y1 hl1 s1 => ?_
  rw [show List.take its.size (List.drop 0 its.toList) = its.toList by rw [List.drop_zero]; exact List.take_of_length_le (by simp)]
  rw [if_neg (show ¬ _ by simp)]
  apply wpAny_bind; apply wpAny_holding
  refine wpAny_pyNext_list_end hh y1 hl1 (by simp) fun h2 e2 => ?_
  simp only [Option.isSome_none, Bool.false_eq_true, if_false]
  refine wpAny_pure (q h2 fun b o hb e => e2 b o hb (s1.extBut b o hb (Heap.get?_push_of_some _ e)))
end
section
variable {X : Cx}
noncomputable def gLst (K : PySem.W.Frag) (n : Nat) (t : TGs) : TG := fun v σ H Q => ∃ a xs, v = .ref a /\ SqL K H a xs /\ xs.length = n /\ t xs σ H Q
theorem pg_lstK {K0 : PySem.W.Frag} {es : List Expr} {k : Nat} {t : TGs} {n : Nat} {pos : Pos} (hK : X.K = K0) (hc : X.calm = true) (h : PGs X es t) (hn : (assignEach es X.env).length = n := by rfl) (hst : (assignEach es X.env).findIdx? (·.1) = none := by rfl) : PG X (.Tuple es k pos) (gLst K0 n t) := by
  subst hK
  intro pins s σ H v u Q I r hw
  obtain ⟨a, xs, e1, hq, hl, hw⟩ := hw
  subst e1
  cases r
  obtain ⟨its, rv, ht, hz⟩ := I.list hq
  refine unpack_lst (I.ok.hd hc) ht.isList (by simp [hn, <- hl, rv.length]) hst fun h' hx => ?_
  have I1 : Inv X pins σ H { s with heap := h' } := I.kept (t' := s.toks) fun b o e => hx b o (Nat.ne_of_lt (Heap.lt_size e)) e
  exact h pins _ σ H xs _ Q I1 (by simpa using rv) hw
end
end L2
namespace DL
open PySem PySem.Spec L2 L3
open PyProof.Rows hiding St
variable {Γ : Hp -> Prop}
section
variable {X : Cx} {σ : St} {scope : Scope} {T F : List Str} {js : List Nat} {tg iter elt : Expr} {ifs : List Expr} {pos : Pos} {ti : TID} {g2 : TG} {g : TGD} {tc : TDb} {te : TD}
noncomputable def dCompP (ti : TID) (n : Nat) (js : List Nat) (g : TGD) (tc : TDb) (te : TD) : TD := fun ρ φ => ti ρ fun ds => ∃ P : Nat -> List D -> Prop, ds.length <= 100000 /\ P 0 [] /\
  (∀ (i : Nat) (d : D) (es : List D), ds[i]? = some d -> es.length <= i -> P i es -> g d (ρ0 n js ρ) fun ρ' => tc ρ' fun c => (c = true -> te ρ' fun r => (match r.k with | .own => False | _ => True) /\ P (i + 1) (es ++ [r.d])) /\ (c = false -> P (i + 1) es)) /\ ∀ es, P ds.length es -> φ (df (.lst es))
theorem lift_compP {H₀ : Hp} (nd : js.Nodup) (hl : GLink X.K g2 g) : ∀ σ H Q, liftE X.K H₀ (dCompP ti T.length js g tc te) σ H Q -> tComp (liftI X.K H₀ ti) T js g2 (liftT X.K H₀ tc) (liftE X.K H₀ te) σ H Q := fun σ H Q q => by
    obtain ⟨ρ, o, R, φ, hφ, k⟩ := q
    refine ⟨ρ, o, R, _, hφ, fun J ds P H1 s1 I hP ⟨PP, hlen, P0, turn, fin⟩ Da hDa => ?_⟩
    have R1 := R.to s1
    have gD : ∀ {H' : Hp}, Same H1 H' -> Grow (o.map Prod.snd) (Da :: o.map Prod.snd) H1 H' := fun s => ⟨fun b u h nb => ⟨s b u h, fun z => (List.mem_cons.mp z).elim (fun e => ne_of_none h hDa e) nb⟩, fun b xs h => s b _ h, fun b ob u h => s b _ h⟩
    refine ⟨fun i m ys H' => m = ds.length - i /\ i <= ds.length /\ Same H1 H' /\ H' Da = some (.lst ys) /\ ∃ es, es.length <= i /\ PP i es /\ Reps X.K H' (Da :: o.map Prod.snd) es ys,
      ⟨_, rfl, Nat.zero_le _, same_new hDa _, upd_same, [], Nat.le_refl _, P0, rfl⟩, ?_⟩
    rintro i m ys H' ⟨rfl, hi', s2, hD', es, le, pe, rp⟩
    refine ⟨hD', ?_⟩
    have hP' := I.keep _ _ _ _ hP (gD s2)
    by_cases hlt : i < ds.length
    · have ed : ds[i]? = some ds[i] := by simp [hlt]
      obtain ⟨j1, j2⟩ := I.go H' _ i _ hP' ed
      refine .inr ⟨j1, fun zs H2 => Same H1 H2 /\ H2 Da = some (.lst zs) /\ ∃ es, es.length <= i + 1 /\ PP (i + 1) es /\ Reps X.K H2 (Da :: o.map Prod.snd) es zs, fun zs H2 ⟨a1, a2, a3⟩ => ⟨_, (by omega : ds.length - (i + 1) < ds.length - i), rfl, hlt, a1, a2, a3⟩, fun x H2 y => ?_⟩
      obtain ⟨s3, rx⟩ := j2 x H2 y
      have s13 := s2.trans s3
      have hD2 := s3 _ _ hD'
      have RB := renv_block (n := T.length) R1 nd hDa s13 hD2 T rfl
      have hO : ((T.length + js.length, Da) :: o.map fun p => (ixO T.length js p.1, p.2)).map Prod.snd = Da :: o.map Prod.snd := by
        rw [List.map_cons, List.map_map]
        rfl
      have rpl : ys.length <= 100000 := by
        rw [rp.length]
        omega
      refine hl H₀ H2 (st0 T js σ) (ρ0 T.length js ρ) _ _ x _ _ RB (by rw [hO]; exact rx) (turn i _ es ed le pe) fun ρ' σ' R' q' => ?_
      refine ⟨ρ', _, R', _, q', fun c H3 s4 h4 => ?_⟩
      have hD3 := s4 _ _ hD2
      cases c with
      | false =>
        exact iteF ⟨s13.trans s4, hD3, es, Nat.le_succ_of_le le, h4.2 rfl, Reps.grow (Grow.same (s3.trans s4)) _ _ rp⟩
      | true =>
        refine iteT ⟨ρ', _, R'.to s4, _, h4.1 rfl, fun v r H4 s5 rv h5 => ?_⟩
        have hD4 := s5 _ _ hD3
        have rd := rv.solid (notOwn h5.1)
        rw [hO] at rd
        have ne : ∀ b u, H1 b = some u -> b ≠ Da := fun b u h => ne_of_none h hDa
        have gu : Grow (Da :: o.map Prod.snd) (Da :: o.map Prod.snd) H4 (upd H4 Da (.lst (ys ++ [v]))) :=
          ⟨fun b u h n => ⟨by rw [upd_ne (fun z => n (List.mem_cons.mpr (.inl z)))]; exact h, n⟩, fun b xs h => by rw [upd_ne (fun z => by rw [z, hD4] at h; cases h)]; exact h, fun b ob u h => by rw [upd_ne (fun z => by rw [z, hD4] at h; cases h)]; exact h⟩
        refine ⟨hD4, Nat.lt_of_le_of_lt rpl (by decide), ⟨fun b u h => ?_, upd_same, es ++ [r.d], by rw [List.length_append]; exact Nat.succ_le_succ le, h5.2, ?_⟩⟩
        · rw [upd_ne (ne b u h)]
          exact s5 _ _ (s4 _ _ (s13 b u h))
        · exact Reps.grow gu _ _ ((Reps.grow (Grow.same (s3.trans (s4.trans s5))) _ _ rp).append (Reps.one rd))
    · have e : i = ds.length := by omega
      subst e
      refine .inl ⟨I.stop H' _ hP', ?_⟩
      exact k (.ref Da) (df (.lst es)) H' (s1.trans s2) ⟨Da, rfl, s1.free hDa, R.ofree (s1.free hDa), ys, hD', rp⟩ (fin es pe)
theorem ed_compP (hi : EI Γ X tg iter ti) (S : CompScope X.env.scope scope T F) (hjs : Paired (fun x j => X.N[j]? = some x) F js) (nd : js.Nodup)
    (hg : ∀ cl C fp s H, PG (cxComp X (T ++ F) scope cl C fp s H) tg g2) (hk : GKeep T.length g2) (hl : GLink X.K g2 g)
    (ht : ∀ cl C fp s H, EIf Γ (cxComp X (T ++ F) scope cl C fp s H) ifs tc) (he : ∀ cl C fp s H, ED Γ (cxComp X (T ++ F) scope cl C fp s H) elt te)
    (hc : X.calm = true := by rfl) (hs : ∀ x, foldedSetIterable iter X.env x = pure x := by intro _; rfl) : ED Γ X (.ListComp elt [⟨tg, iter, ifs, 0⟩] scope pos) (dCompP ti T.length js g tc te) := fun H₀ =>
  impE (pe_comp (tc := liftT X.K H₀.1 tc) (te := liftE X.K H₀.1 te) hc (hi H₀) S hjs hg hk (fun cl C fp s H => ht cl C fp s H H₀) (fun cl C fp s H => he cl C fp s H H₀) hs) (lift_compP nd hl)
theorem dCompP_at {ti : TID} {n : Nat} {js : List Nat} {g : TGD} {tc : TDb} {te : TD} {ρ : DE} {φ : EV -> Prop} (ds : List D) (h : ∀ ψ : List D -> Prop, ψ ds -> ti ρ ψ) (P : Nat -> List D -> Prop) (hl : ds.length <= 100000) (h0 : P 0 [])
    (ht : ∀ (i : Nat) (d : D) (es : List D), ds[i]? = some d -> es.length <= i -> P i es -> g d (ρ0 n js ρ) fun ρ' => tc ρ' fun c => (c = true -> te ρ' fun r => (match r.k with | .own => False | _ => True) /\ P (i + 1) (es ++ [r.d])) /\ (c = false -> P (i + 1) es)) (hφ : ∀ es, P ds.length es -> φ (df (.lst es))) : dCompP ti n js g tc te ρ φ := h _ ⟨P, hl, h0, ht, hφ⟩
end
end DL
namespace DL
open PySem PySem.Spec L2 L3
open PyProof.Rows hiding St
variable {Γ : Hp -> Prop}
section
variable {X : Cx} {σ : St} {scope : Scope} {T F : List Str} {js : List Nat} {tg iter elt : Expr} {ifs : List Expr} {pos : Pos} {ti : TID} {g2 : TG} {g : TGD} {tc : TDb} {te : TD}
theorem sd_setCompP (i : Nat) {y : Str} {py spos : Pos} (hN : X.N.Nodup) (hi : EI Γ X tg iter ti) (S : CompScope X.env.scope scope T F) (hjs : Paired (fun x j => X.N[j]? = some x) F js) (nd : js.Nodup)
    (hg : ∀ cl C fp s H, PG (cxComp X (T ++ F) scope cl C fp s H) tg g2) (hk : GKeep T.length g2) (hl : GLink X.K g2 g)
    (ht : ∀ cl C fp s H, EIf Γ (cxComp X (T ++ F) scope cl C fp s H) ifs tc) (he : ∀ cl C fp s H, ED Γ (cxComp X (T ++ F) scope cl C fp s H) elt te)
    (hc : X.calm = true := by rfl) (hs : ∀ x, foldedSetIterable iter X.env x = pure x := by intro _; rfl) (hy : X.N[i]? = some y := by rfl) (hlo : X.env.scope.names.lookup y = some .local := by rfl) (hsw : swapsWith (.ListComp elt [⟨tg, iter, ifs, 0⟩] scope pos) (some (.Name y py)) spos.line X.env = pure true := by rfl) : SD Γ X (.Assign [.Name y py] (.ListComp elt [⟨tg, iter, ifs, 0⟩] scope pos) spos) (sSet i (dCompP ti T.length js g tc te)) := fun H₀ =>
  impS (ps_setComp (tc := liftT X.K H₀.1 tc) (te := liftE X.K H₀.1 te) hc hN hy (.inl hlo) (hi H₀) S hjs hg hk (fun cl C fp s H => ht cl C fp s H H₀) (fun cl C fp s H => he cl C fp s H H₀) hsw hs (.inr hlo)) fun D σ H h => by
    obtain ⟨ρ, o, R, Z, hZ, k1, k2, k3, k4⟩ := h
    refine lift_compP nd hl σ H _ ⟨ρ, o, R, _, hZ, fun v r H1 s1 rv h1 => ?_⟩
    obtain ⟨o', R', g'⟩ := R.put s1 i rv (notOwn h1.1)
    exact k1 _ _ H1 o' g' R' h1.2
end
end DL
namespace DL
open PySem PySem.Spec L2 L3
open PyProof.Rows hiding St
variable {Γ : Hp -> Prop}
noncomputable def cstD : Cst -> D
  | .int i => .int i
  | .str x => .str x
  | .tup cs => .cn (.tup cs)
section
variable {K : PySem.W.Frag} {H : Hp} {O : List Addr}
theorem rep_cst : ∀ {c : Cst} {v : V}, CRep K c v -> Rep K H O (cstD c) v
  | .int _, _, h => h
  | .str _, _, h => h
  | .tup _, _, h => h
theorem reps_cst : ∀ {cs : List Cst} {xs : List V}, CReps K cs xs -> Reps K H O (cs.map cstD) xs
  | [], _, h => h
  | c :: cs, xs, h => by
    obtain ⟨v, r, e, q, t⟩ := h
    exact ⟨v, r, e, rep_cst q, reps_cst t⟩
theorem cst_sq {cs : List Cst} {v : V} (h : CRep K (.tup cs) v) : ∃ a xs, v = .ref a /\ SqT K H a xs /\ CReps K cs xs := by
  obtain ⟨a, o, its, n, xs, e, l, c, d, z, r, t⟩ := h
  exact ⟨a, xs, e, .inr ⟨o, its, n, l, c, d, z, r⟩, t⟩
theorem creps_strs : ∀ ws : List Str, CReps K (ws.map Cst.str) (ws.map V.str)
  | [] => rfl
  | w :: ws => ⟨_, _, rfl, rfl, creps_strs ws⟩
theorem creps_len : ∀ {cs : List Cst} {xs : List V}, CReps K cs xs -> xs.length = cs.length
  | [], _, h => by cases (show _ = [] from h); rfl
  | c :: cs, xs, h => by
    obtain ⟨v, r, e, q, t⟩ := h
    subst e
    simp [creps_len t]
end
theorem gc_words {K : PySem.W.Frag} {mg : Str -> Option Value} {x : Str} {a : Addr} {o : Obj} {its : Array Value} {n : Nat} {ws : List Str} (hm : mg x = some (.ref a)) (hl : K.lookup a = some o) (hc : o.cls = .type "tuple") (hd : o.data = .seq its n) (hs : its.size <= sizeLine) (hv : Vals (ws.map V.str) its.toList) :
    GC K mg x (.cn (.tup (ws.map Cst.str))) := ⟨.ref a, .ref a, hm, rfl, fun _ _ => ⟨a, o, its, n, _, rfl, hl, hc, hd, hs, hv, creps_strs ws⟩⟩
theorem cst_strs (ws : List Str) : (ws.map Cst.str).map cstD = ws.map D.str := by
  rw [List.map_map]
  rfl
end DL
namespace LQ
open PySem PySem.Spec L2 L3
open PyProof.Rows hiding St
noncomputable def dd (l : List Str) (k : Str) : List Str := if k ∈ l then l else l ++ [k]
noncomputable def fm (val : Nat -> Str) (i : Nat) : List Str := ((List.range i).map val).foldl dd []
theorem fm_succ (val : Nat -> Str) (i : Nat) : fm val (i + 1) = dd (fm val i) (val i) := by
  unfold fm
  rw [List.range_succ, List.map_append, List.foldl_append]
  rfl
theorem mem_dd {l : List Str} {k x : Str} : x ∈ dd l k ↔ x ∈ l \/ x = k := by
  unfold dd
  split
  · rename_i h
    exact ⟨.inl, fun q => q.elim (fun z => z) fun z => z ▸ h⟩
  · rw [List.mem_append, List.mem_singleton]
theorem len_dd (l : List Str) (k : Str) : (dd l k).length = if k ∈ l then l.length else l.length + 1 := by
  unfold dd
  split <;> simp
theorem fold_dd_le : ∀ (l acc : List Str), (l.foldl dd acc).length <= acc.length + l.length
  | [], acc => Nat.le_refl _
  | x :: r, acc => by
    have q := fold_dd_le r (dd acc x)
    have z := len_dd acc x
    rw [List.foldl_cons, List.length_cons]
    split at z <;> omega
theorem fold_dd_eq : ∀ (l acc : List Str), ((l.foldl dd acc).length = acc.length + l.length) ↔ (l.Nodup /\ ∀ x ∈ l, x ∉ acc)
  | [], acc => by simp
  | x :: r, acc => by
    rw [List.foldl_cons, List.length_cons, List.nodup_cons]
    by_cases h : x ∈ acc
    · have e : dd acc x = acc := by unfold dd; rw [if_pos h]
      rw [e]
      have q := fold_dd_le r acc
      constructor
      · intro z; omega
      · intro z; exact absurd h (z.2 x (List.mem_cons_self ..))
    · have e : dd acc x = acc ++ [x] := by unfold dd; rw [if_neg h]
      have q := fold_dd_eq r (acc ++ [x])
      rw [e]
      rw [List.length_append, List.length_singleton] at q
      constructor
      · intro z
        obtain ⟨n1, n2⟩ := q.mp (by omega)
        refine ⟨⟨fun hx => n2 x hx (by simp), n1⟩, fun y hy => ?_⟩
        rcases List.mem_cons.mp hy with rfl | hy
        · exact h
        · exact fun z => n2 y hy (List.mem_append_left _ z)
      · rintro ⟨⟨n0, n1⟩, n2⟩
        have := q.mpr ⟨n1, fun y hy z => by
          rcases List.mem_append.mp z with z | z
          · exact n2 y (List.mem_cons_of_mem _ hy) z
          · rw [List.mem_singleton] at z; subst z; exact n0 hy⟩
        omega
noncomputable def many (l : List Str) : Nat := (l.foldl dd []).length
theorem many_eq (l : List Str) : many l = l.length ↔ l.Nodup := by
  have q := fold_dd_eq l []
  unfold many
  rw [List.length_nil, Nat.zero_add] at q
  rw [q]
  exact ⟨fun z => z.1, fun z => ⟨z, fun _ _ h => (by cases h)⟩⟩
theorem fm_le (val : Nat -> Str) (i : Nat) : (fm val i).length <= i := by
  have := fold_dd_le ((List.range i).map val) []
  unfold fm
  simpa using this
theorem setOf_to {P : Program} {w : World} {h : Heap} {a : Addr} {S S' : Str -> Bool} {n n' : Nat} (q : h.SetOf (strKind P w) a S n) (e : ∀ k, S k = S' k) (en : n = n') : h.SetOf (strKind P w) a S' n' := by
  have z : S = S' := funext e
  subst z en
  exact q
section
variable {P : Program} {w : World} {A : Around} {R : Result -> Shared -> Prop} {it : Addr} {fp wr : List Addr} {G : Array GenState -> Array GenState -> Prop} {n : Nat} {Pv : Nat -> Value -> Prop} {St : Nat -> Shared -> Prop}
theorem set_loop (W : WalksS P w A.in1 it fp wr G n Pv St) (d : Addr) (hd : d ∉ fp) (val : Nat -> Str) (hv : ∀ i v, Pv i v -> ∃ t, v = .str (val i) t) (hb : n + 1 < scanBound) :
    ∀ (k i : Nat) (s : Shared), n - i = k -> i <= n -> St i s -> s.heap.SetOf (strKind P w) d (fun x => decide (x ∈ fm val i)) (fm val i).length ->
      (∀ z, Moved (d :: wr) G s z -> z.heap.SetOf (strKind P w) d (fun x => decide (x ∈ fm val n)) (fm val n).length -> R (.ok (.ret .none)) z) ->
      codeAny (model P w) A (.builtin "set.update.loop" ⟨[.ref d, .ref it], []⟩) R s := by
  have hdw : d ∉ wr := fun h => hd (W.sub _ h)
  have sub : ∀ b ∈ wr, b ∈ d :: wr := fun b hb => List.mem_cons_of_mem _ hb
  intro k
  induction k with
  | zero =>
    intro i s hk hi st q hR
    have e : i = n := by omega
    subst e
    refine codeAny_builtin F.entry_set_update_loop ?_
    rw [Around.under_plainId F.plain_set_update_loop _]
    show wpAny _ A.in1 (pyNext (.ref it) >>= _) _ _ s
    refine wpAny_bind (W.done s _ _ st fun z hm => ?_)
    show wpAny _ A.in1 (ret Value.none) _ _ z
    refine wpAny_pure (hR z (hm.mono sub) ?_)
    obtain ⟨o, es, ep, t, ho, more⟩ := q
    exact ⟨o, es, ep, t, hm.heap d _ hdw ho, more⟩
  | succ k ih =>
    intro i s hk hi st q hR
    have lt : i < n := by omega
    refine codeAny_builtin F.entry_set_update_loop ?_
    rw [Around.under_plainId F.plain_set_update_loop _]
    show wpAny _ A.in1 (pyNext (.ref it) >>= _) _ _ s
    refine wpAny_bind (W.item i s _ _ lt st fun v z hP st2 hm => ?_)
    obtain ⟨t, rfl⟩ := hv i v hP
    have q2 : z.heap.SetOf (strKind P w) d (fun x => decide (x ∈ fm val i)) (fm val i).length := by
      obtain ⟨o, es, ep, tb, ho, more⟩ := q
      exact ⟨o, es, ep, tb, hm.heap d _ hdw ho, more⟩
    show wpAny _ A.in1 (holding [Value.str (val i) t] (setAdd d (.str (val i) t)) >>= _) _ _ z
    refine wpAny_bind (wpAny_holding ?_)
    unfold setAdd
    refine wpAny_holding (wpAny_bind ((strKind P w).pyHash (k := val i) (keyIs_str (val i) t) ?_))
    have room : (fm val i).length + 1 < scanBound := by have := fm_le val i; omega
    refine wpAny_setAddHashed_of (knd := strKind P w) (s := { z with toks := z.toks + 1 }) (keyIs_str (val i) t) rfl q2 room fun h1 sb q3 => ?_
    have q4 : h1.SetOf (strKind P w) d (fun x => decide (x ∈ fm val (i + 1))) (fm val (i + 1)).length :=
      setOf_to q3 (fun x => by rw [fm_succ, Bool.eq_iff_iff]; simp [mem_dd]) (by rw [fm_succ, len_dd]; simp)
    refine wpAny_pure ⟨plainId_quiet F.plain_set_update_loop _, ih (i + 1) _ (by omega) lt (W.frame _ z _ _ st2 (Nat.le_succ _) fun b hb o e => ?_) q4 fun y hm2 q5 => ?_⟩
    · rw [sb.2 b fun h => hd (by rw [<- h]; exact hb)]; exact e
    · refine hR y (Moved.trans W.gtrans ((hm.mono sub).then_heap (Nat.le_succ _) fun b o hb e => ?_) hm2) q5
      rw [sb.2 b fun h => hb (by rw [h]; exact List.mem_cons_self)]; exact e
end
section
variable {P : Program} {w : World} {A : Around} {E : Value -> Shared -> Prop} {s : Shared}
theorem set_strs {l : Addr} {its : Array Value} {val : Nat -> Str} {Q : Value -> Shared -> Prop} (hh : A.handled = none) (hl : s.heap.IsList l its) (hv : ∀ (i : Nat) (v : Value), its[i]? = some v -> ∃ t, v = .str (val i) t) (hb : its.size + 1 < scanBound)
    (h : ∀ (g : Heap) (tk : Nat), g.SetOf (strKind P w) s.heap.objs.size (fun x => decide (x ∈ fm val its.size)) (fm val its.size).length -> (∀ b o, s.heap.get? b = some o -> g.get? b = some o) -> Q (.ref s.heap.objs.size) { s with heap := g, toks := tk }) :
    wpAny (model P w) A (call (.type "set") [.ref l]) Q E s := by
  obtain ⟨c, tl, hmro⟩ := F.called_set.mro
  have hmade := F.called_set.made
  have hsub := F.called_set.sub
  refine wpAny_call (codeAny_of_tree ?_)
  show wpAny _ _ (callAny (.type "set") _) _ _ _
  refine wpAny_pure ⟨Code.quiet_builtin _ (by decide +kernel), codeAny_builtin F.entry_type_call ?_⟩
  rw [Around.under_plain (weight_type_call_type "set" [.ref l] []) rfl]
  have n1 := F.called_set.notType
  have n2 := F.called_set.canCreate
  have n3 := F.typeCall_set_1 (.ref l)
  repeat (any_goals (first | assumption | wp_step))
  refine codeAny_mono (code_set_new_1 (.ref l) (E := E) (Q₁ := fun obj z => ∃ led : Bool, obj = .ref s.heap.objs.size /\ z = { s with heap := s.heap.push { cls := .type "set", dict := none, data := .set #[] 0 (.fresh 0 0 led) } }) fun led => ⟨led, rfl, rfl⟩) fun r z hr => ?_
  cases r with
  | error e => exact hr
  | ok fl =>
    cases fl with
    | ret obj =>
      obtain ⟨led, rfl, rfl⟩ := hr
      have there : (s.heap.push { cls := .type "set", dict := none, data := .set #[] 0 (.fresh 0 0 led) }).get? s.heap.objs.size = some { cls := .type "set", dict := none, data := .set #[] 0 (.fresh 0 0 led) } := Heap.get?_push_size _ rfl
      have ty : Shared.TypeIs { s with heap := s.heap.push { cls := .type "set", dict := none, data := .set #[] 0 (.fresh 0 0 led) } } (.ref s.heap.objs.size) "set" := ⟨_, there, rfl⟩
      have i1 := F.called_set.init.lookup
      have i2 := F.called_set.init.bind (.ref s.heap.objs.size)
      repeat (any_goals (first | assumption | wp_step))
      refine codeAny_mono (codeAny_call_builtin (R := wants (fun r z => r = .none /\ ∃ g tk, z = { s with heap := g, toks := tk } /\ g.SetOf (strKind P w) s.heap.objs.size (fun x => decide (x ∈ fm val its.size)) (fm val its.size).length /\
          (∀ b o, s.heap.get? b = some o -> g.get? b = some o)) E) F.called_set.init.plain F.entry_set_init (check_set_init_1 ty ?_)) fun r2 z2 hr2 => ?_
      · obtain ⟨ol, hol, hcl, nl, hdl⟩ := hl
        obtain ⟨ocls, odict, odata, oslots⟩ := ol
        simp only at hcl hdl
        subst hcl hdl
        have hol2 : (s.heap.push { cls := .type "set", dict := none, data := .set #[] 0 (.fresh 0 0 led) }).get? l = some { cls := .type "list", dict := odict, data := .seq its nl, slots := oslots } := Heap.get?_push_of_some _ hol
        have b1 := F.sub_list_set
        have b2 := F.sub_list_frozenset
        have b3 : (Value.type "list" == Value.type "dict") = false := by decide
        have hl2 : (s.heap.push { cls := .type "set", dict := none, data := .set #[] 0 (.fresh 0 0 led) }).IsList l its := ⟨_, hol2, rfl, nl, rfl⟩
        unfold Builtin.«set.__init__» noKeywords Builtin.Frozenset.updateFrom
        generalize hPI : pyIter = PI
        wp_walk
        subst hPI
        refine wpAny_pyIter_list hl2 ?_
        refine wpAny_bind (wpAny_runValue ?_)
        have ll : l < s.heap.objs.size := Heap.lt_size hol
        have hh3 : A.in1.in1.in1.handled = none := by simp [hh]
        have lne : l ≠ (s.heap.push { cls := .type "set", dict := none, data := .set #[] 0 (.fresh 0 0 led) }).objs.size := by
          rw [Heap.size_push]; exact Nat.ne_of_lt (Nat.lt_succ_of_lt ll)
        have dn : s.heap.objs.size ∉ [(s.heap.push { cls := .type "set", dict := none, data := .set #[] 0 (.fresh 0 0 led) }).objs.size, l] := by
          rw [Heap.size_push]
          simp only [List.mem_cons, List.mem_singleton, List.not_mem_nil, or_false, not_or]
          exact ⟨Nat.ne_of_lt (Nat.lt_succ_self _), Nat.ne_of_gt ll⟩
        refine set_loop ((Walks.list hh3 _ l lne its).toS) s.heap.objs.size dn val (fun i v hx => hv i v hx) hb (its.size - 0) 0 _ (by omega) (Nat.zero_le _) ⟨⟨_, Heap.get?_push_size _ rfl, rfl, rfl⟩, (hl2.push _)⟩ ?first ?last
        case first =>
          have e1 : ((s.heap.push { cls := .type "set", dict := none, data := .set #[] 0 (.fresh 0 0 led) }).push { cls := .type "list_iterator", data := .fields #[.ref l, .int 0 0] }).get? s.heap.objs.size
              = some { cls := .type "set", dict := none, data := .set #[] 0 (.fresh 0 0 led) } := Heap.get?_push_of_some _ there
          exact setOf_to ((setObjOf_fresh (knd := strKind P w) led).setOf e1 (by unfold scanBound; omega)) (fun x => by simp [fm]) rfl
        case last =>
          intro z hm q
          obtain ⟨g, g', d', tk', os'⟩ := z
          have eg : g' = s.gens := hm.gens
          have ed : d' = s.drawn := hm.drawn
          have eo : os' = s.os := hm.os
          subst eg ed eo
          show wpAny _ _ _ _ _ _
          refine wpAny_pure ?_
          show wpAny _ _ (ret Value.none) _ _ _
          refine wpAny_pure ⟨rfl, g, tk', rfl, q, fun b o e => ?_⟩
          have lb := Heap.lt_size e
          have c1 : b ≠ s.heap.objs.size := Nat.ne_of_lt lb
          have c2 : b ≠ (s.heap.push { cls := .type "set", dict := none, data := .set #[] 0 (.fresh 0 0 led) }).objs.size := by
            rw [Heap.size_push]; exact Nat.ne_of_lt (Nat.lt_succ_of_lt lb)
          exact hm.heap b o (by simp only [List.mem_cons, List.mem_singleton, List.not_mem_nil, or_false, not_or]; exact ⟨c1, c2⟩) (Heap.get?_push_of_some _ (Heap.get?_push_of_some _ e))
      · cases r2 with
        | error e => exact hr2
        | ok f2 =>
          cases f2 with
          | ret r =>
            obtain ⟨rfl, g, tk, rfl, q, kp⟩ := hr2
            repeat (any_goals (first | assumption | wp_step))
            exact h _ _ q kp
          | _ => exact hr2.elim
    | _ => exact hr.elim
end
end LQ
namespace LQ
open PySem PySem.Spec L2 L3
open PyProof.Rows hiding St
section
variable {X : Cx}
noncomputable def setO (P : Program) (w : World) (a : Addr) (n : Nat) : HO := .ext fun h => ∃ S, h.SetOf (strKind P w) a S n
theorem valsStr : ∀ {ns : List Str} {us : List Value}, Vals (ns.map V.str) us -> ∀ (i : Nat) (v : Value), us[i]? = some v -> ∃ t, v = .str (ns.getD i "") t
  | [], _, .nil, i, v, e => by simp at e
  | n :: ns, _, .cons r t, 0, v, e => by
    obtain ⟨t', rfl⟩ := r
    simp at e
    exact ⟨t', by rw [<- e]; rfl⟩
  | n :: ns, _, .cons r t, i + 1, v, e => by
    obtain ⟨t', q⟩ := valsStr (ns := ns) t i v (by simpa using e)
    exact ⟨t', by rw [q]; rfl⟩
theorem fm_all (ns : List Str) : fm (fun i => ns.getD i "") ns.length = ns.foldl dd [] := by
  unfold fm
  congr 1
  apply List.ext_getElem
  · simp
  · intro i h1 h2
    simp only [List.getElem_map, List.getElem_range, List.getD_eq_getElem?_getD]
    rw [List.getElem?_eq_getElem h2, Option.getD_some]
theorem call_set_strs (hc : X.calm = true) : CallR X (.type "set") (fun xs H Q => ∃ p ns, xs = [.ref p] /\ SqL X.K H p (ns.map V.str) /\ ns.length <= 1000 /\ ∀ l, H l = none -> Q (.ref l) (upd H l (setO X.prog X.w l (many ns)))) := by
  intro pins s σ H xs us Q I r h
  obtain ⟨p, ns, rfl, hq, hn, q⟩ := h
  obtain ⟨u, rfl, rx⟩ := vals1 r
  cases rx
  obtain ⟨its, rv, pl, hz⟩ := I.list hq
  have hlen : its.length = ns.length := by have := rv.length; rw [List.length_map] at this; exact this.symm
  refine set_strs (val := fun i => ns.getD i "") (I.ok.hd hc) pl.isList (fun i v e => valsStr rv i v (by simpa using e)) (by rw [List.size_toArray, hlen]; unfold scanBound; omega) fun g tk qs kp => ?_
  have ez : its.toArray.size = ns.length := by rw [List.size_toArray]; exact hlen
  rw [ez, fm_all] at qs
  refine ⟨.ref s.heap.objs.size, _, I.laid (t' := tk) kp (Nat.le_refl _) ?_, rfl, q _ I.fresh⟩
  obtain ⟨o, es, ep, t, ho, more⟩ := id qs
  refine ⟨⟨_, qs⟩, ⟨o, ho⟩, fun h1 h2 z k => ?_⟩
  obtain ⟨S, o, es, ep, t, ho, more⟩ := z
  exact ⟨S, o, es, ep, t, k o ho, more⟩
theorem call_len_setO : CallR X (.builtin "len") (fun xs H Q => ∃ p n, xs = [.ref p] /\ H p = some (setO X.prog X.w p n) /\ n <= 1000 /\ Q (.int n) H) := by
  intro pins s σ H xs us Q I r h
  obtain ⟨p, n, rfl, hp, hn, q⟩ := h
  obtain ⟨u, rfl, rx⟩ := vals1 r
  cases rx
  obtain ⟨⟨S, o, es, ep, t, ho, hex, hd, _, _, _, hf, hsz⟩, _⟩ := I.hok p _ hp
  refine call_len_set ho hex hd hf (by rw [hsz]; omega) ⟨.int n, H, I.tok _, ⟨_, by rw [hsz]⟩, q⟩
end
end LQ
namespace LQ
open PySem PySem.Spec L2 L3
open PyProof.Rows hiding St
theorem entry_update_loop : entryFor table "dict.update.loop" = some Builtin.«dict.update.loop» := entryFor_of_tree (by kernel_rfl)
theorem plain_update_loop : plainId "dict.update.loop" = true := by decide +kernel
theorem miss_tuple : typeLookup (.type "tuple") "keys" = pure none := am_miss_of_fast (by kernel_rfl)
section
variable {P : Program} {w : World} {A : Around} {E : Value -> Shared -> Prop} {s : Shared}
theorem keys_tuple {a : Addr} {o : Obj} {xs : Array Value} {k : Nat} {Q : Option Value -> Shared -> Prop} (hx : s.heap.get? a = some o) (hc : o.cls = .type "tuple") (hdat : o.data = .seq xs k) (hd : o.dict = none) (hA : A.handled = none)
    (h : ∀ g tk, (∀ b u, s.heap.get? b = some u -> g.get? b = some u) -> Q none { s with heap := g, toks := tk }) : wpAny (model P w) A (getAttr? (.ref a) "keys") Q E s := by
  obtain ⟨c, dct, dat, sl⟩ := o
  simp only at hc hdat hd
  subst hc hdat hd
  obtain ⟨hp, g, d, tk, os⟩ := s
  have hT : ∀ tk', (⟨hp, g, d, tk', os⟩ : Shared).TypeIs (.ref a) "tuple" := fun _ => ⟨_, hx, rfl⟩
  have f1 := sub_AttributeError
  have f3 := F.slot_tuple_getattribute.lookup
  have f4 := F.slot_tuple_getattribute.bind (.ref a)
  have f5 := am_tuple_getattr_none
  unfold getAttr? getAttrBy? getAttrBy
  repeat (any_goals (first | assumption | exact hT _ | ((with_reducible show wpAny _ _ (call (Value.builtin "tuple.__getattribute__") _ _) _ _ _); refine call_meets F.slot_tuple_getattribute (hT _) am_entry_tuple_getattribute (F.args_tuple_getattribute_2 _ _) (meets_getattribute_miss_tuple a xs k sl "keys" _ miss_tuple (by decide)) ⟨hx, hA, fun h' tk' e hx' => ?_⟩) | wp_step))
  obtain ⟨t', u', he⟩ := hx'.there
  have hE : ∀ tk'', (⟨h', g, d, tk'', os⟩ : Shared).TypeIs (.ref e) "AttributeError" := fun _ => ⟨_, he, rfl⟩
  show wpAny _ _ (getattributeRaised _ _ _ _ _ _ _) _ _ _
  unfold getattributeRaised
  repeat (any_goals (first | assumption | exact hE _ | wp_step))
  exact h _ _ hx'.keeps
end
end LQ
namespace LQ
open PySem PySem.Spec L2 L3
open PyProof.Rows hiding St
section
variable {X : Cx}
theorem tupD {pins : List (Addr × Obj)} {σ : St} {H : Hp} {s : Shared} {p : Addr} {ys : List V} (I : Inv X pins σ H s) (h : H p = some (.tup ys)) : ∃ (its : List Value) (o : Obj) (n : Nat), Vals ys its /\ s.heap.get? p = some o /\ o.cls = .type "tuple" /\ o.data = .seq its.toArray n /\ o.dict = none := by
  obtain ⟨_, its, r, ⟨o, ho, hc, n, hd⟩, o2, ho2, d2⟩ := I.hok p _ h
  rw [ho] at ho2
  cases ho2
  exact ⟨its, o, n, r, ho, hc, hd, d2⟩
end
end LQ
namespace LQ
open PySem PySem.Spec PyProof.Rows
section
variable {P : Program} {w : World} {A : Around} {E : Value -> Shared -> Prop} {s : Shared}
structure ZAt (g : Heap) (z ti to i1 i2 l1 l2 : Addr) (f : Value) (k : Nat) : Prop where
  zz : IsZip g z ti to f
  its : IsPair g ti (.ref i1) (.ref i2)
  out : ∃ a b, IsPair g to a b
  one : g.IsTupleIter i1 l1 k
  two : g.IsListIter i2 l2 k
structure ZNe (z ti to i1 i2 : Addr) : Prop where
  ab : ti ≠ z
  ac : to ≠ z
  ad : i1 ≠ z
  ae : i2 ≠ z
  bc : ti ≠ to
  bd : ti ≠ i1
  be : ti ≠ i2
  cd : to ≠ i1
  ce : to ≠ i2
  de : i1 ≠ i2
noncomputable def ZOff (z to i1 i2 c : Addr) : Prop := c ≠ z /\ c ≠ to /\ c ≠ i1 /\ c ≠ i2
noncomputable abbrev zh1 (h : Heap) (l1 : Addr) : Heap := h.push { cls := .type "tuple_iterator", data := .fields #[.ref l1, .int 0 0] }
noncomputable abbrev zh2 (h : Heap) (l1 l2 : Addr) : Heap := (zh1 h l1).push { cls := .type "list_iterator", data := .fields #[.ref l2, .int 0 0] }
noncomputable abbrev zh3 (h : Heap) (l1 l2 : Addr) : Heap := (zh2 h l1 l2).push { cls := .type "tuple", data := .seq #[.ref h.objs.size, .ref (zh1 h l1).objs.size] }
noncomputable abbrev zh4 (h : Heap) (l1 l2 : Addr) : Heap := (zh3 h l1 l2).push { cls := .type "tuple", data := .seq #[.none, .none] }
noncomputable abbrev zh5 (h : Heap) (l1 l2 : Addr) : Heap := (zh4 h l1 l2).push { cls := .type "zip", data := .fields #[.none, .bool false, .bool false, .ref (zh2 h l1 l2).objs.size, .ref (zh3 h l1 l2).objs.size] }
end
end LQ
namespace LQ
open PySem PySem.Spec L2 L3
open PyProof.Rows hiding St
noncomputable def Itz (l1 l2 : Addr) : It :=
  ⟨fun i H => ∃ xs ys x y, H l1 = some (.tup xs) /\ H l2 = some (.lst ys) /\ xs[i]? = some x /\ ys[i]? = some y,
   fun i H v H' => ∃ T xs ys x y, H T = none /\ v = .ref T /\ H l1 = some (.tup xs) /\ H l2 = some (.lst ys) /\ xs[i]? = some x /\ ys[i]? = some y /\ H' = upd H T (.tup [x, y]),
   fun i H => ∃ xs ys, H l1 = some (.tup xs) /\ H l2 = some (.lst ys) /\ (xs.length <= i \/ ys.length <= i)⟩
noncomputable def iZip (ta : TA) : TI := fun σ H R => ta σ H fun vs H1 => ∃ l1 l2 xs ys, vs = [.ref l1, .ref l2] /\ H1 l1 = some (.tup xs) /\ H1 l2 = some (.lst ys) /\ R (Itz l1 l2) H1
end LQ
namespace LQ
open PySem PySem.Spec L2 L3
open PyProof.Rows hiding St
structure TopDict (P : Program) (w : World) (K : PySem.W.Frag) (a : Addr) (f : Str -> Option Value) : Prop where
  at_ : ∃ es ep, K.lookup a = some { cls := .type "dict", data := .dict es ep } /\ KeysOf (strKind P w) es /\ ∀ k, findBy (strKind P w).is es k = f k
  ne : (a == sysModules) = false
section
variable {X : Cx} {pins : List (Addr × Obj)} {σ : St} {H : Hp} {s : Shared} {a : Addr} {f : Str -> Option Value}
theorem TopDict.map (T : TopDict X.prog X.w X.K a f) (I : Inv X pins σ H s) : s.heap.MapOf (strKind X.prog X.w) a f := by
  obtain ⟨es, ep, lk, hk, hf⟩ := T.at_
  exact ⟨_, es, ep, I.kIn a _ lk, ⟨rfl, rfl, rfl⟩, rfl, hk, hf⟩
theorem isStr_self {P : Program} {w : World} (x : Str) (t : Tok) : (strKind P w).is x (.str x t) = true := by show Value.isStrOf x (.str x t) = true; simp [Value.isStrOf]
theorem op_notInTop (T : TopDict X.prog X.w X.K a f) : OpR X (compareOp .NotIn) (fun x y H Q => ∃ z, x = .str z /\ y = .ref a /\ Q (.bl (!(f z).isSome)) H) := by
  intro pins s σ H x y v u Q I rx ry h
  obtain ⟨z, rfl, rfl, q⟩ := h
  obtain ⟨t, rfl⟩ := rx
  cases ry
  exact wpAny_notIn_of (isStr_self z t) T.ne (T.map I) ⟨.bl _, H, I.tok _, rfl, q⟩
theorem ix_top (T : TopDict X.prog X.w X.K a f) : IxR X (fun x y H Q => ∃ z v u, x = .ref a /\ y = .str z /\ f z = some u /\ RelV v u /\ Q v H) := by
  intro value slice pins s σ H x y v u Q I rx ry h hs
  obtain ⟨z, v', u', rfl, rfl, hf, rv, q⟩ := h
  cases rx
  obtain ⟨t, rfl⟩ := ry
  have m := T.map I
  exact tail_any m.typeIs PySem.F.slot_dict_getitem.lookup (wpAny_getItem_of (isStr_self z t) m hf ⟨v', H, I.tok _, rv, q⟩) hs
end
end LQ
namespace DL
open PySem PySem.Spec L2 L3
open PyProof.Rows hiding St
variable {Γ : Hp -> Prop}
section
variable {X : Cx} {o e a b : Expr} {td te ta tb : TD} {apos cpos pos : Pos}
noncomputable def dGet1 (td tk : TD) : TD := fun ρ φ => td ρ fun r => match r.d with
  | .dk ks ds => tk ρ fun y => (match keyD y.d with
    | some k => φ (dv ((lookA ks ds k).getD .non))
    | none => False)
  | _ => False
theorem ed_get1 (hu : X.A.units + 64 < cLine) (ho : ED Γ X o td) (he : ED Γ X e te) (m : M1 X o "get" apos e cpos := by exact ⟨rfl, rfl, rfl, rfl⟩) : ED Γ X (.Call (.Attribute o "get" apos) [e] [] cpos) (dGet1 td te) := fun H₀ =>
  impE (pe_dget1 (by omega) (ho H₀) (he H₀) m) fun σ H Q q => by
    obtain ⟨ρ, o, R, φ, hφ, kk⟩ := q
    refine ⟨ρ, o, R, _, hφ, fun v r H1 s1 rv h1 => ?_⟩
    obtain ⟨kd, d⟩ := r
    cases d with
    | dk ks ds =>
      obtain ⟨a, xs, rfl, q, l, nd, rp⟩ := rv.view
      refine ⟨a, rfl, .inl ⟨_, .inl q⟩, ρ, o, R.to s1, _, h1, fun v2 r2 H2 s2 rv2 h2 => ?_⟩
      split at h2
      · rename_i k ek
        have q3 := s2 _ _ q
        have hk : v2 = kV k := key_view rv2.view ek
        subst hk
        have rp3 := Reps.grow (Grow.same s2) _ _ rp
        refine ⟨_, DGet.k q3, ?_⟩
        rw [valV_zip]
        have s13 := s1.trans s2
        cases el : lookA ks ds k with
        | none =>
          rw [(reps_look (ks := ks) (k := k) rp3).2 el]
          rw [el] at h2
          exact kk _ (dv .non) H2 s13 (by exact rfl) h2
        | some d =>
          obtain ⟨w, ew, rw⟩ := (reps_look (ks := ks) (k := k) rp3).1 d el
          rw [ew]
          rw [el] at h2
          exact kk _ _ H2 s13 (RV.val rw) h2
      · exact h2.elim
    | _ => exact h1.elim
noncomputable def tabL : List (Str × Cst) -> Str -> Option Cst
  | [], _ => none
  | (k, c) :: r, z => if z = k then some c else tabL r z
structure GT (P : Program) (w : World) (K : PySem.W.Frag) (mg : Str -> Option Value) (x : Str) (tab : List (Str × Cst)) : Prop where
  ex : ∃ a f, mg x = some (.ref a) /\ LQ.TopDict P w K a f /\ (∀ z, tabL tab z = none -> f z = none) /\ ∀ z c, tabL tab z = some c -> ∃ u v, f z = some u /\ RelV v u /\ CRep K c v
noncomputable def dNinTop (tab : List (Str × Cst)) (ta : TD) : TD := fun ρ φ => ta ρ fun r => match r.d with
  | .str z => φ (dv (.bl (!(tabL tab z).isSome)))
  | _ => False
theorem ninTop {P : Program} {w : World} {K : PySem.W.Frag} {f : Str -> Option Value} {tab : List (Str × Cst)} (h1 : ∀ z, tabL tab z = none -> f z = none) (h2 : ∀ z c, tabL tab z = some c -> ∃ u v, f z = some u /\ RelV v u /\ CRep K c v) (z : Str) : (f z).isSome = (tabL tab z).isSome := by
  cases e : tabL tab z with
  | none => rw [h1 z e]; rfl
  | some c =>
    obtain ⟨u, v, e', _⟩ := h2 z c e
    rw [e']
    rfl
theorem et_ninTop {x : Str} {p : Pos} {tab : List (Str × Cst)} (G : GT X.prog X.w X.K X.mg x tab) (ha : ED Γ X a ta) (hg : Gl X x := by rfl) (hd : (x == ("__debug__" : Str)) = false := by decide) (hm : behindInMarks .NotIn (.Name x p) = false := by with_unfolding_all rfl) : ET Γ X (.Compare a [.NotIn] [.Name x p] pos) (tBo (dNinTop tab ta)) := fun H₀ => by
  obtain ⟨t, f, hmx, T, h1, h2⟩ := G.ex
  refine impT (pt_cmpR (LQ.op_notInTop T) (ha H₀) (pe_glob hg hmx (v := .ref t) rfl hd) hm) fun σ H Q q => ?_
  obtain ⟨ρ, o, R, φ, hφ, kk⟩ := q
  refine ⟨ρ, o, R, _, hφ, fun v r H1 s1 rv hh => ?_⟩
  obtain ⟨kd, d⟩ := r
  cases d with
  | str z =>
    cases (show v = _ from rv.view)
    refine ⟨z, rfl, rfl, _, rfl, ?_⟩
    rw [ninTop (P := X.prog) (w := X.w) h1 h2]
    exact kk _ H1 s1 hh
  | _ => exact hh.elim
noncomputable def dIxTop (tab : List (Str × Cst)) (ta : TD) : TD := fun ρ φ => ta ρ fun r => match r.d with
  | .str z => (match tabL tab z with
    | some c => φ (dv (cstD c))
    | none => False)
  | _ => False
theorem ed_ixTop {x : Str} {p : Pos} {tab : List (Str × Cst)} (G : GT X.prog X.w X.K X.mg x tab) (ha : ED Γ X a ta) (hg : Gl X x := by rfl) (hd : (x == ("__debug__" : Str)) = false := by decide) (hs : PlainIx a := by intro _ _; rfl) : ED Γ X (.Subscript (.Name x p) a pos) (dIxTop tab ta) := fun H₀ => by
  obtain ⟨t, f, hmx, T, h1, h2⟩ := G.ex
  refine impE (pe_ix (LQ.ix_top T) (pe_glob hg hmx (v := .ref t) rfl hd) (ha H₀) hs) fun σ H Q q => ?_
  obtain ⟨ρ, o, R, φ, hφ, kk⟩ := q
  refine ⟨ρ, o, R, _, hφ, fun v r H1 s1 rv hh => ?_⟩
  obtain ⟨kd, d⟩ := r
  cases d with
  | str z =>
    cases (show v = _ from rv.view)
    dsimp only at hh
    split at hh
    · rename_i c ec
      obtain ⟨u, w, e', rw', cr⟩ := h2 z c ec
      exact ⟨z, w, u, rfl, rfl, e', rw', kk _ _ H1 s1 (RV.val (rep_cst cr)) hh⟩
    · exact hh.elim
  | _ => exact hh.elim
noncomputable def sIxC : D -> D -> (EV -> Prop) -> Prop := fun x y φ => match x, y with
  | .cn (.tup cs), .int i => (match atI cs i with
    | some c => φ (dv (cstD c))
    | none => False)
  | _, _ => False
theorem atI_creps {K : PySem.W.Frag} {cs : List Cst} {xs : List V} {i : Int} {c : Cst} (r : CReps K cs xs) (h : atI cs i = some c) : ∃ v, atI xs i = some v /\ CRep K c v := by
  unfold atI at h ⊢
  rw [creps_len r]
  cases e : ixN cs.length i with
  | none => rw [e] at h; cases h
  | some j =>
    rw [e] at h
    have get : ∀ {cs : List Cst} {xs : List V} {j : Nat}, CReps K cs xs -> cs[j]? = some c -> ∃ v, xs[j]? = some v /\ CRep K c v := by
      intro cs
      induction cs with
      | nil => intro xs j _ h; simp at h
      | cons c0 cs ih =>
        intro xs j r h
        obtain ⟨v, ws, rfl, q, t⟩ := r
        cases j with
        | zero =>
          simp at h
          subst h
          exact ⟨v, rfl, q⟩
        | succ j =>
          obtain ⟨v', h1, h2⟩ := ih (xs := ws) (j := j) t (by simpa using h)
          exact ⟨v', by simpa using h1, h2⟩
    exact get r h
theorem link_ixC : Link2 X.K (rIx X.K) sIxC := by
  intro H O x y vx vy φ Q ho hx hy h k
  unfold sIxC at h
  split at h
  · rename_i cs i
    obtain ⟨a, xs, rfl, q, cr⟩ := cst_sq (H := H) (show CRep X.K (.tup cs) vx from hx)
    split at h
    · rename_i c ec
      obtain ⟨v, ev, rv⟩ := atI_creps cr ec
      exact .inr (.inl ⟨a, xs, _, v, rfl, hy, q, ev, k _ _ H (Same.refl H) (RV.val (rep_cst rv)) h⟩)
    · exact h.elim
  · exact h.elim
theorem ed_ixC (ha : ED Γ X a ta) (hb : ED Γ X b tb) (hs : PlainIx b := by intro _ _; rfl) : ED Γ X (.Subscript a b pos) (d2 sIxC ta tb) := fun H₀ => impE (pe_ix ix_seq (ha H₀) (hb H₀) hs) (lift2 link_ixC)
noncomputable def sInC (neg : Bool) : D -> D -> (EV -> Prop) -> Prop := fun x y φ => match y with
  | .cn (.tup cs) => flatD x = true /\ (cs.map cstD).all flatD = true /\ φ (dv (.bl (if neg then !inD x (cs.map cstD) else inD x (cs.map cstD))))
  | _ => False
theorem link_inC {neg : Bool} : Link2 X.K (rIn X.K neg) (sInC neg) := by
  intro H O x y vx vy φ Q ho hx hy h k
  unfold sInC at h
  split at h
  · rename_i cs
    obtain ⟨f1, f2, h⟩ := h
    obtain ⟨a, xs, rfl, q, cr⟩ := cst_sq (H := H) (show CRep X.K (.tup cs) vy from hy)
    obtain ⟨g1, g2⟩ := in_reps hx f1 (reps_cst cr) f2
    refine ⟨a, xs, rfl, .inr q, (flat_view hx f1).1, g1, ?_⟩
    rw [g2]
    exact k _ _ H (Same.refl H) (by exact rfl) h
  · exact h.elim
theorem ed_inC (ha : ED Γ X a ta) (hb : ED Γ X b tb) (hm : behindInMarks .In b = false := by with_unfolding_all rfl) : ED Γ X (.Compare a [.In] [b] pos) (d2 (sInC false) ta tb) := ed_cmp op_in_seq link_inC ha hb hm
theorem et_inC (ha : ED Γ X a ta) (hb : ED Γ X b tb) (hm : behindInMarks .In b = false := by with_unfolding_all rfl) : ET Γ X (.Compare a [.In] [b] pos) (tBo (d2 (sInC false) ta tb)) := et_cmp op_in_seq link_inC ha hb hm
end
end DL
namespace LQ
open PySem PySem.Spec L2 L3
open PyProof.Rows hiding St
section
variable {P : Program} {w : World} {A : Around} {R : Result -> Shared -> Prop} {it d : Addr} {fp wr : List Addr} {n : Nat} {Pv : Nat -> Value -> Prop} {St : Nat -> Heap -> Prop} {h0 : Heap}
theorem dict_loopX {more : List (Key × Value)} (hml : more.length = n) (hnd : (more.map (·.1)).Nodup) (W : Walks P w A.in1 it fp wr n Pv St) (hd : d ∉ fp) (hn : n <= 1000)
    (hv : ∀ i v, Pv i v -> ∃ a o k x t u, v = .ref a /\ a ≠ d /\ a ∉ wr /\ h0.get? a = some o /\ o.cls = .type "tuple" /\ o.data = .seq #[.str x t, u] k /\ more[i]? = some (Sum.inr x, u)) :
    ∀ (k i : Nat) (s : Shared) (tk : Tok), n - i = k -> i <= n -> St i s.heap -> (∀ b o, b ≠ d -> b ∉ wr -> h0.get? b = some o -> s.heap.get? b = some o) -> s.heap.DictOf (mixKind P w) d (more.take i) ->
      (∀ g tk, g.DictOf (mixKind P w) d more -> (∀ b o, b ≠ d -> b ∉ wr -> h0.get? b = some o -> g.get? b = some o) -> R (.ok (.ret .none)) { s with heap := g, toks := tk }) ->
      codeAny (model P w) A (.builtin "dict.update.loop" ⟨[.ref d, .ref it, .int i tk, .none], []⟩) R s := by
  have hdw : d ∉ wr := fun h => hd (W.sub _ h)
  intro k
  induction k with
  | zero =>
    intro i s tk hk hi st hold q hR
    have e : i = n := by omega
    subst e
    refine codeAny_builtin entry_update_loop ?_
    rw [Around.under_plainId plain_update_loop _]
    show wpAny _ A.in1 (pyNext (.ref it) >>= _) _ _ s
    refine wpAny_bind (W.done s _ _ st fun g tk2 kp => ?_)
    show wpAny _ A.in1 (Builtin.Dict.addKeywords d [] >>= _) _ _ _
    refine wpAny_bind (wpAny_pure (wpAny_pure (hR g tk2 ?_ fun b o h1 h2 e => kp b o h2 (hold b o h1 h2 e))))
    rw [List.take_of_length_le (by omega)] at q
    obtain ⟨o, es, ep, ho, mm⟩ := q
    exact ⟨o, es, ep, kp d o hdw ho, mm⟩
  | succ k ih =>
    intro i s tk hk hi st hold q hR
    have lt : i < n := by omega
    refine codeAny_builtin entry_update_loop ?_
    rw [Around.under_plainId plain_update_loop _]
    show wpAny _ A.in1 (pyNext (.ref it) >>= _) _ _ s
    refine wpAny_bind (W.item i s _ _ lt st fun v g tk2 hP st2 kp => ?_)
    obtain ⟨a, o, c, x, t, u, rfl, had, haw, ho, hoc, hod, hm⟩ := hv i v hP
    have ho2 : g.get? a = some o := kp a o haw (hold a o had haw ho)
    have q2 : g.DictOf (mixKind P w) d (more.take i) := by
      obtain ⟨o', es, ep, ho', mm⟩ := q
      exact ⟨o', es, ep, kp d o' hdw ho', mm⟩
    have hnew : (Sum.inr x : Key) ∉ (more.take i).map (·.1) := by
      have e : more.take (i + 1) = more.take i ++ [(Sum.inr x, u)] := by rw [List.take_succ, hm]; rfl
      have h4 : ((more.take (i + 1)).map (·.1)).Nodup := hnd.sublist ((List.take_sublist _ _).map _)
      rw [e, List.map_append, List.nodup_append] at h4
      intro z
      exact h4.2.2 _ z (Sum.inr x) (by simp) rfl
    show wpAny _ A.in1 (holding [Value.ref a] _ >>= _) _ _ _
    refine wpAny_bind (wpAny_holding (wpAny_bind (wpAny_tryCatch ?_)))
    unfold Builtin.Dict.pairItems
    refine wpAny_bind (wpAny_typeOf (s := { s with heap := g, toks := tk2 }) ⟨o, ho2, hoc⟩ ?_)
    rw [if_pos (by decide)]
    refine wpAny_bind (wpAny_seqItems (s := { s with heap := g, toks := tk2 }) ho2 hod (wpAny_pure ?_))
    show wpAny _ A.in1 (holding [Value.str x t, u] (dictSet d (.str x t) u)) _ _ _
    refine wpAny_holding (wpAny_dictSet_pairs (s := { s with heap := g, toks := tk2 }) (knd := mixKind P w) (k := Sum.inr x) (mixKind_str P w x t) q2 (fun g2 q3 sb => ?_) (by rw [List.length_take]; exact Nat.le_trans (Nat.min_le_left _ _) (Nat.le_trans hi (Nat.le_trans hn (by decide)))))
    refine wpAny_pure ⟨plainId_quiet plain_update_loop _, ?_⟩
    rw [stored_new hnew, show more.take i ++ [((Sum.inr x : Key), u)] = more.take (i + 1) by rw [List.take_succ, hm]; rfl] at q3
    show codeAny (model P w) A (.builtin "dict.update.loop" ⟨[.ref d, .ref it, .int ((i : Int) + 1) _, .none], []⟩) R _
    have ei : ((i : Int) + 1) = ((i + 1 : Nat) : Int) := by omega
    rw [ei]
    refine ih (i + 1) _ _ (by omega) lt (W.frame _ _ _ st2 fun b hb o' e => sb.extBut b o' (fun z => hd (z ▸ hb)) e) (fun b o' h1 h2 e => sb.extBut b o' h1 (kp b o' h2 (hold b o' h1 h2 e))) q3 fun g3 tk3 q4 k4 => hR g3 tk3 q4 k4
end
section
variable {P : Program} {w : World} {A : Around} {E : Value -> Shared -> Prop} {s : Shared}
theorem dict_pairsX {more : List (Key × Value)} (hnd : (more.map (·.1)).Nodup) {src : Addr} {T : String} {n : Nat} {Pv : Nat -> Value -> Prop} {Q : Value -> Shared -> Prop} (hA : A.handled = none) (hn : n <= 1000) (hml : more.length = n) (hty : s.TypeIs (.ref src) T) (hT : (Value.type T != Value.type "dict") = true) (hsrc : src < s.heap.objs.size)
    (keys : ∀ (A' : Around) (z : Shared) (E' : Value -> Shared -> Prop) (Q' : Option Value -> Shared -> Prop), A'.handled = none -> (∀ b u, s.heap.get? b = some u -> z.heap.get? b = some u) -> (∀ g tk, (∀ b u, z.heap.get? b = some u -> g.get? b = some u) -> Q' none { z with heap := g, toks := tk }) -> wpAny (model P w) A' (getAttr? (.ref src) "keys") Q' E' z)
    (iter : ∀ (A' : Around) (z : Shared) (E' : Value -> Shared -> Prop) (Q' : Value -> Shared -> Prop), (∀ b u, s.heap.get? b = some u -> z.heap.get? b = some u) ->
      (∀ (ob : Obj) (St : Nat -> Heap -> Prop), (∀ A'' : Around, A''.handled = none -> Walks P w A'' z.heap.objs.size [z.heap.objs.size, src] [z.heap.objs.size] n Pv St) -> St 0 (z.heap.push ob) -> Q' (.ref z.heap.objs.size) { z with heap := z.heap.push ob }) -> wpAny (model P w) A' (pyIter (.ref src)) Q' E' z)
    (hv : ∀ i v, Pv i v -> ∃ a o k x t u, v = .ref a /\ s.heap.get? a = some o /\ o.cls = .type "tuple" /\ o.data = .seq #[.str x t, u] k /\ more[i]? = some (Sum.inr x, u))
    (h : ∀ g tk, g.DictOf (mixKind P w) s.heap.objs.size more -> (∀ b o, s.heap.get? b = some o -> g.get? b = some o) -> Q (.ref s.heap.objs.size) { s with heap := g, toks := tk }) :
    wpAny (model P w) A (call (.type "dict") [.ref src]) Q E s := by
  refine callType_codes (Q₁ := fun obj z => obj = .ref s.heap.objs.size /\ z = { s with heap := s.heap.push { cls := .type "dict", data := .dict #[] } }) F.kt_called_dict (F.kt_typeCall_dict_1 _) F.entry_dict_init (kt_code_dict_new _ ⟨rfl, rfl⟩) ?_
  rintro obj z ⟨rfl, rfl⟩
  have new : (s.heap.push { cls := .type "dict", data := .dict #[] }).DictOf (mixKind P w) s.heap.objs.size [] := Heap.DictOf.new s.heap
  have kp1 : ∀ b u, s.heap.get? b = some u -> (s.heap.push { cls := .type "dict", data := .dict #[] }).get? b = some u := fun b u e => Heap.get?_push_of_some _ e
  have ty1 : Shared.TypeIs { s with heap := s.heap.push { cls := .type "dict", data := .dict #[] } } (.ref src) T := by
    obtain ⟨o, e, c⟩ := hty
    exact ⟨o, kp1 _ _ e, c⟩
  refine ⟨new.typeIs, F.args_dict_init_2 _ _, ?_⟩
  unfold Builtin.«dict.__init__»
  refine wpAny_bind ?_
  unfold Builtin.Dict.selfAndRest
  refine wpAny_bind (wpAny_notOrdered_dict new.typeIs ?_)
  show wpAny _ _ (pure (s.heap.objs.size, [Value.ref src])) _ _ _
  refine wpAny_pure ?_
  show wpAny _ _ (Builtin.Dict.updateFrom "dict.__init__" s.heap.objs.size (.ref src) [] .none) _ _ _
  unfold Builtin.Dict.updateFrom
  refine wpAny_bind (wpAny_typeOf ty1 ?_)
  rw [if_pos hT]
  refine wpAny_bind (keys _ _ _ _ (by simpa using hA) kp1 fun g tk kp2 => ?_)
  rw [if_pos (show (Option.none : Option Value).isNone = true from rfl)]
  refine wpAny_bind (wpAny_rule (wpAny_bind (iter _ _ _ _ (fun b u e => kp2 b u (kp1 b u e)) fun ob St W st => ?_)))
  refine wpAny_pure ⟨plainId_quiet plain_update_loop _, ?_⟩
  have sz : s.heap.objs.size < g.objs.size := by
    have e := kp2 s.heap.objs.size _ (Heap.get?_push_size _ rfl)
    exact Heap.lt_size e
  have q0 : (g.push ob).DictOf (mixKind P w) s.heap.objs.size [] := by
    obtain ⟨o, es, ep, ho, mm⟩ := new
    exact ⟨o, es, ep, Heap.get?_push_of_some _ (kp2 _ _ ho), mm⟩
  have nin : s.heap.objs.size ∉ [g.objs.size, src] := by
    simp only [List.mem_cons, List.mem_singleton, List.not_mem_nil, or_false, not_or]
    exact ⟨Nat.ne_of_lt sz, Nat.ne_of_gt hsrc⟩
  have old : ∀ b o, s.heap.get? b = some o -> b ≠ s.heap.objs.size /\ b ∉ [g.objs.size] := fun b o e => by
    have lb := Heap.lt_size e
    refine ⟨Nat.ne_of_lt lb, ?_⟩
    rw [List.mem_singleton]
    exact Nat.ne_of_lt (Nat.lt_trans lb sz)
  refine dict_loopX (h0 := s.heap) hml hnd (W _ (by simpa using hA)) nin hn (fun i v hP => ?_) (n - 0) 0 _ _ (by omega) (Nat.zero_le _) st (fun b o _ _ e => Heap.get?_push_of_some _ (kp2 b o (kp1 b o e))) q0 fun g2 tk2 q2 k2 => ?_
  · obtain ⟨a, o, k, x, t, u, e1, e2, e3⟩ := hv i v hP
    exact ⟨a, o, k, x, t, u, e1, (old a o e2).1, (old a o e2).2, e2, e3⟩
  · exact ⟨rfl, h g2 tk2 q2 fun b o e => k2 b o (old b o e).1 (old b o e).2 e⟩
end
section
variable {X : Cx}
theorem kv_keys {a : List (Key × V)} {b : List (Key × Value)} (h : KV a b) : b.map (·.1) = a.map (·.1) := by
  induction h with
  | nil => rfl
  | cons h t ih => rw [List.map_cons, List.map_cons, ih, h.1]
theorem call_dictT (hc : X.calm = true) : CallR X (.type "dict") (fun xs H Q => ∃ (p : Addr) (ys : List V) (kvs : List (Str × V)), xs = [.ref p] /\ H p = some (.tup ys) /\ ys.length <= 1000 /\ PairsOf X.K H ys (kvs.map fun q => ((Sum.inr q.1 : Key), q.2)) /\ (kvs.map (·.1)).Nodup /\ ∀ l, H l = none -> Q (.ref l) (upd H l (.dK (kvs.map fun q => ((Sum.inr q.1 : Key), q.2))))) := by
  intro pins s σ H xs us Q I r h
  obtain ⟨p, ys, kvs, rfl, hq, hn, hp, hnd, q⟩ := h
  obtain ⟨u, rfl, rx⟩ := vals1 r
  cases rx
  obtain ⟨its, o, k, rv, ho, hc1, hd1, hd2⟩ := tupD I hq
  have hlen : its.length = ys.length := rv.length.symm
  have hlt : p < s.heap.objs.size := Heap.lt_size ho
  have ex : ∃ more : List (Key × Value), KV (kvs.map fun q => ((Sum.inr q.1 : Key), q.2)) more /\ ∀ (j : Nat) v, its[j]? = some v -> ∃ a o k x t u, v = .ref a /\ s.heap.get? a = some o /\ o.cls = .type "tuple" /\ o.data = .seq #[.str x t, u] k /\ more[j]? = some (Sum.inr x, u) := by
    clear hnd q hd1 hlen hq hn
    induction rv generalizing kvs with
    | nil =>
      cases kvs with
      | nil => exact ⟨[], .nil, fun j v e => by simp at e⟩
      | cons a b => cases hp
    | cons r1 r2 ih =>
      cases kvs with
      | nil => cases hp
      | cons kv kvs =>
        cases hp with
        | cons h t =>
          obtain ⟨more, k1, k2⟩ := ih _ t
          obtain ⟨b, rfl, sq⟩ := h
          cases r1
          obtain ⟨ts, rt, ⟨o, e1, e2, n, e3⟩, _⟩ := I.tuple sq
          obtain ⟨u1, u2, rfl, ⟨t1, rfl⟩, ru2⟩ := rt.two
          refine ⟨(Sum.inr kv.1, u2) :: more, .cons ⟨rfl, ru2⟩ k1, fun j v h1 => ?_⟩
          cases j with
          | zero =>
            simp at h1
            subst h1
            exact ⟨b, o, n, kv.1, t1, u2, rfl, e1, e2, e3, rfl⟩
          | succ j =>
            obtain ⟨a', o', k', x', t', u', q1, q2, q3, q4, q5⟩ := k2 j v (by simpa using h1)
            exact ⟨a', o', k', x', t', u', q1, q2, q3, q4, by simpa using q5⟩
  obtain ⟨more, k1, k2⟩ := ex
  have hkeys : more.map (·.1) = (kvs.map fun q => ((Sum.inr q.1 : Key), q.2)).map (·.1) := kv_keys k1
  have hml : (kvs.map fun q => ((Sum.inr q.1 : Key), q.2)).length = more.length := k1.length
  have hyl : ys.length = (kvs.map fun q => ((Sum.inr q.1 : Key), q.2)).length := hp.length
  have hb := I.big
  refine dict_pairsX (more := more) (by
    rw [hkeys, List.map_map]
    refine List.Pairwise.map _ ?_ (List.pairwise_map.mp hnd)
    exact fun a b h e => h (Sum.inr.inj e)) (n := its.toArray.size) (Pv := fun i v => its.toArray[i]? = some v) (I.ok.hd hc) (by rw [List.size_toArray, hlen]; exact hn) (by rw [List.size_toArray]; omega) ⟨_, ho, hc1⟩ (by decide) hlt (fun A' z E' Q' hA' kp hQ => keys_tuple (kp _ _ ho) hc1 hd1 hd2 hA' hQ)
    (fun A' z E' Q' kp hQ => ?_) (fun i v e => k2 i v (by simpa using e)) (fun g tk qd kp => ?_)
  · have hl : z.heap.IsTuple p its.toArray := ⟨_, kp _ _ ho, hc1, k, hd1⟩
    have hlz : p < z.heap.objs.size := Heap.lt_size (kp _ _ ho)
    exact wpAny_pyIter_tuple hl (hQ _ _ (fun A'' h'' => Walks.tuple h'' _ p (Nat.ne_of_lt hlz) its.toArray) ⟨⟨_, Heap.get?_push_size _ rfl, rfl, rfl⟩, hl.at fun o' e => Heap.get?_push_of_some _ e⟩)
  · refine ⟨.ref s.heap.objs.size, _, I.laid (o := .dK _) (t' := tk) kp (Nat.le_refl _) ?_, rfl, q _ I.fresh⟩
    exact dk_new (by rw [<- hyl]; exact Nat.le_trans hn (by decide)) (by simpa using (Nat.ne_of_gt hb)) k1 qd
end
end LQ
namespace DL
open PySem PySem.Spec L2 L3
open PyProof.Rows hiding St
variable {Γ : Hp -> Prop}
section
variable {X : Cx} {e : Expr} {te : TD} {x : Str} {np apos cpos pos : Pos}
noncomputable def sDictT : FT := fun xs φ => match xs with
  | [.tup l] => ∃ (ks : List Str) (ds : List D), l = pairsD (ks.map Sum.inr) ds /\ ks.length = ds.length /\ ks.length <= 1000 /\ ks.Nodup /\ φ (df (.dk (ks.map Sum.inr) ds))
  | _ => False
theorem zip_inr {β : Type} (ks : List Str) (xs : List β) : (ks.zip xs).map (fun q => ((Sum.inr q.1 : Key), q.2)) = (ks.map Sum.inr).zip xs := by
  induction ks generalizing xs with
  | nil => rfl
  | cons k ks ih =>
    cases xs with
    | nil => rfl
    | cons x xs => rw [List.zip_cons_cons, List.map_cons, ih, List.map_cons, List.zip_cons_cons]
theorem ed_dictT {es : List Expr} {t : TDs} {p : Pos} (hm : X.mg "dict" = none) (ha : EA Γ X (e :: es) t) (hc : X.calm = true := by rfl) (hg : Gl X "dict" := by rfl) (he : starEach (e :: es) X.env = (false, eval e X.env) :: starEach es X.env := by rfl) (hpl : (backTo pos (starEach es X.env)).any (·.1) = false := by rfl) : ED Γ X (.Call (.Name "dict" p) (e :: es) [] pos) (dCB sDictT t) :=
  ed_callTy (LQ.call_dictT hc) (fun H O ds vs φ Q ho hv h k => by
    unfold sDictT at h
    split at h
    · obtain ⟨ks, ds, rfl, hl, h1000, nd, h⟩ := h
      obtain ⟨v, ws, rfl, ⟨a, xs, rfl, q, r⟩, rfl⟩ := hv
      obtain ⟨zs, h1, h2⟩ := reps_pairs (ks.map Sum.inr) ds xs (by rw [List.length_map]; exact hl) r
      have hz : ks.length = zs.length := by rw [hl, h2.length]
      have hi : (ks.map (Sum.inr : Str -> Key)).Nodup := List.Pairwise.map _ (fun a b h e => h (Sum.inr.inj e)) nd
      refine ⟨a, xs, ks.zip zs, rfl, q.2, ?_, by rw [zip_inr]; exact h1, by rw [keys_zip ks zs hz]; exact nd, fun p hp => k _ (df (.dk _ _)) _ (same_new hp _) ⟨p, rfl, hp, ho p hp, zs, by rw [zip_inr]; exact upd_same, by rw [List.length_map]; exact hl, hi, Reps.grow (grow_new hp) _ _ h2⟩ h⟩
      have := h1.length
      rw [List.length_zip, List.length_map] at this
      omega
    · exact h.elim) hm boot_dict' ha hg (by decide) (by decide) he hpl
end
end DL
namespace DL
open PySem PySem.Spec L2 L3
open PyProof.Rows hiding St
variable {Γ : Hp -> Prop}
theorem reps_strs {K : PySem.W.Frag} {H : Hp} {O : List Addr} : ∀ {ns : List Str} {xs : List V}, Reps K H O (ns.map D.str) xs -> xs = ns.map V.str
  | [], _, h => h
  | n :: ns, xs, h => by
    obtain ⟨v, r, rfl, q, t⟩ := h
    cases (show v = _ from q)
    rw [reps_strs t]
    rfl
section
variable {X : Cx} {e : Expr} {te : TD} {p p2 pos pos2 : Pos}
theorem many_le (ns : List Str) : LQ.many ns <= ns.length := by
  have := LQ.fold_dd_le ns []
  unfold LQ.many
  simpa using this
theorem boot_set2 : bootBuiltins "set" = some (.type "set") := by kernel_rfl
end
end DL
namespace DL
open PySem PySem.Spec L2 L3
open PyProof.Rows hiding St
variable {Γ : Hp -> Prop}
section
variable {X : Cx} {e : Expr} {es : List Expr} {te : TD} {t : TDs} {p p2 pos pos2 : Pos}
noncomputable def dLenSetL (te : TD) : TD := fun ρ φ => te ρ fun r => match r.d with
  | .lst ds => ∃ ns : List Str, ds = ns.map D.str /\ ns.length <= 1000 /\ φ (dv (.int (LQ.many ns)))
  | _ => False
theorem ed_lenSetL (hm : X.mg "len" = none) (hm2 : X.mg "set" = none) (he : ED Γ X e te) (hc : X.calm = true := by rfl) (hg : Gl X "len" := by rfl) (hg2 : Gl X "set" := by rfl)
    (h1 : starEach [e] X.env = (false, eval e X.env) :: starEach [] X.env := by rfl)
    (h2 : starEach [.Call (.Name "set" p2) [e] [] pos2] X.env = (false, eval (.Call (.Name "set" p2) [e] [] pos2) X.env) :: starEach [] X.env := by rfl)
    (hp1 : (backTo pos2 (starEach [] X.env)).any (·.1) = false := by rfl) (hp2 : (backTo pos (starEach [] X.env)).any (·.1) = false := by rfl) :
    ED Γ X (.Call (.Name "len" p) [.Call (.Name "set" p2) [e] [] pos2] [] pos) (dLenSetL te) := fun H₀ =>
  impE (pe_callB LQ.call_len_setO hg hm PySem.boot_len (pa_cons (pe_callTy (LQ.call_set_strs hc) hg2 hm2 boot_set2 (pa_cons (he H₀) pa_nil h1) (by decide) (by decide) h1 hp1) pa_nil h2) (by decide) (by decide) h2 hp2) fun σ H Q q => by
    obtain ⟨ρ, oo, R, φ, hφ, kk⟩ := q
    refine ⟨ρ, oo, R, _, hφ, fun v r H1 s1 rv h1 => ?_⟩
    obtain ⟨kd, d⟩ := r
    cases d with
    | lst ds =>
      obtain ⟨ns, rfl, hn, h1⟩ := h1
      obtain ⟨a, xs, rfl, q, rp⟩ := rv.view
      cases reps_strs rp
      refine ⟨a, ns, rfl, SqL.of q, hn, fun l hl => ⟨l, _, rfl, upd_same, Nat.le_trans (many_le ns) hn, ?_⟩⟩
      exact kk _ (dv (.int (LQ.many ns))) _ (s1.trans (same_new hl _)) (by exact rfl) h1
    | _ => exact h1.elim
noncomputable def sListW : FT := fun ds φ => match ds with
  | [.lst l] => φ (df (.lst l))
  | [.cn (.tup cs)] => φ (df (.lst (cs.map cstD)))
  | _ => False
theorem ed_listW (hm : X.mg "list" = none) (ha : EA Γ X (e :: es) t) (hg : Gl X "list" := by rfl) (he : starEach (e :: es) X.env = (false, eval e X.env) :: starEach es X.env := by rfl) (hpl : (backTo pos (starEach es X.env)).any (·.1) = false := by rfl) : ED Γ X (.Call (.Name "list" p) (e :: es) [] pos) (dCB sListW t) :=
  ed_callTy call_list_of (fun H O ds vs φ Q ho hv h k => by
    unfold sListW at h
    split at h
    · obtain ⟨v, ws, rfl, ⟨a, xs, rfl, q, r⟩, rfl⟩ := hv
      exact ⟨a, xs, rfl, .inl (SqL.of q), fun l hl => k _ _ _ (same_new hl _) (rv_lst ho hl r) h⟩
    · rename_i cs
      obtain ⟨v, ws, rfl, h1, rfl⟩ := hv
      obtain ⟨a, xs, rfl, q, cr⟩ := cst_sq (H := H) (show CRep X.K (.tup cs) v from h1)
      exact ⟨a, xs, rfl, .inr q, fun l hl => k _ _ _ (same_new hl _) (rv_lst ho hl (reps_cst cr)) h⟩
    · exact h.elim) hm boot_list' ha hg (by decide) (by decide) he hpl
end
theorem gl_tup4 {K : PySem.W.Frag} (i j l m : Nat) : GLink K (gTup K 4 (gCons (gName i) (gCons (gName j) (gCons (gName l) (gCons (gName m) gNil))))) (gT4 i j l m) := fun H₀ H σ ρ o d v ψ Q R h hg k => by
  unfold gT4 at hg
  split at hg
  · rename_i a b c e
    obtain ⟨p, xs, rfl, q, r⟩ := h
    obtain ⟨v1, r1, rfl, h1, v2, r2, rfl, h2, v3, r3, rfl, h3, v4, r4, rfl, h4, rfl⟩ := r
    refine ⟨p, _, rfl, q.1, rfl, v1, _, rfl, v2, _, rfl, v3, _, rfl, v4, _, rfl, rfl, ?_⟩
    exact k _ _ ((((R.setV i h1).setV j h2).setV l h3).setV m h4) hg
  · exact hg.elim
end DL
namespace DL
open PySem PySem.Spec L2 L3
open PyProof.Rows hiding St
variable {Γ : Hp -> Prop}
section
variable {X : Cx} {e : Expr} {es : List Expr} {t : TDs} {p pos : Pos}
theorem reps_intsR {K : PySem.W.Frag} {H : Hp} {O : List Addr} : ∀ {ns : List Int} {xs : List V}, Reps K H O (ns.map D.int) xs -> xs = ns.map V.int
  | [], _, h => h
  | n :: ns, xs, h => by
    obtain ⟨v, r, rfl, q, t⟩ := h
    cases (show v = _ from q)
    rw [reps_intsR t]
    rfl
theorem any_ints : ∀ ns : List Int, ((ns.map V.int).any fun y => truOf y == some true) = ns.any fun n => n != 0
  | [] => rfl
  | n :: ns => by
    rw [List.map_cons, List.any_cons, List.any_cons, any_ints ns]
    have e1 : (truOf (.int n) == some true) = (n != 0) := by
      show ((some (n != 0) : Option Bool) == some true) = (n != 0)
      cases (n != 0) <;> rfl
    rw [e1]
noncomputable def sAnyI : FT := fun ds φ => match ds with
  | [.tup l] => ∃ ns : List Int, l = ns.map D.int /\ φ (dv (.bl (ns.any fun n => n != 0)))
  | _ => False
theorem ed_anyI (hm : X.mg "any" = none) (ha : EA Γ X (e :: es) t) (hc : X.calm = true := by rfl) (hg : Gl X "any" := by rfl) (he : starEach (e :: es) X.env = (false, eval e X.env) :: starEach es X.env := by rfl) (hpl : (backTo pos (starEach es X.env)).any (·.1) = false := by rfl) : ED Γ X (.Call (.Name "any" p) (e :: es) [] pos) (dCB sAnyI t) :=
  ed_callB (call_any_seq hc) (fun H O ds vs φ Q ho hv h k => by
    unfold sAnyI at h
    split at h
    · obtain ⟨ns, rfl, h⟩ := h
      obtain ⟨v, ws, rfl, ⟨a, xs, rfl, q, r⟩, rfl⟩ := hv
      cases reps_intsR r
      refine ⟨a, _, rfl, .inr q.1, fun y hy => ?_, ?_⟩
      · obtain ⟨b, _, rfl⟩ := List.mem_map.mp hy
        rfl
      · show Q (.bl ((ns.map V.int).any fun y => truOf y == some true)) H
        rw [any_ints ns]
        exact k _ _ H (Same.refl H) (by exact rfl) h
    · exact h.elim) hm (by kernel_rfl) ha hg (by decide) (by decide) he hpl
end
end DL
namespace L2
open PySem PySem.Spec PySem.W PyProof.Rows
noncomputable def itemO (D : Addr) (i n ep : Nat) (x0 x1 o1 o2 : Value) : Obj := { cls := .type "dict_itemiterator", dict := none, data := .fields #[x0, x1, .ref D, .int i 0, .int n 0, .int ep 0, o1, o2], slots := #[] }
noncomputable def RawJ (h : Heap) (J D : Addr) (i n ep : Nat) : Prop := ∃ x0 x1 o1 o2, h.get? J = some (itemO D i n ep x0 x1 o1 o2) /\ ((x0 = .none /\ x1 = .bool false) \/ ∃ (b : Addr) (f : Bool) (ob : Obj), x0 = rawInt b /\ x1 = .bool f /\ h.get? b = some ob /\ b ≠ J)
noncomputable def pairO (e : DictEntry) : Obj := { cls := .type "tuple", data := .seq #[e.key, e.val] }
theorem RawJ.lt {h : Heap} {J D : Addr} {i n ep : Nat} (y : RawJ h J D i n ep) : J < h.objs.size := let ⟨_, _, _, _, e, _⟩ := y; Heap.lt_size e
end L2
namespace L2
open PySem PySem.Spec PySem.W PyProof.Rows
noncomputable def PairsAt (h : Heap) (rows : Array DictEntry) (J : Addr) (as : List Addr) : Prop := (∀ a ∈ as, J < a) /\ as.Nodup /\ ∀ (j : Nat) a, as[j]? = some a -> ∃ e, rows[j]? = some e /\ h.get? a = some (pairO e)
theorem PairsAt.lt {h : Heap} {rows : Array DictEntry} {J a : Addr} {as : List Addr} (p : PairsAt h rows J as) (m : a ∈ as) : a < h.objs.size := by
  obtain ⟨j, hj⟩ := List.getElem?_of_mem m
  obtain ⟨e, _, g⟩ := p.2.2 j a hj
  exact Heap.lt_size g
end L2
namespace L3
open PySem PySem.Spec L2
open PyProof.Rows hiding St
noncomputable def PairsZ (h : Heap) (xs ys : Array Value) (J : Addr) (as : List Addr) : Prop := (∀ a ∈ as, J < a) /\ as.Nodup /\ ∀ (j : Nat) a, as[j]? = some a -> ∃ x y, xs[j]? = some x /\ ys[j]? = some y /\ IsPair h a x y
theorem PairsZ.lt {h : Heap} {xs ys : Array Value} {J a : Addr} {as : List Addr} (p : PairsZ h xs ys J as) (m : a ∈ as) : a < h.objs.size := by
  obtain ⟨j, hj⟩ := List.getElem?_of_mem m
  obtain ⟨x, y, _, _, g⟩ := p.2.2 j a hj
  exact Heap.lt_size g
end L3
namespace L3
open PySem PySem.Spec L2
open PyProof.Rows hiding St
section
variable {X : Cx} {pins : List (Addr × Obj)} {σ : St} {H2 : Hp} {s2 : Shared} {scope : Scope} {T F : List Str} {cl : List (Str × Addr)} {fp : List Addr} {js : List Nat} {tg iter elt : Expr} {ifs : List Expr} {pos : Pos}
  {g : TG} {tc : TT} {te : TE} {J : It} {it : Addr} {tn : Nat -> Heap -> Prop} {E : Value -> Shared -> Prop} {RR : Value -> Addr -> Result -> Shared -> Prop}
end
end L3
namespace DL
open PySem PySem.Spec L2 L3
open PyProof.Rows hiding St
structure Gt (H H' : Hp) : Prop where
  tups : ∀ b xs, H b = some (.tup xs) -> H' b = some (.tup xs)
  frzs : ∀ b o u, H b = some (.frz o u) -> H' b = some (.frz o u)
theorem Gt.trans {H H1 H2 : Hp} (a : Gt H H1) (b : Gt H1 H2) : Gt H H2 := ⟨fun c xs h => b.tups c xs (a.tups c xs h), fun c o u h => b.frzs c o u (a.frzs c o u h)⟩
theorem Gt.same {H H' : Hp} (s : Same H H') : Gt H H' := ⟨fun b xs h => s b _ h, fun b o u h => s b _ h⟩
section
variable {K : PySem.W.Frag} {H H' : Hp} {O O' : List Addr}
theorem sqR_gt {a : Addr} {xs : List V} (g : Gt H H') (h : SqR K H a xs) : SqR K H' a xs := by
  refine ⟨?_, g.tups _ _ h.2⟩
  rcases h.1 with (h | ⟨o, h⟩) | h
  · exact .inl (.inl (g.tups _ _ h))
  · exact .inl (.inr ⟨o, g.frzs _ _ _ h⟩)
  · exact .inr h
theorem scr_gt {a : Addr} {ns : List Int} (g : Gt H H') (h : Scr K H a ns) : Scr K H' a ns := by
  rcases h with ⟨o, h⟩ | h
  · exact .inl ⟨o, g.frzs _ _ _ h⟩
  · exact .inr h
mutual
theorem Rep.keep (g : Gt H H') : ∀ (d : D) (v : V), pureD d -> Rep K H O d v -> Rep K H' O' d v
  | .non, _, _, h => h
  | .bl _, _, _, h => h
  | .int _, _, _, h => h
  | .str _, _, _, h => h
  | .ty _, _, _, h => h
  | .cn _, _, _, h => h
  | .tup ds, v, p, h => by
    obtain ⟨a, xs, e, q, r⟩ := h
    exact ⟨a, xs, e, sqR_gt g q, Reps.keep g ds xs p r⟩
  | .scr ns, v, _, h => by
    obtain ⟨a, e, q⟩ := h
    exact ⟨a, e, scr_gt g q⟩
  | .exc _, _, p, _ => p.elim
  | .fd _, _, p, _ => p.elim
  | .lst ds, v, p, h => p.elim
  | .dk ks ds, v, p, h => p.elim
  | .dt ks ds, v, p, h => p.elim
theorem Reps.keep (g : Gt H H') : ∀ (ds : List D) (xs : List V), pureDs ds -> Reps K H O ds xs -> Reps K H' O' ds xs
  | [], _, _, h => h
  | d :: ds, xs, p, h => by
    obtain ⟨v, r, e, q, t⟩ := h
    exact ⟨v, r, e, Rep.keep g d v p.1 q, Reps.keep g ds r p.2 t⟩
end
end
mutual
noncomputable def Ft (K : PySem.W.Frag) (H : Hp) : D -> V -> List Addr -> Prop
  | .lst ds, v, A => ∃ a xs B, v = .ref a /\ H a = some (.lst xs) /\ A = a :: B /\ Fts K H ds xs B
  | .dk ks ds, v, A => ∃ a xs B, v = .ref a /\ H a = some (.dK (ks.zip xs)) /\ ks.length = ds.length /\ ks.Nodup /\ A = a :: B /\ Fts K H ds xs B
  | .tup ds, v, A => ∃ a xs, v = .ref a /\ SqR K H a xs /\ Fts K H ds xs A
  | .non, v, A => A = [] /\ v = .non
  | .bl b, v, A => A = [] /\ v = .bl b
  | .int i, v, A => A = [] /\ v = .int i
  | .str x, v, A => A = [] /\ v = .str x
  | .ty n, v, A => A = [] /\ v = .ty n
  | .cn c, v, A => A = [] /\ CRep K c v
  | .scr ns, v, A => A = [] /\ ∃ a, v = .ref a /\ Scr K H a ns
  | .exc _, _, _ => False
  | .fd _, _, _ => False
  | .dt _ _, _, _ => False
noncomputable def Fts (K : PySem.W.Frag) (H : Hp) : List D -> List V -> List Addr -> Prop
  | [], xs, A => xs = [] /\ A = []
  | d :: ds, xs, A => ∃ v r B C, xs = v :: r /\ A = B ++ C /\ Ft K H d v B /\ Fts K H ds r C
end
section
variable {K : PySem.W.Frag} {H H' : Hp} {O : List Addr}
mutual
theorem Ft.keep (g : Gt H H') : ∀ (d : D) (v : V) (A : List Addr), (∀ a ∈ A, ∀ u, H a = some u -> H' a = some u) -> Ft K H d v A -> Ft K H' d v A
  | .lst ds, v, A, k, h => by
    obtain ⟨a, xs, B, e, q, rfl, r⟩ := h
    exact ⟨a, xs, B, e, k a List.mem_cons_self _ q, rfl, Fts.keep g ds xs B (fun b hb => k b (List.mem_cons_of_mem _ hb)) r⟩
  | .dk ks ds, v, A, k, h => by
    obtain ⟨a, xs, B, e, q, l, n, rfl, r⟩ := h
    exact ⟨a, xs, B, e, k a List.mem_cons_self _ q, l, n, rfl, Fts.keep g ds xs B (fun b hb => k b (List.mem_cons_of_mem _ hb)) r⟩
  | .tup ds, v, A, k, h => by
    obtain ⟨a, xs, e, q, r⟩ := h
    exact ⟨a, xs, e, sqR_gt g q, Fts.keep g ds xs A k r⟩
  | .non, _, _, _, h => h
  | .bl _, _, _, _, h => h
  | .int _, _, _, _, h => h
  | .str _, _, _, _, h => h
  | .ty _, _, _, _, h => h
  | .cn _, _, _, _, h => h
  | .scr ns, v, A, _, h => by
    obtain ⟨e, a, e2, q⟩ := h
    exact ⟨e, a, e2, scr_gt g q⟩
  | .exc _, _, _, _, h => h.elim
  | .fd _, _, _, _, h => h.elim
  | .dt _ _, _, _, _, h => h.elim
theorem Fts.keep (g : Gt H H') : ∀ (ds : List D) (xs : List V) (A : List Addr), (∀ a ∈ A, ∀ u, H a = some u -> H' a = some u) -> Fts K H ds xs A -> Fts K H' ds xs A
  | [], _, _, _, h => h
  | d :: ds, xs, A, k, h => by
    obtain ⟨v, r, B, C, e, rfl, q, t⟩ := h
    exact ⟨v, r, B, C, e, rfl, Ft.keep g d v B (fun b hb => k b (List.mem_append_left _ hb)) q, Fts.keep g ds r C (fun b hb => k b (List.mem_append_right _ hb)) t⟩
end
mutual
theorem Ft.rep : ∀ (d : D) (v : V) (A : List Addr), (∀ a ∈ A, a ∉ O) -> Ft K H d v A -> Rep K H O d v
  | .lst ds, v, A, k, h => by
    obtain ⟨a, xs, B, e, q, rfl, r⟩ := h
    exact ⟨a, xs, e, q, k a List.mem_cons_self, Fts.reps ds xs B (fun b hb => k b (List.mem_cons_of_mem _ hb)) r⟩
  | .dk ks ds, v, A, k, h => by
    obtain ⟨a, xs, B, e, q, l, n, rfl, r⟩ := h
    exact ⟨a, xs, e, q, k a List.mem_cons_self, l, n, Fts.reps ds xs B (fun b hb => k b (List.mem_cons_of_mem _ hb)) r⟩
  | .tup ds, v, A, k, h => by
    obtain ⟨a, xs, e, q, r⟩ := h
    exact ⟨a, xs, e, q, Fts.reps ds xs A k r⟩
  | .non, _, _, _, h => h.2
  | .bl _, _, _, _, h => h.2
  | .int _, _, _, _, h => h.2
  | .str _, _, _, _, h => h.2
  | .ty _, _, _, _, h => h.2
  | .cn _, _, _, _, h => h.2
  | .scr ns, v, A, _, h => h.2
  | .exc _, _, _, _, h => h.elim
  | .fd _, _, _, _, h => h.elim
  | .dt _ _, _, _, _, h => h.elim
theorem Fts.reps : ∀ (ds : List D) (xs : List V) (A : List Addr), (∀ a ∈ A, a ∉ O) -> Fts K H ds xs A -> Reps K H O ds xs
  | [], _, _, _, h => h.1
  | d :: ds, xs, A, k, h => by
    obtain ⟨v, r, B, C, e, rfl, q, t⟩ := h
    exact ⟨v, r, e, Ft.rep d v B (fun b hb => k b (List.mem_append_left _ hb)) q, Fts.reps ds r C (fun b hb => k b (List.mem_append_right _ hb)) t⟩
end
mutual
theorem Ft.dom : ∀ (d : D) (v : V) (A : List Addr), Ft K H d v A -> ∀ a ∈ A, ∃ u, H a = some u /\ (∀ xs, u ≠ .tup xs) /\ ∀ ob w, u ≠ .frz ob w
  | .lst ds, v, A, h => by
    obtain ⟨a, xs, B, e, q, rfl, r⟩ := h
    intro b hb
    rcases List.mem_cons.mp hb with rfl | hb
    · exact ⟨_, q, (fun _ z => by cases z), fun _ _ z => by cases z⟩
    · exact Fts.dom ds xs B r b hb
  | .dk ks ds, v, A, h => by
    obtain ⟨a, xs, B, e, q, l, n, rfl, r⟩ := h
    intro b hb
    rcases List.mem_cons.mp hb with rfl | hb
    · exact ⟨_, q, (fun _ z => by cases z), fun _ _ z => by cases z⟩
    · exact Fts.dom ds xs B r b hb
  | .tup ds, v, A, h => by
    obtain ⟨a, xs, e, q, r⟩ := h
    exact Fts.dom ds xs A r
  | .non, _, _, h => by obtain ⟨rfl, _⟩ := h; intro a ha; cases ha
  | .bl _, _, _, h => by obtain ⟨rfl, _⟩ := h; intro a ha; cases ha
  | .int _, _, _, h => by obtain ⟨rfl, _⟩ := h; intro a ha; cases ha
  | .str _, _, _, h => by obtain ⟨rfl, _⟩ := h; intro a ha; cases ha
  | .ty _, _, _, h => by obtain ⟨rfl, _⟩ := h; intro a ha; cases ha
  | .cn _, _, _, h => by obtain ⟨rfl, _⟩ := h; intro a ha; cases ha
  | .scr _, _, _, h => by obtain ⟨rfl, _⟩ := h; intro a ha; cases ha
  | .exc _, _, _, h => h.elim
  | .fd _, _, _, h => h.elim
  | .dt _ _, _, _, h => h.elim
theorem Fts.dom : ∀ (ds : List D) (xs : List V) (A : List Addr), Fts K H ds xs A -> ∀ a ∈ A, ∃ u, H a = some u /\ (∀ xs, u ≠ .tup xs) /\ ∀ ob w, u ≠ .frz ob w
  | [], _, _, h => by obtain ⟨_, rfl⟩ := h; intro a ha; cases ha
  | d :: ds, xs, A, h => by
    obtain ⟨v, r, B, C, e, rfl, q, t⟩ := h
    intro b hb
    rcases List.mem_append.mp hb with hb | hb
    · exact Ft.dom d v B q b hb
    · exact Fts.dom ds r C t b hb
end
mutual
theorem Rep.ft : ∀ (d : D) (v : V), pureD d -> Rep K H O d v -> Ft K H d v []
  | .non, _, _, h => ⟨rfl, h⟩
  | .bl _, _, _, h => ⟨rfl, h⟩
  | .int _, _, _, h => ⟨rfl, h⟩
  | .str _, _, _, h => ⟨rfl, h⟩
  | .ty _, _, _, h => ⟨rfl, h⟩
  | .cn _, _, _, h => ⟨rfl, h⟩
  | .tup ds, v, p, h => by
    obtain ⟨a, xs, e, q, r⟩ := h
    exact ⟨a, xs, e, q, Reps.fts ds xs p r⟩
  | .scr ns, v, _, h => ⟨rfl, h⟩
  | .exc _, _, p, _ => p.elim
  | .fd _, _, p, _ => p.elim
  | .lst ds, v, p, h => p.elim
  | .dk ks ds, v, p, h => p.elim
  | .dt ks ds, v, p, h => p.elim
theorem Reps.fts : ∀ (ds : List D) (xs : List V), pureDs ds -> Reps K H O ds xs -> Fts K H ds xs []
  | [], _, _, h => ⟨h, rfl⟩
  | d :: ds, xs, p, h => by
    obtain ⟨v, r, e, q, t⟩ := h
    exact ⟨v, r, [], [], e, rfl, Rep.ft d v p.1 q, Reps.fts ds r p.2 t⟩
end
end
noncomputable def hid : Nat -> DE -> DE
  | _, [] => []
  | 0, _ :: ρ => none :: ρ
  | l + 1, x :: ρ => x :: hid l ρ
theorem hid_eq : ∀ (l : Nat) (ρ : DE), hid l ρ = ρ.set l none
  | _, [] => by cases ‹Nat› <;> rfl
  | 0, _ :: _ => rfl
  | l + 1, x :: ρ => by rw [hid, hid_eq l ρ, List.set_cons_succ]
theorem hid_get {l i : Nat} {ρ : DE} {r : EV} (h : (hid l ρ)[i]? = some (some r)) : i ≠ l /\ ρ[i]? = some (some r) := by
  rw [hid_eq] at h
  by_cases e : i = l
  · subst e
    rcases Nat.lt_or_ge i ρ.length with z | z
    · rw [List.getElem?_set_self z] at h; cases h
    · rw [List.getElem?_eq_none (by rw [List.length_set]; exact z)] at h; cases h
  · rw [List.getElem?_set_ne (Ne.symm e)] at h
    exact ⟨e, h⟩
theorem hid_of {l i : Nat} {ρ : DE} (h : i ≠ l) : (hid l ρ)[i]? = ρ[i]? := by
  rw [hid_eq, List.getElem?_set_ne (Ne.symm h)]
theorem hid_set (l : Nat) (ρ : DE) (x : EV) : hid l (setS ρ l x) = hid l ρ := by
  rw [hid_eq, hid_eq, setS_eq, List.set_set]
theorem hid_set_ne {l j : Nat} (ρ : DE) (x : EV) (h : j ≠ l) : hid l (setS ρ j x) = setS (hid l ρ) j x := by
  rw [hid_eq, hid_eq, setS_eq, setS_eq, List.set_comm _ _ h]
noncomputable def tg (l : Nat) (A : List Addr) : List (Nat × Addr) := A.map fun a => (l, a)
theorem tg_snd (l : Nat) (A : List Addr) : (tg l A).map Prod.snd = A := by
  unfold tg
  rw [List.map_map]
  exact List.map_id A
theorem app_snd (o : List (Nat × Addr)) (l : Nat) (A : List Addr) : (o ++ tg l A).map Prod.snd = o.map Prod.snd ++ A := by
  rw [List.map_append, tg_snd]
structure ST (K : PySem.W.Frag) (H₀ H : Hp) (σ : St) (ρ : DE) (o : List (Nat × Addr)) (l : Nat) (A : List Addr) (d : D) (v : V) : Prop where
  Q : REnv K H₀ H σ (hid l ρ) (o ++ tg l A)
  hd : ρ[l]? = some (some (dv d))
  hv : σ[l]? = some (some v)
  ft : Ft K H d v A
section
variable {K : PySem.W.Frag} {H₀ H H' : Hp} {σ : St} {ρ : DE} {o : List (Nat × Addr)} {l : Nat} {A A' : List Addr} {d d' : D} {v : V}
theorem ST.lt (S : ST K H₀ H σ ρ o l A d v) : l < ρ.length := (List.getElem?_eq_some_iff.mp S.hd).1
theorem ST.ndA (S : ST K H₀ H σ ρ o l A d v) : A.Nodup := by
  have := S.Q.nda
  rw [app_snd] at this
  exact (List.nodup_append.mp this).2.1
theorem ST.dis (S : ST K H₀ H σ ρ o l A d v) : ∀ a ∈ A, a ∉ o.map Prod.snd := fun a ha hb => by
  have := S.Q.nda
  rw [app_snd] at this
  exact (List.nodup_append.mp this).2.2 a hb a ha rfl
theorem ST.frA (S : ST K H₀ H σ ρ o l A d v) : ∀ a ∈ A, H₀ a = none := fun a ha => S.Q.fresh (l, a) (List.mem_append_right _ (List.mem_map.mpr ⟨a, ha, rfl⟩))
theorem mem_o {i l : Nat} {a : Addr} (h : (i, a) ∈ o ++ tg l A) (hi : i ≠ l) : (i, a) ∈ o := by
  rcases List.mem_append.mp h with h | h
  · exact h
  · obtain ⟨b, _, e⟩ := List.mem_map.mp h
    cases e
    exact absurd rfl hi
theorem ST.R (S : ST K H₀ H σ ρ o l A d v) : REnv K H₀ H σ ρ o where
  same := S.Q.same
  fresh := fun p hp => S.Q.fresh p (List.mem_append_left _ hp)
  trk := fun p hp => S.Q.trk p (List.mem_append_left _ hp)
  mtb := fun p hp => S.Q.mtb p (List.mem_append_left _ hp)
  nda := by
    have := S.Q.nda
    rw [app_snd] at this
    exact (List.nodup_append.mp this).1
  len := by
    have := S.Q.len
    rw [hid_eq, List.length_set] at this
    exact this
  slots := fun i r e => by
    by_cases hi : i = l
    · subst hi
      rw [S.hd] at e
      cases e
      exact ⟨v, S.hv, .inl ⟨rfl, Ft.rep _ _ _ S.dis S.ft⟩⟩
    · obtain ⟨w, ew, q⟩ := S.Q.slots i r (by rw [hid_of hi]; exact e)
      rw [app_snd] at q
      have sub : ∀ a ∈ o.map Prod.snd, a ∈ o.map Prod.snd ++ A := fun a ha => List.mem_append_left _ ha
      refine ⟨w, ew, ?_⟩
      rcases q with ⟨k, q⟩ | ⟨k, a, e1, m, c⟩
      · exact .inl ⟨k, Rep.sub sub _ _ q⟩
      · exact .inr ⟨k, a, e1, mem_o m hi, c.sub sub⟩
theorem ST.to (S : ST K H₀ H σ ρ o l A d v) (s : Same H H') : ST K H₀ H' σ ρ o l A d v :=
  ⟨S.Q.to s, S.hd, S.hv, Ft.keep (Gt.same s) _ _ _ (fun a _ u h => s a u h) S.ft⟩
theorem Grow.gt {O O' : List Addr} (g : Grow O O' H H') : Gt H H' := ⟨g.tups, g.frzs⟩
theorem ST.chg (S : ST K H₀ H σ ρ o l A d v) (g : Grow A A' H H') (ft : Ft K H' d' v A') (nd : A'.Nodup) (fr : ∀ a ∈ A', a ∈ A \/ H a = none) :
    ST K H₀ H' σ (setS ρ l (dv d')) o l A' d' v := by
  have hl := S.lt
  have gO : Grow ((o ++ tg l A).map Prod.snd) ((o ++ tg l A').map Prod.snd) H H' := by
    rw [app_snd, app_snd]
    exact ⟨fun b u h n => ⟨(g.keep b u h fun z => n (List.mem_append_right _ z)).1, fun z => (List.mem_append.mp z).elim (fun z => n (List.mem_append_left _ z)) (g.keep b u h fun z => n (List.mem_append_right _ z)).2⟩, g.tups, g.frzs⟩
  have ko : ∀ p ∈ o, p.2 ∉ A := fun p hp z => S.dis _ z (List.mem_map.mpr ⟨p, hp, rfl⟩)
  refine ⟨⟨fun b u h => ?_, fun p hp => ?_, fun p hp => ?_, fun p hp => ?_, ?_, fun i r e => ?_, ?_⟩, ?_, S.hv, ft⟩
  · refine (g.keep b u (S.Q.same b u h) fun z => ?_).1
    rw [S.frA b z] at h
    cases h
  · rcases List.mem_append.mp hp with hp | hp
    · exact S.Q.fresh p (List.mem_append_left _ hp)
    · obtain ⟨a, ha, rfl⟩ := List.mem_map.mp hp
      rcases fr a ha with h | h
      · exact S.frA a h
      · exact S.Q.same.free h
  · rcases List.mem_append.mp hp with hp | hp
    · obtain ⟨u, e⟩ := S.Q.trk p (List.mem_append_left _ hp)
      exact ⟨u, (g.keep _ _ e (ko p hp)).1⟩
    · obtain ⟨a, ha, rfl⟩ := List.mem_map.mp hp
      obtain ⟨u, hu, _⟩ := Ft.dom _ _ _ ft a ha
      exact ⟨u, hu⟩
  · rcases List.mem_append.mp hp with hp | hp
    · obtain ⟨u, e⟩ := S.Q.trk p (List.mem_append_left _ hp)
      obtain ⟨m1, m2⟩ := S.Q.mtb p (List.mem_append_left _ hp)
      have e' := (g.keep _ _ e (ko p hp)).1
      refine ⟨fun xs z => ?_, fun ob w z => ?_⟩
      · rw [e'] at z; rw [<- e] at z; exact m1 xs z
      · rw [e'] at z; rw [<- e] at z; exact m2 ob w z
    · obtain ⟨a, ha, rfl⟩ := List.mem_map.mp hp
      obtain ⟨u, hu, n1, n2⟩ := Ft.dom _ _ _ ft a ha
      refine ⟨fun xs z => ?_, fun ob w z => ?_⟩
      · rw [hu] at z; cases z; exact n1 _ rfl
      · rw [hu] at z; cases z; exact n2 _ _ rfl
  · rw [app_snd, List.nodup_append]
    refine ⟨S.R.nda, nd, fun a ha b hb e => ?_⟩
    subst e
    rcases fr a hb with h | h
    · exact S.dis a h ha
    · exact S.R.ofree h ha
  · rw [hid_set] at e
    obtain ⟨hi, _⟩ := hid_get e
    obtain ⟨w, ew, q⟩ := S.Q.slots i r e
    refine ⟨w, ew, ?_⟩
    rcases q with ⟨k, q⟩ | ⟨k, a, e1, m, c⟩
    · exact .inl ⟨k, Rep.grow gO _ _ q⟩
    · have m' := mem_o m hi
      exact .inr ⟨k, a, e1, List.mem_append_left _ m', c.grow (fun u h => (g.keep _ _ h (ko _ m')).1) gO⟩
  · rw [hid_set]; exact S.Q.len
  · rw [setS_eq, List.getElem?_set_self hl]
theorem REnv.putX (R : REnv K H₀ H σ ρ o) (s : Same H H') (i : Nat) {r : EV} {v : V} (h : RV K H H' (o.map Prod.snd) r v) (hk : r.k ≠ .own) :
    ∃ pre, REnv K H₀ H' (σ.set i (some v)) (setS ρ i r.sto) (pre ++ o) := by
  obtain ⟨k, d⟩ := r
  cases k with
  | val => exact ⟨[], (R.to s).setV i h⟩
  | own => exact absurd rfl hk
  | fre =>
    obtain ⟨a, rfl, m, n, c⟩ := h
    exact ⟨[(i, a)], (R.setO s i m c).1⟩
  | new => exact ⟨[], (R.to s).setV i (RepN.rep (fun a z => z.1) _ _ h)⟩
theorem ST.set (S : ST K H₀ H σ ρ o l A d v) (s : Same H H') {j : Nat} {r : EV} {w : V} (hj : j ≠ l) (h : RV K H H' ((o ++ tg l A).map Prod.snd) r w) (hk : r.k ≠ .own) :
    ∃ o', ST K H₀ H' (σ.set j (some w)) (setS ρ j r.sto) o' l A d v := by
  obtain ⟨pre, R'⟩ := S.Q.putX s j h hk
  refine ⟨pre ++ o, ⟨?_, ?_, ?_, (S.to s).ft⟩⟩
  · rw [hid_set_ne _ _ hj, List.append_assoc]; exact R'
  · rw [setS_eq, List.getElem?_set_ne hj]; exact S.hd
  · rw [List.getElem?_set_ne hj]; exact S.hv
theorem ST.setP (S : ST K H₀ H σ ρ o l A d v) {j : Nat} {e : D} {w : V} (hj : j ≠ l) (pe : pureD e) (h : Rep K H [] e w) : ST K H₀ H (σ.set j (some w)) (setS ρ j (dv e)) o l A d v := by
  refine ⟨?_, ?_, ?_, S.ft⟩
  · rw [hid_set_ne _ _ hj]; exact S.Q.setV j (Rep.pure _ _ pe h)
  · rw [setS_eq, List.getElem?_set_ne hj]; exact S.hd
  · rw [List.getElem?_set_ne hj]; exact S.hv
end
end DL
namespace DL
open PySem PySem.Spec L2 L3
open PyProof.Rows hiding St
noncomputable abbrev TQ := DE -> (D -> DE -> Prop) -> Prop
noncomputable abbrev TQs := DE -> (List D -> DE -> Prop) -> Prop
noncomputable abbrev TQb := DE -> (Bool -> DE -> Prop) -> Prop
structure QZ where
  nx : DE -> Prop
  rt : D -> DE -> Prop
  bk : DE -> Prop := fun _ => False
  ct : DE -> Prop := fun _ => False
noncomputable abbrev TQS := DE -> QZ -> Prop
noncomputable def liftQ (K : PySem.W.Frag) (H₀ : Hp) (l : Nat) (t : TQ) : TE := fun σ H Q => ∃ ρ o A d v, ST K H₀ H σ ρ o l A d v /\ ∃ φ, t ρ φ /\ ∀ u e ρ' H' A' d', Grow A A' H H' -> ST K H₀ H' σ ρ' o l A' d' v -> pureD e -> Rep K H' [] e u -> φ e ρ' -> Q u H'
noncomputable def liftQT (K : PySem.W.Frag) (H₀ : Hp) (l : Nat) (t : TQb) : TT := fun σ H Q => ∃ ρ o A d v, ST K H₀ H σ ρ o l A d v /\ ∃ φ, t ρ φ /\ ∀ b ρ' H' A' d', Grow A A' H H' -> ST K H₀ H' σ ρ' o l A' d' v -> φ b ρ' -> Q b H'
noncomputable def liftQS (K : PySem.W.Frag) (H₀ : Hp) (l : Nat) (t : TQS) : TS := fun Dz σ H => ∃ ρ o A d v, ST K H₀ H σ ρ o l A d v /\ ∃ Z, t ρ Z /\
  (∀ ρ' σ' H' o' A' d', ST K H₀ H' σ' ρ' o' l A' d' v -> Z.nx ρ' -> Dz.nx σ' H') /\
  (∀ ρ' σ' H' o' A' d', ST K H₀ H' σ' ρ' o' l A' d' v -> Z.bk ρ' -> Dz.bk σ' H') /\
  (∀ ρ' σ' H' o' A' d', ST K H₀ H' σ' ρ' o' l A' d' v -> Z.ct ρ' -> Dz.ct σ' H') /\
  (∀ u e ρ' σ' H' o' A' d', ST K H₀ H' σ' ρ' o' l A' d' v -> pureD e -> Rep K H' [] e u -> Z.rt e ρ' -> Dz.rt u H')
noncomputable def EQ (G : Hp -> Prop) (l : Nat) (X : Cx) (e : Expr) (t : TQ) : Prop := ∀ H₀ : {H : Hp // G H}, PE X e (liftQ X.K H₀.1 l t)
noncomputable def QT (G : Hp -> Prop) (l : Nat) (X : Cx) (e : Expr) (t : TQb) : Prop := ∀ H₀ : {H : Hp // G H}, PT X e (liftQT X.K H₀.1 l t)
noncomputable def QS (G : Hp -> Prop) (l : Nat) (X : Cx) (st : Stmt) (t : TQS) : Prop := ∀ H₀ : {H : Hp // G H}, PS X st (liftQS X.K H₀.1 l t)
noncomputable def QSs (G : Hp -> Prop) (l : Nat) (X : Cx) (st : List Stmt) (t : TQS) : Prop := ∀ H₀ : {H : Hp // G H}, PSs X st (liftQS X.K H₀.1 l t)
theorem slot_of : ∀ {ρ : DE} {i : Nat} {r : EV}, ρ[i]? = some (some r) -> slot ρ i = some r
  | [], _, _, h => by cases h
  | _ :: _, 0, _, h => Option.some.inj h
  | _ :: ρ, i + 1, r, h => slot_of (ρ := ρ) (i := i) (by simpa using h)
variable {Γ : Hp -> Prop} {l : Nat}
section
variable {X : Cx} {e : Expr} {es : List Expr} {pos : Pos}
noncomputable def qE (te : TD) : TQ := fun ρ φ => te ρ fun r => pureD r.d /\ φ r.d ρ
theorem eq_ed {te : TD} (h : ED Γ X e te) : EQ Γ l X e (qE te) := fun H₀ => impE (h H₀) fun σ H Q q => by
  obtain ⟨ρ, o, A, d, v, S, φ, hφ, k⟩ := q
  exact ⟨ρ, o, S.R, _, hφ, fun u r H1 s1 rv h1 => k u r.d ρ H1 A d (Grow.same s1) (S.to s1) h1.1 rv.view.rep0 h1.2⟩
noncomputable def qT (tc : TDb) : TQb := fun ρ φ => tc ρ fun b => φ b ρ
theorem qt_et {tc : TDb} (h : ET Γ X e tc) : QT Γ l X e (qT tc) := fun H₀ => impT (h H₀) fun σ H Q q => by
  obtain ⟨ρ, o, A, d, v, S, φ, hφ, k⟩ := q
  exact ⟨ρ, o, S.R, _, hφ, fun b H1 s1 h1 => k b ρ H1 A d (Grow.same s1) (S.to s1) h1⟩
end
section
variable {X : Cx} {e c : Expr} {st : Stmt} {rest a b : List Stmt} {pos : Pos} {t u : TQS}
noncomputable def qNil : TQS := fun ρ Z => Z.nx ρ
noncomputable def qSeq (t u : TQS) : TQS := fun ρ Z => t ρ { Z with nx := fun ρ' => u ρ' Z }
noncomputable def qIf (tc : TQb) (t u : TQS) : TQS := fun ρ Z => tc ρ fun b ρ1 => (b = true -> t ρ1 Z) /\ (b = false -> u ρ1 Z)
noncomputable def qSet (l j : Nat) (te : TD) : TQS := fun ρ Z => te (hid l ρ) fun r => (match r.k with | .own => False | _ => True) /\ Z.nx (setS ρ j r.sto)
noncomputable def qSetQ (j : Nat) (te : TQ) : TQS := fun ρ Z => te ρ fun d ρ1 => Z.nx (setS ρ1 j (dv d))
theorem qs_one (h : QS Γ l X st t) : QSs Γ l X [st] t := fun H₀ => pss_one (h H₀)
theorem qs_cons (h : QS Γ l X st t) (hr : QSs Γ l X rest u) : QSs Γ l X (st :: rest) (qSeq t u) := fun H₀ => impSs (pss_cons (h H₀) (hr H₀)) fun Dz σ H h => by
  obtain ⟨ρ, o, A, d, v, S, Z, hZ, k1, k2, k3, k4⟩ := h
  exact ⟨ρ, o, A, d, v, S, _, hZ, fun ρ' σ' H' o' A' d' S' h' => ⟨ρ', o', A', d', v, S', Z, h', k1, k2, k3, k4⟩, k2, k3, k4⟩
theorem qs_set (j : Nat) {x : Str} {pos' : Pos} {te : TD} (hj : j ≠ l) (hN : X.N.Nodup) (he : ED Γ X e te) (hi : X.N[j]? = some x := by rfl) (hx : Loc X.env.scope x := by first | exact Or.inl rfl | exact Or.inr rfl) (hs : swapsWith e (some (.Name x pos')) pos.line X.env = pure false := by rfl)
    (hf : X.fn x = true \/ X.env.scope.names.lookup x = some .local := by first | exact .inl rfl | exact .inr rfl | assumption) : QS Γ l X (.Assign [.Name x pos'] e pos) (qSet l j te) := fun H₀ => impS (ps_set hN hi hx (he H₀) hs hf) fun Dz σ H h => by
  obtain ⟨ρ, o, A, d, v, S, Z, hZ, k1, k2, k3, k4⟩ := h
  refine ⟨hid l ρ, _, S.Q, _, hZ, fun w r H1 s1 rv h1 => ?_⟩
  obtain ⟨o', S'⟩ := S.set s1 hj rv (notOwn h1.1)
  exact k1 _ _ H1 o' A d S' h1.2
theorem qs_setQ (j : Nat) {x : Str} {pos' : Pos} {te : TQ} (hj : j ≠ l) (hN : X.N.Nodup) (he : EQ Γ l X e te) (hi : X.N[j]? = some x := by rfl) (hx : Loc X.env.scope x := by first | exact Or.inl rfl | exact Or.inr rfl) (hs : swapsWith e (some (.Name x pos')) pos.line X.env = pure false := by rfl)
    (hf : X.fn x = true \/ X.env.scope.names.lookup x = some .local := by first | exact .inl rfl | exact .inr rfl | assumption) : QS Γ l X (.Assign [.Name x pos'] e pos) (qSetQ j te) := fun H₀ => impS (ps_set hN hi hx (he H₀) hs hf) fun Dz σ H h => by
  obtain ⟨ρ, o, A, d, v, S, Z, hZ, k1, k2, k3, k4⟩ := h
  refine ⟨ρ, o, A, d, v, S, _, hZ, fun w r ρ1 H1 A1 d1 g S1 pr rr h1 => ?_⟩
  exact k1 _ _ H1 o A1 d1 (S1.setP hj pr rr) h1
end
noncomputable abbrev FTQ := D -> List D -> (D -> D -> Prop) -> Prop
section
variable {P : Program} {w : World} {K : PySem.W.Frag} {mg : Str -> Option Value} {base : Heap}
noncomputable def without (A : List Addr) (H : Hp) : Hp := fun b => if b ∈ A then none else H b
theorem without_in {A : List Addr} {H : Hp} {b : Addr} (h : b ∈ A) : without A H b = none := if_pos h
theorem without_out {A : List Addr} {H : Hp} {b : Addr} (h : b ∉ A) : without A H b = H b := if_neg h
theorem without_same (A : List Addr) (H : Hp) : Same (without A H) H := fun b u h => by
  by_cases hb : b ∈ A
  · rw [without_in hb] at h; cases h
  · rw [without_out hb] at h; exact h
end
end DL
namespace DL
open PySem PySem.Spec L2 L3
open PyProof.Rows hiding St
variable {Γ : Hp -> Prop} {l : Nat}
section
variable {K : PySem.W.Frag} {H₀ H H' : Hp} {σ : St} {ρ : DE} {o : List (Nat × Addr)} {l : Nat} {A A' : List Addr} {d d' : D} {v : V}
theorem upd_grow {a : Addr} {xs ys : List V} (h : H a = some (.lst xs)) : Grow [a] [a] H (upd H a (.lst ys)) :=
  ⟨fun b u hb n => ⟨by rw [upd_ne (fun z => n (by rw [z]; exact List.mem_cons_self))]; exact hb, n⟩, fun b zs hb => by rw [upd_ne (fun z => by rw [z, h] at hb; cases hb)]; exact hb, fun b ob u hb => by rw [upd_ne (fun z => by rw [z, h] at hb; cases hb)]; exact hb⟩
end
end DL
namespace DL
open PySem PySem.Spec L2 L3
open PyProof.Rows hiding St
variable {Γ : Hp -> Prop} {l : Nat}
section
variable {X : Cx} {e : Expr} {te : TD} {st : Stmt} {t u : TQS} {pos : Pos}
noncomputable def qCut (t : TQS) : TQS := fun ρ Z => ∃ J : DE -> Prop, t ρ { Z with nx := J } /\ ∀ ρ', J ρ' -> Z.nx ρ'
theorem qcut_seq {ρ : DE} {Z : QZ} (J : DE -> Prop) (h1 : t ρ { Z with nx := J }) (h2 : ∀ ρ2, J ρ2 -> u ρ2 Z) : qSeq (qCut t) u ρ Z := ⟨J, h1, h2⟩
end
end DL
namespace DL
open PySem PySem.Spec L2 L3
open PyProof.Rows hiding St
noncomputable abbrev TGE := DE -> (D -> Prop) -> Prop
noncomputable abbrev TGS := DE -> List D -> (DE -> List D -> Prop) -> Prop
end DL
namespace DL
open PySem PySem.Spec L2 L3
open PyProof.Rows hiding St
noncomputable def atP : List Nat -> D -> Option D
  | [], d => some d
  | i :: π, .lst ds => match ds[i]? with
    | some d => atP π d
    | none => none
  | _ :: _, _ => none
noncomputable def putP : List Nat -> D -> D -> D
  | [], _, e => e
  | i :: π, .lst ds, e => match ds[i]? with
    | some d => .lst (ds.set i (putP π d e))
    | none => .lst ds
  | _ :: _, d, _ => d
noncomputable def valP (H : Hp) : List Nat -> V -> V -> Prop
  | [], v, u => u = v
  | i :: π, v, u => ∃ a xs w, v = .ref a /\ H a = some (.lst xs) /\ xs[i]? = some w /\ valP H π w u
theorem valP.fn {H : Hp} : ∀ {π : List Nat} {v u u' : V}, valP H π v u -> valP H π v u' -> u = u'
  | [], _, _, _, h, h' => h.trans h'.symm
  | i :: π, _, _, _, ⟨a, xs, w, e, q, g, h⟩, ⟨a', xs', w', e', q', g', h'⟩ => by
    rw [e] at e'
    cases e'
    rw [q] at q'
    cases q'
    rw [g] at g'
    cases g'
    exact h.fn h'
theorem valP.to {H H' : Hp} (s : Same H H') : ∀ {π : List Nat} {v u : V}, valP H π v u -> valP H' π v u
  | [], _, _, h => h
  | i :: π, _, _, ⟨a, xs, w, e, q, g, h⟩ => ⟨a, xs, w, e, s _ _ q, g, h.to s⟩
theorem valP.snoc {H : Hp} {i : Nat} {a : Addr} {xs : List V} {w : V} : ∀ {π : List Nat} {v : V}, valP H π v (.ref a) -> H a = some (.lst xs) -> xs[i]? = some w -> valP H (π ++ [i]) v w
  | [], v, h, q, g => ⟨a, xs, w, h.symm, q, g, rfl⟩
  | j :: π, v, ⟨b, ys, z, e, q', g', h⟩, q, g => ⟨b, ys, z, e, q', g', h.snoc q g⟩
section
variable {K : PySem.W.Frag} {H H' : Hp}
theorem Fts.length : ∀ {ds : List D} {xs : List V} {A : List Addr}, Fts K H ds xs A -> xs.length = ds.length
  | [], _, _, h => by rw [h.1]; rfl
  | d :: ds, xs, A, h => by
    obtain ⟨v, r, B, C, rfl, _, _, t⟩ := h
    simp [Fts.length t]
theorem Fts.foc : ∀ {ds : List D} {xs : List V} {A : List Addr} {i : Nat} {d : D}, Fts K H ds xs A -> ds[i]? = some d -> ∃ w A1 B C, xs[i]? = some w /\ A = B ++ A1 ++ C /\ Ft K H d w A1 /\
    ∀ H' e A1', Gt H H' -> (∀ a ∈ B ++ C, ∀ u, H a = some u -> H' a = some u) -> Ft K H' e w A1' -> Fts K H' (ds.set i e) xs (B ++ A1' ++ C)
  | [], _, _, _, _, _, e => by simp at e
  | d0 :: ds, xs, A, 0, d, h, e => by
    obtain ⟨v, r, B, C, rfl, rfl, q, t⟩ := h
    cases (show d0 = d from by simpa using e)
    refine ⟨v, B, [], C, rfl, rfl, q, fun H' e A1' g k f => ⟨v, r, A1', C, rfl, rfl, f, Fts.keep g _ _ _ (fun a ha => k a ha) t⟩⟩
  | d0 :: ds, xs, A, i + 1, d, h, e => by
    obtain ⟨v, r, B, C, rfl, rfl, q, t⟩ := h
    obtain ⟨w, A1, B', C', ew, rfl, f, k⟩ := Fts.foc (i := i) t (by simpa using e)
    refine ⟨w, A1, B ++ B', C', by simpa using ew, by simp, f, fun H' e A1' g kk f' => ⟨v, r, B, B' ++ A1' ++ C', rfl, by simp, Ft.keep g _ _ _ (fun a ha => kk a (by simp [ha])) q, k H' e A1' g (fun a ha => kk a (by simp at ha ⊢; rcases ha with ha | ha <;> simp [ha])) f'⟩⟩
theorem Ft.foc : ∀ {π : List Nat} {d : D} {v : V} {A : List Addr} {d1 : D}, Ft K H d v A -> atP π d = some d1 -> ∃ u A1 B C, valP H π v u /\ A = B ++ A1 ++ C /\ Ft K H d1 u A1 /\
    ∀ H' e A1', Gt H H' -> (∀ a ∈ B ++ C, ∀ u, H a = some u -> H' a = some u) -> Ft K H' e u A1' -> Ft K H' (putP π d e) v (B ++ A1' ++ C)
  | [], d, v, A, d1, h, e => by
    cases (show d = d1 from Option.some.inj e)
    exact ⟨v, A, [], [], rfl, by simp, h, fun H' e A1' _ _ f => by simpa [putP] using f⟩
  | i :: π, d, v, A, d1, h, e => by
    cases d with
    | lst ds =>
      have e : (match ds[i]? with | some d => atP π d | none => none) = some d1 := e
      cases ed : ds[i]? with
      | none => rw [ed] at e; cases e
      | some d2 =>
        rw [ed] at e
        obtain ⟨a, xs, AA, rfl, q, rfl, r⟩ := h
        obtain ⟨w, A1, B, C, ew, rfl, f, k⟩ := Fts.foc r ed
        obtain ⟨u, A2, B', C', hv, rfl, f2, k2⟩ := Ft.foc (π := π) f e
        refine ⟨u, A2, a :: (B ++ B'), C' ++ C, ⟨a, xs, w, rfl, q, ew, hv⟩, by simp, f2, fun H' e' A1' g kk f' => ?_⟩
        have h2 := k2 H' e' A1' g (fun a ha => kk a (by simp at ha ⊢; rcases ha with ha | ha <;> simp [ha])) f'
        have h3 := k H' _ _ g (fun a ha => kk a (by simp at ha ⊢; rcases ha with ha | ha <;> simp [ha])) h2
        show Ft K H' (match ds[i]? with | some d => .lst (ds.set i (putP π d e')) | none => .lst ds) _ _
        rw [ed]
        exact ⟨a, xs, _, rfl, kk a (by simp) _ q, by simp, h3⟩
    | _ => cases e
theorem Fts.put : ∀ {ds : List D} {xs : List V} {A : List Addr} (i : Nat) {e : D} {u : V}, Fts K H ds xs A -> Ft K H e u [] -> ∃ A', A'.Sublist A /\ Fts K H (ds.set i e) (xs.set i u) A'
  | [], _, _, _, _, _, h, _ => ⟨_, List.Sublist.refl _, by obtain ⟨rfl, rfl⟩ := h; exact ⟨rfl, rfl⟩⟩
  | d :: ds, xs, A, 0, e, u, h, f => by
    obtain ⟨v, r, B, C, rfl, rfl, q, t⟩ := h
    exact ⟨C, List.sublist_append_right _ _, u, r, [], C, rfl, rfl, f, t⟩
  | d :: ds, xs, A, i + 1, e, u, h, f => by
    obtain ⟨v, r, B, C, rfl, rfl, q, t⟩ := h
    obtain ⟨C', s, t'⟩ := Fts.put i t f
    exact ⟨B ++ C', List.Sublist.append (List.Sublist.refl _) s, v, _, B, C', rfl, rfl, q, t'⟩
theorem Fts.app : ∀ {ds es : List D} {xs ys : List V} {A B : List Addr}, Fts K H ds xs A -> Fts K H es ys B -> Fts K H (ds ++ es) (xs ++ ys) (A ++ B)
  | [], _, _, _, _, _, h, f => by obtain ⟨rfl, rfl⟩ := h; exact f
  | d :: ds, es, xs, ys, A, B', h, f => by
    obtain ⟨v, r, B, C, rfl, rfl, q, t⟩ := h
    exact ⟨v, r ++ ys, B, C ++ B', rfl, by simp, q, Fts.app t f⟩
theorem Fts.dropLast : ∀ {ds : List D} {xs : List V} {A : List Addr}, Fts K H ds xs A -> ∃ A', A'.Sublist A /\ Fts K H ds.dropLast xs.dropLast A'
  | [], _, _, h => ⟨[], List.nil_sublist _, by obtain ⟨rfl, rfl⟩ := h; exact ⟨rfl, rfl⟩⟩
  | [d], xs, A, h => by
    obtain ⟨v, r, B, C, rfl, rfl, q, t⟩ := h
    obtain ⟨rfl, rfl⟩ := t
    exact ⟨[], List.nil_sublist _, rfl, rfl⟩
  | d :: d' :: ds, xs, A, h => by
    obtain ⟨v, r, B, C, rfl, rfl, q, t⟩ := h
    obtain ⟨A', s, t'⟩ := Fts.dropLast t
    obtain ⟨v', r', _, _, rfl, _⟩ := t
    exact ⟨B ++ A', List.Sublist.append (List.Sublist.refl _) s, v, _, B, A', rfl, rfl, q, t'⟩
mutual
theorem Ft.repN {P : Addr -> Prop} : ∀ (d : D) (v : V) (A : List Addr), (∀ a ∈ A, P a) -> Ft K H d v A -> RepN K H P d v
  | .lst ds, v, A, k, h => by
    obtain ⟨a, xs, B, e, q, rfl, r⟩ := h
    exact ⟨a, xs, e, q, k a List.mem_cons_self, Fts.repNs ds xs B (fun b hb => k b (List.mem_cons_of_mem _ hb)) r⟩
  | .dk ks ds, v, A, k, h => by
    obtain ⟨a, xs, B, e, q, l, n, rfl, r⟩ := h
    exact ⟨a, xs, e, q, k a List.mem_cons_self, l, n, Fts.repNs ds xs B (fun b hb => k b (List.mem_cons_of_mem _ hb)) r⟩
  | .tup ds, v, A, k, h => by
    obtain ⟨a, xs, e, q, r⟩ := h
    exact ⟨a, xs, e, q, Fts.repNs ds xs A k r⟩
  | .non, _, _, _, h => h.2
  | .bl _, _, _, _, h => h.2
  | .int _, _, _, _, h => h.2
  | .str _, _, _, _, h => h.2
  | .ty _, _, _, _, h => h.2
  | .cn _, _, _, _, h => h.2
  | .scr ns, v, A, _, h => h.2
  | .exc _, _, _, _, h => h.elim
  | .fd _, _, _, _, h => h.elim
  | .dt _ _, _, _, _, h => h.elim
theorem Fts.repNs {P : Addr -> Prop} : ∀ (ds : List D) (xs : List V) (A : List Addr), (∀ a ∈ A, P a) -> Fts K H ds xs A -> RepNs K H P ds xs
  | [], _, _, _, h => h.1
  | d :: ds, xs, A, k, h => by
    obtain ⟨v, r, B, C, e, rfl, q, t⟩ := h
    exact ⟨v, r, e, Ft.repN d v B (fun b hb => k b (List.mem_append_left _ hb)) q, Fts.repNs ds r C (fun b hb => k b (List.mem_append_right _ hb)) t⟩
end
theorem RepNs.take {P : Addr -> Prop} : ∀ {ds : List D} {xs : List V} (n : Nat), RepNs K H P ds xs -> RepNs K H P (ds.take n) (xs.take n)
  | _, _, 0, _ => rfl
  | [], _, n + 1, h => by cases (show _ = [] from h); rfl
  | d :: ds, xs, n + 1, h => by
    obtain ⟨v, r, rfl, q, t⟩ := h
    exact ⟨v, r.take n, rfl, q, RepNs.take n t⟩
theorem RepNs.drop {P : Addr -> Prop} : ∀ {ds : List D} {xs : List V} (n : Nat), RepNs K H P ds xs -> RepNs K H P (ds.drop n) (xs.drop n)
  | _, _, 0, h => h
  | [], _, n + 1, h => by cases (show _ = [] from h); rfl
  | d :: ds, xs, n + 1, h => by
    obtain ⟨v, r, rfl, q, t⟩ := h
    exact RepNs.drop n t
end
section
variable {K : PySem.W.Frag} {H₀ H H1 : Hp} {σ : St} {ρ : DE} {o : List (Nat × Addr)} {l : Nat} {A : List Addr} {d : D} {v : V}
theorem ST.pgen (S : ST K H₀ H σ ρ o l A d v) {π : List Nat} {es : List D} (h : atP π d = some (.lst es)) : ∃ b ys A1, valP H π v (.ref b) /\ H b = some (.lst ys) /\ Fts K H es ys A1 /\ A1.Nodup /\ (∀ a ∈ A1, a ∈ A) /\ (∀ a ∈ A1, H a ≠ none) /\
    ∀ H1 es' zs A1', Same H H1 -> Fts K H1 es' zs A1' -> A1'.Nodup -> (∀ a ∈ A1', a ∈ A1 \/ H a = none) -> ∃ A', ST K H₀ (upd H1 b (.lst zs)) σ (setS ρ l (dv (putP π d (.lst es')))) o l A' (putP π d (.lst es')) v /\ Grow A A' H (upd H1 b (.lst zs)) := by
  obtain ⟨u, A0, B, C, hv, hA, f, k⟩ := Ft.foc S.ft h
  obtain ⟨b, ys, A1, rfl, hb, rfl, fs⟩ := f
  have nd := S.ndA
  rw [hA] at nd
  have nd1 := List.nodup_append.mp nd
  have nd2 := List.nodup_append.mp nd1.1
  have nd3 := List.nodup_cons.mp nd2.2.1
  have dm : ∀ a ∈ A, H a ≠ none := fun a ha e => by
    obtain ⟨x, hx, _⟩ := Ft.dom _ _ _ S.ft a ha
    rw [e] at hx
    cases hx
  have mA : ∀ a, a ∈ B \/ a = b \/ a ∈ A1 \/ a ∈ C ↔ a ∈ A := fun a => by rw [hA]; simp [or_assoc]
  refine ⟨b, ys, A1, hv, hb, fs, nd3.2, fun a ha => (mA a).mp (by simp [ha]), fun a ha => dm a ((mA a).mp (by simp [ha])), fun H1 es' zs A1' s1 f' nd' fr => ?_⟩
  have hb1 := s1 _ _ hb
  have g1 : Grow [b] [b] H1 (upd H1 b (.lst zs)) := upd_grow hb1
  have gt : Gt H (upd H1 b (.lst zs)) := (Gt.same s1).trans g1.gt
  have nb : b ∉ A1' := fun z => (fr b z).elim nd3.1 fun e => by rw [hb] at e; cases e
  have kp : ∀ a, a ≠ b -> ∀ x, H a = some x -> upd H1 b (.lst zs) a = some x := fun a ha x hx => by rw [upd_ne ha]; exact s1 _ _ hx
  have ftn := k (upd H1 b (.lst zs)) (.lst es') (b :: A1') gt (fun a ha x hx => kp a (fun z => by
      subst z
      rcases List.mem_append.mp ha with ha | ha
      · exact nd2.2.2 a ha a List.mem_cons_self rfl
      · exact nd1.2.2 a (List.mem_append_right _ List.mem_cons_self) a ha rfl) x hx)
    ⟨b, zs, A1', rfl, upd_same, rfl, Fts.keep g1.gt _ _ _ (fun a ha x hx => by rw [upd_ne (fun z => nb (by rw [<- z]; exact ha))]; exact hx) f'⟩
  have mA' : ∀ a ∈ B ++ b :: A1' ++ C, a ∈ A \/ H a = none := fun a ha => by
    rw [List.mem_append, List.mem_append, List.mem_cons] at ha
    rcases ha with (ha | ha | ha) | ha
    · exact .inl ((mA a).mp (by simp [ha]))
    · exact .inl ((mA a).mp (by simp [ha]))
    · exact (fr a ha).imp (fun z => (mA a).mp (by simp [z])) id
    · exact .inl ((mA a).mp (by simp [ha]))
  have ndn : (B ++ b :: A1' ++ C).Nodup := by
    rw [List.nodup_append, List.nodup_append, List.nodup_cons]
    refine ⟨⟨nd2.1, ⟨nb, nd'⟩, fun x hx y hy e => ?_⟩, nd1.2.1, fun x hx y hy e => ?_⟩
    · subst e
      rcases List.mem_cons.mp hy with hy | hy
      · exact nd2.2.2 x hx x (by rw [hy]; exact List.mem_cons_self) rfl
      · rcases fr x hy with z | z
        · exact nd2.2.2 x hx x (List.mem_cons_of_mem _ z) rfl
        · exact dm x ((mA x).mp (by simp [hx])) z
    · subst e
      rcases List.mem_append.mp hx with hx | hx
      · exact nd1.2.2 x (List.mem_append_left _ hx) x hy rfl
      · rcases List.mem_cons.mp hx with hx | hx
        · exact nd1.2.2 x (List.mem_append_right _ (by rw [hx]; exact List.mem_cons_self)) x hy rfl
        · rcases fr x hx with z | z
          · exact nd1.2.2 x (List.mem_append_right _ (List.mem_cons_of_mem _ z)) x hy rfl
          · exact dm x ((mA x).mp (by simp [hy])) z
  have bA : b ∈ A := (mA b).mp (by simp)
  have gr : Grow A (B ++ b :: A1' ++ C) H (upd H1 b (.lst zs)) := ⟨fun c x hx hn => ⟨kp c (fun z => hn (z ▸ bA)) x hx, fun z => (mA' c z).elim hn fun e => by rw [hx] at e; cases e⟩, gt.tups, gt.frzs⟩
  exact ⟨_, S.chg gr ftn ndn mA', gr⟩
theorem ST.letgo (S : ST K H₀ H σ ρ o l A d v) {i : Nat} (hi : i ≠ l) (w : V) : ST K H₀ H (σ.set i (some w)) (hid i ρ) o l A d v := by
  refine ⟨⟨S.Q.same, S.Q.fresh, S.Q.trk, S.Q.mtb, S.Q.nda, fun j r e => ?_, ?_⟩, ?_, ?_, S.ft⟩
  · obtain ⟨hj, e⟩ := hid_get e
    obtain ⟨hj2, e⟩ := hid_get e
    obtain ⟨u, eu, q⟩ := S.Q.slots j r (by rw [hid_of hj]; exact e)
    exact ⟨u, by rw [List.getElem?_set_ne (Ne.symm hj2)]; exact eu, q⟩
  · rw [List.length_set, S.Q.len]
    simp only [hid_eq, List.length_set]
  · rw [hid_of (Ne.symm hi)]; exact S.hd
  · rw [List.getElem?_set_ne hi]; exact S.hv
theorem ST.hide (S : ST K H₀ H σ ρ o l A d v) {i : Nat} (hi : i ≠ l) : ST K H₀ H σ (hid i ρ) o l A d v := by
  refine ⟨⟨S.Q.same, S.Q.fresh, S.Q.trk, S.Q.mtb, S.Q.nda, fun j r e => ?_, ?_⟩, ?_, S.hv, S.ft⟩
  · obtain ⟨hj, e⟩ := hid_get e
    obtain ⟨hj2, e⟩ := hid_get e
    exact S.Q.slots j r (by rw [hid_of hj]; exact e)
  · rw [S.Q.len]
    simp only [hid_eq, List.length_set]
  · rw [hid_of (Ne.symm hi)]; exact S.hd
theorem inner_ne {ds es : List D} {a b : Addr} {xs : List V} {j : Nat} (f : Ft K H (.lst ds) (.ref a) A) (nd : A.Nodup) (hd : ds[j]? = some (.lst es)) (hx : H a = some (.lst xs)) (hb : xs[j]? = some (.ref b)) : b ≠ a := fun z => by
  subst z
  obtain ⟨a', xs', B, e, q, rfl, r⟩ := f
  cases e
  rw [hx] at q
  cases q
  obtain ⟨w, A1, B', C', ew, rfl, f, _⟩ := Fts.foc r hd
  rw [hb] at ew
  cases ew
  obtain ⟨c, ys, D', e, _, rfl, _⟩ := f
  cases e
  exact (List.nodup_cons.mp nd).1 (by simp)
end
noncomputable abbrev TP := DE -> (List Nat -> Prop) -> Prop
noncomputable def liftP (K : PySem.W.Frag) (H₀ : Hp) (l : Nat) (t : TP) : TE := fun σ H Q => ∃ ρ o A d v, ST K H₀ H σ ρ o l A d v /\ ∃ φ, t ρ φ /\ ∀ u π H', Same H H' -> valP H' π v u -> φ π -> Q u H'
noncomputable def EP (G : Hp -> Prop) (l : Nat) (X : Cx) (e : Expr) (t : TP) : Prop := ∀ H₀ : {H : Hp // G H}, PE X e (liftP X.K H₀.1 l t)
variable {Γ : Hp -> Prop} {l : Nat}
section
variable {X : Cx} {x : Str} {e ke : Expr} {es : List Expr} {te tk : TD} {tp : TP} {np apos cpos pos pos' : Pos}
noncomputable def pName : TP := fun _ φ => φ []
theorem ep_name (hN : X.N[l]? = some x := by rfl) (hv : Vis X.env.scope x := by first | exact Or.inl rfl | exact Or.inr (Or.inl rfl) | exact Or.inr (Or.inr rfl)) (hd : (x == ("__debug__" : Str)) = false := by decide)
    (hcd : (x == ("__classdict__" : Str)) = false := by decide) : EP Γ l X (.Name x pos) pName := fun H₀ => impE (pe_var hN hv hd hcd) fun σ H Q q => by
  obtain ⟨ρ, o, A, d, v, S, φ, hφ, k⟩ := q
  exact ⟨v, S.hv, k v [] H (Same.refl H) rfl hφ⟩
noncomputable def pIx (l : Nat) (tp : TP) (tk : TD) : TP := fun ρ φ => tp ρ fun π => tk ρ fun kr => ∃ d ds i j, slot ρ l = some (dv d) /\ atP π d = some (.lst ds) /\ kr.d = .int i /\ ixN ds.length i = some j /\ φ (π ++ [j])
theorem ep_ix (hp : EP Γ l X e tp) (hk : ED Γ X ke tk) (hs : PlainIx ke := by intro _ _; rfl) : EP Γ l X (.Subscript e ke pos) (pIx l tp tk) := fun H₀ => impE (pe_ix ix_seq (hp H₀) (hk H₀) hs) fun σ H Q q => by
  obtain ⟨ρ, o, A, d, v, S, φ, hφ, k⟩ := q
  refine ⟨ρ, o, A, d, v, S, _, hφ, fun u π H1 s1 vp h1 => ⟨ρ, o, (S.to s1).R, _, h1, fun w r H2 s2 rv h2 => ?_⟩⟩
  obtain ⟨d', ds, i, j, es, ea, ei, ej, h2⟩ := h2
  have e2 : some (dv d') = some (dv d) := by rw [<- es]; exact slot_of S.hd
  cases e2
  obtain ⟨b, ys, A1, vb, hb, fs, _⟩ := (S.to (s1.trans s2)).pgen ea
  have := (vp.to s2).fn vb
  subst this
  have vw := rv.view
  rw [ei] at vw
  cases (show w = _ from vw)
  have hj := (ixN_seq ej).2.1
  have hl := fs.length
  obtain ⟨y, ey⟩ : ∃ y, ys[j]? = some y := ⟨ys[j]'(by omega), by simp [show j < ys.length by omega]⟩
  refine .inl ⟨b, ys, i, y, rfl, rfl, SqL.of hb, ?_, k _ _ H2 (s1.trans s2) (vb.snoc hb ey) h2⟩
  unfold atI
  rw [hl, ej]
  exact ey
noncomputable abbrev TF := DE -> (D -> Prop) -> Prop
noncomputable abbrev TFs := DE -> (List D -> Prop) -> Prop
noncomputable def liftF (K : PySem.W.Frag) (H₀ : Hp) (l : Nat) (t : TF) : TE := fun σ H Q => ∃ ρ o A d v, ST K H₀ H σ ρ o l A d v /\ ∃ φ, t ρ φ /\ ∀ u e B H', Same H H' -> Ft K H' e u B -> B.Nodup -> (∀ b ∈ B, H b = none) -> φ e -> Q u H'
noncomputable def liftFs (K : PySem.W.Frag) (H₀ : Hp) (l : Nat) (t : TFs) : TA := fun σ H Q => ∃ ρ o A d v, ST K H₀ H σ ρ o l A d v /\ ∃ φ, t ρ φ /\ ∀ us es B H', Same H H' -> Fts K H' es us B -> B.Nodup -> (∀ b ∈ B, H b = none) -> φ es -> Q us H'
noncomputable def EF (G : Hp -> Prop) (l : Nat) (X : Cx) (e : Expr) (t : TF) : Prop := ∀ H₀ : {H : Hp // G H}, PE X e (liftF X.K H₀.1 l t)
noncomputable def EFs (G : Hp -> Prop) (l : Nat) (X : Cx) (es : List Expr) (t : TFs) : Prop := ∀ H₀ : {H : Hp // G H}, PA X es (liftFs X.K H₀.1 l t)
noncomputable def frs : EV -> Prop
  | ⟨.fre, .lst ds⟩ => pureDs ds
  | ⟨.new, .lst ds⟩ => pureDs ds
  | ⟨_, d⟩ => pureD d
theorem frs_ft {K : PySem.W.Frag} {H H' : Hp} {O : List Addr} {r : EV} {v : V} (h : RV K H H' O r v) (p : frs r) : ∃ B, Ft K H' r.d v B /\ B.Nodup /\ ∀ b ∈ B, H b = none := by
  have gen : pureD r.d -> ∃ B, Ft K H' r.d v B /\ B.Nodup /\ ∀ b ∈ B, H b = none := fun pd => ⟨[], Rep.ft _ _ pd h.view.rep0, List.nodup_nil, fun b hb => by cases hb⟩
  obtain ⟨k, d⟩ := r
  unfold frs at p
  split at p
  · rename_i ds eq
    cases eq
    obtain ⟨a, rfl, m, n, xs, hx, rr⟩ := h
    exact ⟨[a], ⟨a, xs, [], rfl, hx, rfl, Reps.fts _ _ p rr⟩, by simp, fun b hb => by rw [List.mem_singleton.mp hb]; exact m⟩
  · rename_i ds eq
    cases eq
    obtain ⟨a, xs, rfl, hx, pa, rr⟩ := h
    exact ⟨[a], ⟨a, xs, [], rfl, hx, rfl, Reps.fts (O := []) _ _ p (RepNs.reps (fun _ _ z => by cases z) _ _ rr)⟩, by simp, fun b hb => by rw [List.mem_singleton.mp hb]; exact pa.2⟩
  · rename_i k' d' _ _ eq
    cases eq
    exact gen p
noncomputable def fE (te : TD) : TF := fun ρ φ => te ρ fun r => frs r /\ φ r.d
theorem ef_ed (he : ED Γ X e te) : EF Γ l X e (fE te) := fun H₀ => impE (he H₀) fun σ H Q q => by
  obtain ⟨ρ, o, A, d, v, S, φ, hφ, k⟩ := q
  refine ⟨ρ, o, S.R, _, hφ, fun u r H1 s1 rv h1 => ?_⟩
  obtain ⟨B, f, nd, fr⟩ := frs_ft rv h1.1
  exact k u r.d B H1 s1 f nd fr h1.2
noncomputable def fNil : TFs := fun _ φ => φ []
theorem efs_nil : EFs Γ l X [] fNil := fun H₀ => impA pa_nil fun σ H Q q => by
  obtain ⟨ρ, o, A, d, v, S, φ, hφ, k⟩ := q
  exact k [] [] [] H (Same.refl H) ⟨rfl, rfl⟩ List.nodup_nil (fun b hb => by cases hb) hφ
noncomputable def fCons (te : TF) (tr : TFs) : TFs := fun ρ φ => te ρ fun d => tr ρ fun ds => φ (d :: ds)
theorem efs_cons {te : TF} {tr : TFs} (he : EF Γ l X e te) (hr : EFs Γ l X es tr) (hs : starEach (e :: es) X.env = (false, eval e X.env) :: starEach es X.env := by rfl) : EFs Γ l X (e :: es) (fCons te tr) := fun H₀ => impA (pa_cons (he H₀) (hr H₀) hs) fun σ H Q q => by
  obtain ⟨ρ, o, A, d, v, S, φ, hφ, k⟩ := q
  refine ⟨ρ, o, A, d, v, S, _, hφ, fun u e1 B1 H1 s1 f1 n1 fr1 h1 => ⟨ρ, o, A, d, v, S.to s1, _, h1, fun us es1 B2 H2 s2 f2 n2 fr2 h2 => ?_⟩⟩
  have f1' : Ft X.K H2 e1 u B1 := Ft.keep (Gt.same s2) _ _ _ (fun a _ x hx => s2 _ _ hx) f1
  refine k (u :: us) (e1 :: es1) (B1 ++ B2) H2 (s1.trans s2) ⟨u, us, B1, B2, rfl, rfl, f1', f2⟩ ?_ (fun b hb => ?_) h2
  · rw [List.nodup_append]
    refine ⟨n1, n2, fun a ha b hb e => ?_⟩
    subst e
    obtain ⟨x, hx, _⟩ := Ft.dom _ _ _ f1 a ha
    rw [fr2 a hb] at hx
    cases hx
  · rcases List.mem_append.mp hb with hb | hb
    · exact fr1 b hb
    · exact s1.free (fr2 b hb)
noncomputable def fLst (t : TFs) : TF := fun ρ φ => t ρ fun ds => ds.length <= 1000 /\ φ (.lst ds)
theorem ef_lst {t : TFs} (h : EFs Γ l X es t) : EF Γ l X (.List es pos) (fLst t) := fun H₀ => impE (pe_lst (h H₀)) fun σ H Q q => by
  obtain ⟨ρ, o, A, d, v, S, φ, hφ, k⟩ := q
  refine ⟨ρ, o, A, d, v, S, _, hφ, fun us es1 B H1 s1 f nd fr h1 => ⟨by rw [f.length, sizeLine_eq]; omega, fun p hp => ?_⟩⟩
  have n := same_new hp (HO.lst us)
  refine k (.ref p) (.lst es1) (p :: B) _ (s1.trans n) ⟨p, us, B, rfl, upd_same, rfl, Fts.keep (Gt.same n) _ _ _ (fun a _ x hx => n _ _ hx) f⟩ ?_ (fun b hb => ?_) h1.2
  · rw [List.nodup_cons]
    refine ⟨fun z => ?_, nd⟩
    obtain ⟨x, hx, _⟩ := Fts.dom _ _ _ f p z
    rw [hp] at hx
    cases hx
  · rcases List.mem_cons.mp hb with rfl | hb
    · exact s1.free hp
    · exact fr b hb
noncomputable def qPapp (l : Nat) (tp : TP) (tf : TF) : TQS := fun ρ Z => tp ρ fun π => ∃ d ds, slot ρ l = some (dv d) /\ atP π d = some (.lst ds) /\ ds.length <= 1000 /\ tf ρ fun f => Z.nx (setS ρ l (dv (putP π d (.lst (ds ++ [f])))))
theorem qs_papp {tf : TF} {oe : Expr} (hp : EP Γ l X oe tp) (he : EF Γ l X e tf)
    (hpp : ∀ {ta tb : TE}, PE X oe ta -> PE X e tb -> PS X (.Expr (.Call (.Attribute oe "append" apos) [e] [] cpos) pos) (tDrop (tBM X.K "list" rAppend ta (tCons tb tNil))) := by
      intro ta tb h1 h2
      exact ps_expr (pe_bm PySem.F.plainAttrs_list PySem.F.slot_list_append PySem.F.type_list_append mt_append h1 (pa_cons h2 pa_nil))) :
    QS Γ l X (.Expr (.Call (.Attribute oe "append" apos) [e] [] cpos) pos) (qPapp l tp tf) := fun H₀ => impS (hpp (hp H₀) (he H₀)) fun Dz σ H h => by
  obtain ⟨ρ, o, A, d, v, S, Z, hZ, k1, k2, k3, k4⟩ := h
  refine ⟨ρ, o, A, d, v, S, _, hZ, fun u π H1 s1 vp h1 => ?_⟩
  have S1 := S.to s1
  obtain ⟨d', ds, es, ea, hl, h1⟩ := h1
  have e2 : some (dv d') = some (dv d) := by rw [<- es]; exact slot_of S.hd
  cases e2
  obtain ⟨b, ys, A1, vb, hb, fs, n1, sub, dm, kk⟩ := S1.pgen ea
  have := vp.fn vb
  subst this
  refine ⟨.inl ⟨rfl, _, SqL.of hb⟩, ρ, o, A, d, v, S1, _, h1, fun w f B H2 s2 ff nd fr h2 => ?_⟩
  have f1 : Fts X.K H2 ds ys A1 := Fts.keep (Gt.same s2) _ _ _ (fun a _ x hx => s2 _ _ hx) fs
  obtain ⟨A', S', g⟩ := kk H2 (ds ++ [f]) (ys ++ [w]) (A1 ++ B) s2 (f1.app ⟨w, [], B, [], rfl, by simp, ff, rfl, rfl⟩) (by
      rw [List.nodup_append]
      refine ⟨n1, nd, fun a ha b hb e => ?_⟩
      subst e
      exact dm a ha (fr a hb)) (fun a ha => (List.mem_append.mp ha).imp id (fr a))
  refine ⟨b, ys, w, rfl, rfl, s2 _ _ hb, ?_, k1 _ _ _ _ _ _ S' h2⟩
  rw [fs.length]
  exact Nat.lt_of_le_of_lt hl (by decide)
noncomputable def qPput (l : Nat) (tp : TP) (tk te : TD) : TQS := fun ρ Z => te ρ fun r => pureD r.d /\ tp ρ fun π => tk ρ fun kr => ∃ d ds i j, slot ρ l = some (dv d) /\ atP π d = some (.lst ds) /\ kr.d = .int i /\ ixN ds.length i = some j /\ Z.nx (setS ρ l (dv (putP π d (.lst (ds.set j r.d)))))
theorem qs_pput {oe : Expr} (hp : EP Γ l X oe tp) (hk : ED Γ X ke tk) (he : ED Γ X e te) (hs : swapsWithSole [.Subscript oe ke pos'] e pos.line X.env = pure false := by rfl) (hw : swappedStores [.Subscript oe ke pos'] e X.env = pure none := by rfl)
    (h1 : (assignEach [.Subscript oe ke pos'] X.env).map (·.2) = [assign (.Subscript oe ke pos') X.env] := by rfl)
    (ha : ∀ v, assign (.Subscript oe ke pos') X.env v = (do
      let ov <- holding [v] (eval oe X.env)
      let iv <- holding [v, ov] (eval ke X.env)
      standAt pos'
      holding [v, ov, iv] (setItem ov iv v)
      release [v, ov, iv] []) := by intro _; rfl) : QS Γ l X (.Assign [.Subscript oe ke pos'] e pos) (qPput l tp tk te) := fun H₀ =>
  impS (ps_asg (he H₀) (pg_sub (hp H₀) (hk H₀) set_list ha) hs hw h1) fun Dz σ H h => by
    obtain ⟨ρ, o, A, d, v, S, Z, hZ, k1, k2, k3, k4⟩ := h
    refine ⟨ρ, o, S.R, _, hZ, fun w r H1 s1 rv h1 => ⟨ρ, o, A, d, v, S.to s1, _, h1.2, fun u π H2 s2 vp h2 => ⟨ρ, o, (S.to (s1.trans s2)).R, _, h2, fun w2 r2 H3 s3 rv2 h3 => ?_⟩⟩⟩
    obtain ⟨d', ds, i, j, es, ea, ei, ej, h3⟩ := h3
    have e2 : some (dv d') = some (dv d) := by rw [<- es]; exact slot_of S.hd
    cases e2
    have S3 := S.to ((s1.trans s2).trans s3)
    obtain ⟨b, ys, A1, vb, hb, fs, n1, sub, dm, kk⟩ := S3.pgen ea
    have := (vp.to s3).fn vb
    subst this
    have vw := rv2.view
    rw [ei] at vw
    cases (show w2 = _ from vw)
    have fw : Ft X.K H3 r.d w [] := Rep.ft _ _ h1.1 (Rep.keep (O := []) (O' := []) (Gt.same (s2.trans s3)) _ _ h1.1 rv.view.rep0)
    obtain ⟨A2, sl, f2⟩ := fs.put j fw
    obtain ⟨A', S', g⟩ := kk H3 _ _ A2 (Same.refl _) f2 (sl.nodup n1) (fun a ha => .inl (sl.subset ha))
    exact ⟨b, ys, i, j, rfl, rfl, hb, by rw [fs.length]; exact ej, k1 _ _ _ _ _ _ S' h3⟩
noncomputable def qPpop (l : Nat) (tp : TP) : TQS := fun ρ Z => tp ρ fun π => ∃ d ds, slot ρ l = some (dv d) /\ atP π d = some (.lst ds) /\ ds ≠ [] /\ Z.nx (setS ρ l (dv (putP π d (.lst ds.dropLast))))
theorem qs_ppop {oe : Expr} (hp : EP Γ l X oe tp)
    (hpp : ∀ {ta : TE}, PE X oe ta -> PS X (.Expr (.Call (.Attribute oe "pop" apos) [] [] cpos) pos) (tDrop (tBM0 X.K "list" rPop ta)) := by
      intro ta h1
      exact ps_expr (pe_bm0 PySem.F.plainAttrs_list PySem.F.slot_list_pop PySem.F.type_list_pop mt_pop h1)) :
    QS Γ l X (.Expr (.Call (.Attribute oe "pop" apos) [] [] cpos) pos) (qPpop l tp) := fun H₀ => impS (hpp (hp H₀)) fun Dz σ H h => by
  obtain ⟨ρ, o, A, d, v, S, Z, hZ, k1, k2, k3, k4⟩ := h
  refine ⟨ρ, o, A, d, v, S, _, hZ, fun u π H1 s1 vp h1 => ?_⟩
  have S1 := S.to s1
  obtain ⟨d', ds, es, ea, hl, h1⟩ := h1
  have e2 : some (dv d') = some (dv d) := by rw [<- es]; exact slot_of S.hd
  cases e2
  obtain ⟨b, ys, A1, vb, hb, fs, n1, sub, dm, kk⟩ := S1.pgen ea
  have := vp.fn vb
  subst this
  obtain ⟨A2, sl, f2⟩ := fs.dropLast
  obtain ⟨A', S', g⟩ := kk H1 _ _ A2 (Same.refl _) f2 (sl.nodup n1) (fun a ha => .inl (sl.subset ha))
  have hl' := fs.length
  have hpos : 0 < ys.length := by
    rw [hl']
    exact List.length_pos_iff.mpr hl
  exact ⟨.inl ⟨rfl, _, SqL.of hb⟩, b, ys, ys[ys.length - 1]'(by omega), rfl, rfl, hb, by simp [show ys.length - 1 < ys.length by omega], k1 _ _ _ _ _ _ S' h1⟩
noncomputable def qForR (i : Nat) (te : TD) (tb : TQS) : TQS := fun ρ Z => te ρ fun r => ∃ n : Nat, r.d = .int n /\ n <= 1000 /\ ∃ P : Nat -> DE -> Prop, P 0 ρ /\ (∀ j ρ', j < n -> P j ρ' -> tb (setS ρ' i (dv (.int j))) { nx := P (j + 1), rt := fun _ _ => False }) /\ ∀ ρ', P n ρ' -> Z.nx ρ'
theorem qs_forR (i : Nat) {tg : Expr} {p : Pos} {body : List Stmt} {tb : TQS} (hil : i ≠ l) (hm : X.mg "range" = none) (he : ED Γ X e te) (hgt : PG X tg (gName i)) (hb : QSs Γ l X body tb) (hc : X.calm = true := by rfl) (hps : PassesOwn (model X.prog X.w) X.A X.env X.xe := by exact PassesOwn.never)
    (hg : Gl X "range" := by rfl) (hs : starEach [e] X.env = [(false, eval e X.env)] := by rfl) (hf : ∀ x, foldedSetIterable (.Call (.Name "range" p) [e] [] cpos) X.env x = pure x := by intro _; rfl) :
    QS Γ l X (.For tg (.Call (.Name "range" p) [e] [] cpos) body [] pos) (qForR i te tb) := fun H₀ => impS (ps_for hps hc (pi_range1 hg hm (pa_cons (he H₀) pa_nil hs) hs) hgt (hb H₀) hf) fun Dz σ H h => by
  obtain ⟨ρ, o, A, d, v, S, Z, hZ, k1, k2, k3, k4⟩ := h
  refine ⟨ρ, o, S.R, _, hZ, fun w r H1 s1 rv h1 => ?_⟩
  obtain ⟨n, ed, hn, P, p0, turn, fin⟩ := h1
  have ev := rv.view
  rw [ed] at ev
  cases (show w = _ from ev)
  refine ⟨n, rfl, by omega, by omega, ?_⟩
  have en : (n : Int).toNat = n := by omega
  rw [en]
  refine for_range (fun j σ' H' => ∃ ρ' o' A' d', ST X.K H₀.1 H' σ' ρ' o' l A' d' v /\ P j ρ') ⟨ρ, o, A, d, S.to s1, p0⟩ ?_ ?_
  · rintro j σ' H' hj ⟨ρ', o', A', d', S', p'⟩
    have e0 : (0 : Int) + (j : Int) = j := by omega
    rw [e0]
    exact ⟨_, _, _, _, v, S'.setP hil (e := .int j) trivial rfl, _, turn j ρ' hj p', fun ρ2 σ2 H2 o2 A2 d2 S2 q2 => ⟨ρ2, o2, A2, d2, S2, q2⟩, fun _ _ _ _ _ _ _ q => q.elim, fun _ _ _ _ _ _ _ q => q.elim, fun _ _ _ _ _ _ _ _ _ _ _ q => q.elim⟩
  · rintro σ' H' ⟨ρ', o', A', d', S', p'⟩
    exact k1 _ _ _ _ _ _ S' (fin _ p')
noncomputable def qForApp (l i : Nat) (te : TD) : TQS := fun ρ Z => i < ρ.length /\ ∃ ds, slot ρ l = some (dv (.lst ds)) /\ ∃ P : Nat -> List D -> Prop, P 0 ds /\
  (∀ j ds', j < ds.length -> ds'.length = ds.length -> P j ds' -> ∃ es, ds'[j]? = some (.lst es) /\ es.length <= 1000 /\ te (setS (setS ρ l (dv (.lst ds'))) i (dv (.lst es))) fun r => frs r /\ P (j + 1) (ds'.set j (.lst (es ++ [r.d])))) /\
  ∀ ds', P ds.length ds' -> ds'.length = ds.length -> Z.nx (hid i (setS ρ l (dv (.lst ds'))))
theorem qs_forApp (i : Nat) {tg : Expr} {y : Str} {lp yp : Pos} (hil : i ≠ l) (hN : X.N[l]? = some x := by rfl) (hNi : X.N[i]? = some y := by rfl) (hgt : PG X tg (gName i)) (he : ED Γ X e te)
    (hv : Vis X.env.scope x := by first | exact Or.inl rfl | exact Or.inr (Or.inl rfl) | exact Or.inr (Or.inr rfl)) (hd : (x == ("__debug__" : Str)) = false := by decide) (hcd : (x == ("__classdict__" : Str)) = false := by decide)
    (hvi : Vis X.env.scope y := by first | exact Or.inl rfl | exact Or.inr (Or.inl rfl) | exact Or.inr (Or.inr rfl)) (hdi : (y == ("__debug__" : Str)) = false := by decide) (hcdi : (y == ("__classdict__" : Str)) = false := by decide)
    (hc : X.calm = true := by rfl) (hps : PassesOwn (model X.prog X.w) X.A X.env X.xe := by exact PassesOwn.never) (hf : ∀ u, foldedSetIterable (.Name x lp) X.env u = pure u := by intro _; rfl)
    (hpp : ∀ {ta tb : TE}, PE X (.Name y yp) ta -> PE X e tb -> PS X (.Expr (.Call (.Attribute (.Name y yp) "append" apos) [e] [] cpos) pos) (tDrop (tBM X.K "list" rAppend ta (tCons tb tNil))) := by
      intro ta tb h1 h2
      exact ps_expr (pe_bm PySem.F.plainAttrs_list PySem.F.slot_list_append PySem.F.type_list_append mt_append h1 (pa_cons h2 pa_nil))) :
    QS Γ l X (.For tg (.Name x lp) [.Expr (.Call (.Attribute (.Name y yp) "append" apos) [e] [] cpos) pos] [] pos') (qForApp l i te) := fun H₀ => by
  refine impS (ps_for hps hc (pi_list (pe_var hN hv hd hcd)) hgt (pss_one (hpp (pe_var hNi hvi hdi hcdi) (he H₀))) hf) fun Dz σ H h => ?_
  obtain ⟨ρ, o, A, d, v, S, Z, hZ, k1, k2, k3, k4⟩ := h
  obtain ⟨hlt, ds, es, P, p0, turn, fin⟩ := hZ
  have e2 : some (dv d) = some (dv (.lst ds)) := by rw [<- es]; exact (slot_of S.hd).symm
  cases e2
  obtain ⟨a, xs, AA, rfl, hx, rfl, fs⟩ := S.ft
  refine ⟨.ref a, S.hv, a, rfl, ⟨xs, SqL.of hx⟩, ?_⟩
  have hll : l < ρ.length := S.lt
  have xl := fs.length
  have st0 : setS (hid i ρ) l (dv (.lst ds)) = hid i ρ := by
    rw [setS_eq]
    apply List.ext_getElem?
    intro n
    by_cases hn : l = n
    · subst hn
      rw [List.getElem?_set_self (by rw [hid_eq, List.length_set]; exact hll), hid_of (Ne.symm hil)]
      exact S.hd.symm
    · rw [List.getElem?_set_ne hn]
  refine for_list (xs := xs) (fun j σ' H' => ∃ o' A' ds', ST X.K H₀.1 H' σ' (setS (hid i ρ) l (dv (.lst ds'))) o' l A' (.lst ds') (.ref a) /\ H' a = some (.lst xs) /\ ds'.length = ds.length /\ P j ds') ⟨o, a :: AA, ds, by rw [st0]; exact S.hide hil, hx, rfl, p0⟩ ?_ ?_ ?_
  · rintro j σ' H' hj ⟨o', A', ds', S', hx', _⟩
    exact SqL.of hx'
  · rintro j w σ' H' ew ⟨o', A', ds', S', hx', hl', p'⟩
    have hj : j < xs.length := (List.getElem?_eq_some_iff.mp ew).1
    obtain ⟨es', ee, hle, h1⟩ := turn j ds' (by omega) hl' p'
    have ea : atP [j] (.lst ds') = some (.lst es') := by
      show (match ds'[j]? with | some d => atP [] d | none => none) = _
      rw [ee]
      rfl
    obtain ⟨b, ys, A1, vb, hb, fs1, n1, sub, dm, kk⟩ := S'.pgen ea
    obtain ⟨a2, xs2, w2, e1, q2, g2, e3⟩ := vb
    cases e1
    rw [hx'] at q2
    cases q2
    rw [ew] at g2
    cases g2
    cases (show V.ref b = w from e3)
    have ne : b ≠ a := inner_ne S'.ft S'.ndA ee hx' ew
    have sl : σ'.length = ρ.length := by
      rw [S'.R.len, setS_eq, List.length_set, hid_eq, List.length_set]
    have eρ : setS (setS (hid i ρ) l (dv (.lst ds'))) i (dv (.lst es')) = setS (setS ρ l (dv (.lst ds'))) i (dv (.lst es')) := by
      simp only [setS_eq, hid_eq]
      rw [List.set_comm (some (dv (D.lst ds'))) (some (dv (D.lst es'))) (Ne.symm hil), List.set_set, List.set_comm (some (dv (D.lst es'))) (some (dv (D.lst ds'))) hil]
    have R2 : REnv X.K H₀.1 H' (σ'.set i (some (.ref b))) (setS (setS ρ l (dv (.lst ds'))) i (dv (.lst es'))) o' := by
      rw [<- eρ]
      refine S'.R.setV i ⟨b, ys, rfl, hb, ?_, Fts.reps _ _ _ (fun c hc => S'.dis c (sub c hc)) fs1⟩
      refine S'.dis b ?_
      obtain ⟨c, zs, B, e, q, eA, r⟩ := S'.ft
      cases e
      rw [hx'] at q
      cases q
      obtain ⟨w, A2, B', C', ew', rfl, f, _⟩ := Fts.foc r ee
      rw [ew] at ew'
      cases ew'
      obtain ⟨c, zs, D', e, _, rfl, _⟩ := f
      cases e
      rw [eA]
      simp
    show tDrop _ _ (σ'.set i (some (.ref b))) H'
    refine ⟨.ref b, List.getElem?_set_self (by omega), .inl ⟨rfl, ys, SqL.of hb⟩, _, _, R2, _, h1, fun u r H2 s2 rv h2 => ?_⟩
    obtain ⟨B, ff, nd, fr⟩ := frs_ft rv h2.1
    have f1 : Fts X.K H2 es' ys A1 := Fts.keep (Gt.same s2) _ _ _ (fun a _ x hx => s2 _ _ hx) fs1
    obtain ⟨A2, S2, g⟩ := kk H2 (es' ++ [r.d]) (ys ++ [u]) (A1 ++ B) s2 (f1.app ⟨u, [], B, [], rfl, by simp, ff, rfl, rfl⟩) (by
        rw [List.nodup_append]
        refine ⟨n1, nd, fun a ha b hb e => ?_⟩
        subst e
        exact dm a ha (fr a hb)) (fun a ha => (List.mem_append.mp ha).imp id (fr a))
    have ep : putP [j] (.lst ds') (.lst (es' ++ [r.d])) = .lst (ds'.set j (.lst (es' ++ [r.d]))) := by
      show (match ds'[j]? with | some d => D.lst (ds'.set j (putP [] d (.lst (es' ++ [r.d])))) | none => .lst ds') = _
      rw [ee]
      rfl
    rw [ep] at S2
    refine ⟨b, ys, u, rfl, rfl, s2 _ _ hb, ?_, o', A2, ds'.set j (.lst (es' ++ [r.d])), ?_, ?_, by rw [List.length_set]; exact hl', h2.2⟩
    · rw [fs1.length]
      exact Nat.lt_of_le_of_lt hle (by decide)
    · have S3 := S2.letgo (i := i) hil (.ref b)
      have e4 : hid i (setS (setS (hid i ρ) l (dv (.lst ds'))) l (dv (.lst (ds'.set j (.lst (es' ++ [r.d])))))) = setS (hid i ρ) l (dv (.lst (ds'.set j (.lst (es' ++ [r.d]))))) := by
        simp only [setS_eq, hid_eq]
        rw [List.set_set, List.set_comm _ _ hil, List.set_set]
      rw [e4] at S3
      exact S3
    · rw [upd_ne (Ne.symm ne)]
      exact s2 _ _ hx'
  · rintro σ' H' ⟨o', A', ds', S', hx', hl', p'⟩
    rw [xl] at p'
    refine k1 _ _ _ _ _ _ S' ?_
    have := fin ds' p' hl'
    rw [hid_set_ne _ _ (Ne.symm hil)] at this
    exact this
end
end DL
namespace DL
open PySem PySem.Spec L2 L3
open PyProof.Rows hiding St
noncomputable def liftRS (K : PySem.W.Frag) (H₀ : Hp) (l : Nat) (t : TQS) : TS := fun Dz σ H => ∃ ρ o A d v, ST K H₀ H σ ρ o l A d v /\ ∃ Z, t ρ Z /\
  (∀ ρ' σ' H' o' A' d', ST K H₀ H' σ' ρ' o' l A' d' v -> Z.nx ρ' -> Dz.nx σ' H') /\
  (∀ u e ρ' H', Same H₀ H' -> RepN K H' (fun a => H₀ a = none) e u -> Z.rt e ρ' -> Dz.rt u H')
noncomputable def RS (G : Hp -> Prop) (l : Nat) (X : Cx) (st : Stmt) (t : TQS) : Prop := ∀ H₀ : {H : Hp // G H}, PS X st (liftRS X.K H₀.1 l t)
noncomputable def RSs (G : Hp -> Prop) (l : Nat) (X : Cx) (st : List Stmt) (t : TQS) : Prop := ∀ H₀ : {H : Hp // G H}, PSs X st (liftRS X.K H₀.1 l t)
variable {Γ : Hp -> Prop} {l : Nat}
section
variable {X : Cx} {st : Stmt} {rest a b : List Stmt} {t u : TQS} {e c : Expr} {pos : Pos} {x : Str}
noncomputable def rQ (t : TQS) : TQS := fun ρ Z => t ρ { nx := Z.nx, rt := fun _ _ => False }
theorem rs_qs (h : QS Γ l X st t) : RS Γ l X st (rQ t) := fun H₀ => impS (h H₀) fun Dz σ H q => by
  obtain ⟨ρ, o, A, d, v, S, Z, hZ, k1, k2⟩ := q
  exact ⟨ρ, o, A, d, v, S, _, hZ, k1, fun _ _ _ _ _ _ _ q => q.elim, fun _ _ _ _ _ _ _ q => q.elim, fun _ _ _ _ _ _ _ _ _ _ _ q => q.elim⟩
theorem rs_nil : RSs Γ l X [] qNil := fun H₀ => impSs pss_nil fun Dz σ H h => by
  obtain ⟨ρ, o, A, d, v, S, Z, hZ, k1, k2⟩ := h
  exact k1 _ _ _ _ _ _ S hZ
theorem rs_one (h : RS Γ l X st t) : RSs Γ l X [st] t := fun H₀ => pss_one (h H₀)
theorem rs_cons (h : RS Γ l X st t) (hr : RSs Γ l X rest u) : RSs Γ l X (st :: rest) (qSeq t u) := fun H₀ => impSs (pss_cons (h H₀) (hr H₀)) fun Dz σ H h => by
  obtain ⟨ρ, o, A, d, v, S, Z, hZ, k1, k2⟩ := h
  exact ⟨ρ, o, A, d, v, S, _, hZ, fun ρ' σ' H' o' A' d' S' h' => ⟨ρ', o', A', d', v, S', Z, h', k1, k2⟩, k2⟩
theorem rs_if {tc : TQb} (hc : QT Γ l X c tc) (ha : RSs Γ l X a t) (hb : RSs Γ l X b u) : RS Γ l X (.If c a b pos) (qIf tc t u) := fun H₀ => impS (ps_if (hc H₀) (ha H₀) (hb H₀)) fun Dz σ H h => by
  obtain ⟨ρ, o, A, d, v, S, Z, hZ, k1, k2⟩ := h
  refine ⟨ρ, o, A, d, v, S, _, hZ, fun bb ρ1 H1 A1 d1 g S1 h1 => ?_⟩
  cases bb
  · exact ⟨ρ1, o, A1, d1, v, S1, Z, h1.2 rfl, k1, k2⟩
  · exact ⟨ρ1, o, A1, d1, v, S1, Z, h1.1 rfl, k1, k2⟩
noncomputable def rRet (l : Nat) : TQS := fun ρ Z => ∃ d, slot ρ l = some (dv d) /\ Z.rt d ρ
theorem rs_ret {p : Pos} (hN : X.N[l]? = some x := by rfl) (hv : Vis X.env.scope x := by first | exact Or.inl rfl | exact Or.inr (Or.inl rfl) | exact Or.inr (Or.inr rfl)) (hd : (x == ("__debug__" : Str)) = false := by decide)
    (hcd : (x == ("__classdict__" : Str)) = false := by decide) : RS Γ l X (.Return (some (.Name x p)) pos) (rRet l) := fun H₀ => impS (ps_ret (pe_var hN hv hd hcd)) fun Dz σ H h => by
  obtain ⟨ρ, o, A, d, v, S, Z, ⟨d', es, hZ⟩, k1, k2⟩ := h
  have e2 : some (dv d') = some (dv d) := by rw [<- es]; exact slot_of S.hd
  cases e2
  exact ⟨v, S.hv, k2 v d ρ H S.Q.same (Ft.repN _ _ _ S.frA S.ft) hZ⟩
noncomputable def rCut (l : Nat) (t1 t2 t3 t4 : TDo) : TQS := fun ρ Z => ∃ ds, slot ρ l = some (dv (.lst ds)) /\ ds.length <= 1000 /\ t1 ρ fun a => t2 ρ fun b => t3 ρ fun c => t4 ρ fun d => Z.rt (.lst (cutD ds a b ++ cutD ds c d)) ρ
theorem repNs_cut {K : PySem.W.Frag} {H : Hp} {P : Addr -> Prop} {ds : List D} {xs : List V} (r : RepNs K H P ds xs) (lo hi : Option Int) : RepNs K H P (cutD ds lo hi) (cutV xs lo hi) := by
  unfold cutD cutV
  rw [r.length]
  exact (r.drop _).take _
theorem cutV_len (xs : List V) (lo hi : Option Int) : (cutV xs lo hi).length <= xs.length := by
  unfold cutV
  rw [List.length_take, List.length_drop]
  omega
theorem rs_cut {o1 o2 o3 o4 : Option Expr} {t1 t2 t3 t4 : TDo} {p1 p2 p3 p4 p5 p6 p7 : Pos} (h1 : EO Γ X o1 t1) (h2 : EO Γ X o2 t2) (h3 : EO Γ X o3 t3) (h4 : EO Γ X o4 t4)
    (hN : X.N[l]? = some x := by rfl) (hv : Vis X.env.scope x := by first | exact Or.inl rfl | exact Or.inr (Or.inl rfl) | exact Or.inr (Or.inr rfl)) (hd : (x == ("__debug__" : Str)) = false := by decide)
    (hcd : (x == ("__classdict__" : Str)) = false := by decide) : RS Γ l X (.Return (some (.BinOp (.Subscript (.Name x p1) (.Slice o1 o2 none p2) p3) .Add (.Subscript (.Name x p4) (.Slice o3 o4 none p5) p6) p7)) pos) (rCut l t1 t2 t3 t4) := fun H₀ =>
  impS (ps_ret (pe_op op_cat (pe_slice sl_list (pe_var hN hv hd hcd) (h1 H₀) (h2 H₀)) (pe_slice sl_list (pe_var hN hv hd hcd) (h3 H₀) (h4 H₀)))) fun Dz σ H h => by
    obtain ⟨ρ, o, A, d, v, S, Z, ⟨ds, es, hl, hZ⟩, k1, k2⟩ := h
    have e2 : some (dv (.lst ds)) = some (dv d) := by rw [<- es]; exact slot_of S.hd
    cases e2
    have rn := Ft.repN _ _ _ S.frA S.ft
    obtain ⟨a, xs, ev, hx, pa, rx⟩ := rn
    subst ev
    have xl := rx.length
    refine ⟨.ref a, S.hv, ρ, o, S.R, _, hZ, fun b1 H1 s1 q1 => ⟨ρ, o, (S.to s1).R, _, q1, fun b2 H2 s2 q2 => ⟨a, xs, rfl, SqL.of (s2 _ _ (s1 _ _ hx)), fun p hp => ?_⟩⟩⟩
    have n1 := same_new hp (HO.lst (cutV xs b1 b2))
    have s3 := (s1.trans s2).trans n1
    refine ⟨.ref a, S.hv, ρ, o, (S.to s3).R, _, q2, fun b3 H3 s4 q3 => ⟨ρ, o, (S.to (s3.trans s4)).R, _, q3, fun b4 H4 s5 q4 => ⟨a, xs, rfl, SqL.of (s5 _ _ (s4 _ _ (s3 _ _ hx))), fun p2 hp2 => ?_⟩⟩⟩
    have n2 := same_new hp2 (HO.lst (cutV xs b3 b4))
    refine ⟨p, p2, cutV xs b1 b2, cutV xs b3 b4, rfl, rfl, n2 _ _ (s5 _ _ (s4 _ _ upd_same)), upd_same, ?_, fun p3 hp3 => ?_⟩
    · have c1 := cutV_len xs b1 b2
      have c2 := cutV_len xs b3 b4
      rw [sizeLine_eq]
      omega
    have n3 := same_new hp3 (HO.lst (cutV xs b1 b2 ++ cutV xs b3 b4))
    have sa := (((s3.trans s4).trans s5).trans n2).trans n3
    have rx' := RepNs.to sa (fun _ z => z) _ _ rx
    refine k2 _ (.lst (cutD ds b1 b2 ++ cutD ds b3 b4)) ρ _ (S.Q.same.trans sa) ⟨p3, _, rfl, upd_same, (S.Q.same.trans (((s3.trans s4).trans s5).trans n2)).free hp3, (repNs_cut rx' b1 b2).append (repNs_cut rx' b3 b4)⟩ q4
end
noncomputable abbrev FTZ := List D -> (D -> Prop) -> Prop
noncomputable def spZ (K : PySem.W.Frag) (n : Nat) (T : FTZ) : Sp := fun vs H Q _ => ∃ ds φ, ds.length = n /\ Reps K H [] ds vs /\ T ds φ /\ ∀ u d A H', Same H H' -> Ft K H' d u A -> A.Nodup -> (∀ a ∈ A, H a = none) -> φ d -> Q u H'
structure FZ (P : Program) (w : World) (K : PySem.W.Frag) (mg : Str -> Option Value) (base : Heap) (k : Nat) (x : Str) (ps : List Str) (T : FTZ) : Prop where
  ex : ∃ f fd, FnOk P w K mg base CX0 k f fd ps (spZ K ps.length T) /\ Binds K fd ps [] /\ PySem.W.keepIn K (.ref f) = true /\ mg x = some (.ref f)
noncomputable abbrev FTR := D -> List D -> (D -> Prop) -> Prop
noncomputable def spR (K : PySem.W.Frag) (n : Nat) (T : FTR) : Sp := fun vs H Q _ => ∃ d ds v ws A φ, vs = v :: ws /\ ds.length + 1 = n /\ Ft K H d v A /\ A.Nodup /\ Reps K H A ds ws /\ T d ds φ /\
  ∀ u e H', (∀ b x, H b = some x -> b ∉ A -> H' b = some x) -> RepN K H' (fun a => a ∈ A \/ H a = none) e u -> φ e -> Q u H'
structure FR (P : Program) (w : World) (K : PySem.W.Frag) (mg : Str -> Option Value) (base : Heap) (k : Nat) (x : Str) (ps : List Str) (T : FTR) : Prop where
  ex : ∃ f fd, FnOk P w K mg base CX0 k f fd ps (spR K ps.length T) /\ Binds K fd ps [] /\ PySem.W.keepIn K (.ref f) = true /\ mg x = some (.ref f)
section
variable {P : Program} {w : World} {K : PySem.W.Frag} {mg : Str -> Option Value} {base : Heap}
theorem st_start {N : List Str} {d : D} {ds : List D} {v : V} {ws : List V} {H : Hp} {Af : List Addr} (ft : Ft K H d v Af) (nd : Af.Nodup) (r : Reps K H Af ds ws) : ST K (without Af H) H (L2.start N (v :: ws)) (startD N.length (d :: ds)) [] 0 Af d v := by
  have R0 := renv_start (N := N) (ds := d :: ds) (vs := v :: ws) (H := H) ⟨v, ws, rfl, Ft.rep _ _ _ (fun a _ z => by cases z) ft, Reps.sub (fun a ha => by cases ha) _ _ r⟩
  have s0 := without_same Af H
  refine ⟨⟨s0, fun p hp => ?_, fun p hp => ?_, fun p hp => ?_, ?_, fun i q e => ?_, ?_⟩, rfl, rfl, ft⟩
  · obtain ⟨a, ha, rfl⟩ := List.mem_map.mp (show p ∈ tg 0 Af from hp)
    exact without_in ha
  · obtain ⟨a, ha, rfl⟩ := List.mem_map.mp (show p ∈ tg 0 Af from hp)
    obtain ⟨u, hu, _⟩ := Ft.dom _ _ _ ft a ha
    exact ⟨u, hu⟩
  · obtain ⟨a, ha, rfl⟩ := List.mem_map.mp (show p ∈ tg 0 Af from hp)
    obtain ⟨u, hu, n1, n2⟩ := Ft.dom _ _ _ ft a ha
    refine ⟨fun xs z => ?_, fun ob w z => ?_⟩
    · rw [hu] at z; cases z; exact n1 _ rfl
    · rw [hu] at z; cases z; exact n2 _ _ rfl
  · rw [app_snd]; exact nd
  · obtain ⟨hi, e⟩ := hid_get e
    rw [app_snd]
    cases i with
    | zero => exact absurd rfl hi
    | succ i =>
      have e' : ((ds.map fun d => some (dv d)) ++ List.replicate (N.length - (d :: ds).length) none)[i]? = some (some q) := e
      rcases Nat.lt_or_ge i ds.length with hi | hi
      · rw [List.getElem?_append_left (by simpa using hi), List.getElem?_map] at e'
        have ed : ds[i]? = some ds[i] := by simp [hi]
        rw [ed] at e'
        have e2 : some (dv ds[i]) = some q := Option.some.inj e'
        cases e2
        obtain ⟨u, eu, ru⟩ := r.get ed
        refine ⟨u, ?_, .inl ⟨rfl, ru⟩⟩
        unfold L2.start
        show ((ws.map some) ++ _)[i]? = _
        rw [List.getElem?_append_left (by rw [List.length_map, r.length]; exact hi), List.getElem?_map, eu]
        rfl
      · rw [List.getElem?_append_right (by simpa using hi), List.getElem?_replicate] at e'
        split at e' <;> cases e'
  · rw [hid_eq, List.length_set]; exact R0.len
theorem fr_of {x qual : Str} {st : Stmt} {f : Addr} {fd : FuncData} {N ps : List Str} {k : Nat} {T : FTR} (F : Fun K x qual st f fd) (S : FnScope N ps (defScope st)) (b : Binds K fd ps []) (m : mg x = some (.ref f))
    (hbody : ∀ (cdv : Value) (A : Around) (outer : List Env) (s : Shared) (H : Hp) (E : XK) (d : D) (ds : List D) (φ : D -> Prop), Room k (A.deeper (envOfC qual (defScope st) s.heap.objs.size f cdv)) -> ds.length + 1 = ps.length -> T d ds φ ->
      ∃ t, RSs (fun _ => True) 0 (cxOf CX0 P w K mg base N qual (defScope st) f cdv A outer s H E).nox (defBody st) t /\ t (startD N.length (d :: ds)) { nx := fun _ => False, rt := fun r _ => φ r }) : FR P w K mg base (k + 1) x ps T := by
  refine ⟨f, fd, F.ok S (fun vs H Q E h => ?_) (fun cdv A outer s H vs Q E hr h => ?_), b, F.kp, m⟩
  · obtain ⟨d, ds, v, ws, A, φ, rfl, hl, _, _, r, _⟩ := h
    rw [List.length_cons, r.length, hl]
  · obtain ⟨d, ds, v, ws, Af, φ, rfl, hl, ft, nd, r, hT, kk⟩ := h
    obtain ⟨t, ht, hq⟩ := hbody cdv A outer s H E d ds φ hr hl hT
    have S0 := st_start (N := N) ft nd r
    refine ⟨liftRS K (without Af H) 0 t, ht ⟨without Af H, trivial⟩, startD N.length (d :: ds), [], Af, d, v, S0, _, hq, fun ρ' σ' H' o' A' d2 S' h' => h'.elim, fun u e ρ' H' s' re h' => ?_⟩
    refine kk u e H' (fun b x hb hn => s' b x (by rw [without_out hn]; exact hb)) (RepN.to (Same.refl _) (fun a ha => ?_) _ _ re) h'
    by_cases hA : a ∈ Af
    · exact .inl hA
    · rw [without_out hA] at ha
      exact .inr ha
theorem fz_of {x y qual : Str} {st s2 s3 : Stmt} {f : Addr} {fd : FuncData} {N ps : List Str} {k l : Nat} {T : FTZ} {p1 p2 p3 p4 p5 : Pos} (F : Fun K x qual st f fd) (S : FnScope N ps (defScope st)) (b : Binds K fd ps []) (m : mg x = some (.ref f))
    (hb : defBody st = [.Assign [.Name y p1] (.List [] p2) p3, s2, s3, .Return (some (.Name y p4)) p5])
    (hy : N[l]? = some y) (hlp : ps.length <= l) (hlo : Loc (defScope st) y) (hv : Vis (defScope st) y) (hd : (y == ("__debug__" : Str)) = false) (hcd : (y == ("__classdict__" : Str)) = false)
    (hbody : ∀ (cdv : Value) (A : Around) (outer : List Env) (s : Shared) (H : Hp) (E : XK) (ds : List D) (φ : D -> Prop), Room k (A.deeper (envOfC qual (defScope st) s.heap.objs.size f cdv)) -> ds.length = ps.length -> T ds φ ->
      ∃ t2 t3, QS (fun _ => True) l (cxOf CX0 P w K mg base N qual (defScope st) f cdv A outer s H E).nox s2 t2 /\ QS (fun _ => True) l (cxOf CX0 P w K mg base N qual (defScope st) f cdv A outer s H E).nox s3 t3 /\
        t2 (setS (startD N.length ds) l (dv (.lst []))) { nx := fun ρ1 => t3 ρ1 { nx := fun ρ => ∃ d, slot ρ l = some (dv d) /\ φ d, rt := fun _ _ => False }, rt := fun _ _ => False }) : FZ P w K mg base (k + 1) x ps T := by
  refine ⟨f, fd, F.ok S (fun vs H Q E h => ?_) (fun cdv A outer s H vs Q E hr h => ?_), b, F.kp, m⟩
  · obtain ⟨ds, φ, hl, r, _⟩ := h
    rw [r.length, hl]
  · obtain ⟨ds, φ, hl, r, hT, kk⟩ := h
    obtain ⟨t, t3, ht, ht3, hq⟩ := hbody cdv A outer s H E ds φ hr hl hT
    rw [hb]
    refine ⟨_, pss_cons (ps_set S.nd hy hlo (pe_lst pa_nil)) (pss_cons (ht ⟨H, trivial⟩) (pss_cons (ht3 ⟨H, trivial⟩) (pss_one (ps_ret (pe_var hy hv hd hcd))))), ?_⟩
    refine ⟨by rw [sizeLine_eq]; simp, fun a ha => ?_⟩
    have n := same_new ha (HO.lst [])
    have R0 := renv_start (N := N) (ds := ds) (vs := vs) (H := H) r
    have hlN : l < N.length := by
      rcases Nat.lt_or_ge l N.length with q | q
      · exact q
      · rw [List.getElem?_eq_none q] at hy; cases hy
    have rl := r.length
    have sl : (L2.start N vs).length = N.length := by
      unfold L2.start
      rw [List.length_append, List.length_map, List.length_replicate]
      omega
    have dl : (startD N.length ds).length = N.length := by rw [<- R0.len, sl]
    have S0 : ST K H (upd H a (.lst [])) ((L2.start N vs).set l (some (.ref a))) (setS (startD N.length ds) l (dv (.lst []))) [] l [a] (.lst []) (.ref a) := by
      refine ⟨⟨n, fun p hp => ?_, fun p hp => ?_, fun p hp => ?_, ?_, fun i q e => ?_, ?_⟩, ?_, ?_, ⟨a, [], [], rfl, upd_same, rfl, rfl, rfl⟩⟩
      · rw [List.mem_singleton.mp (show p ∈ [(l, a)] from hp)]; exact ha
      · rw [List.mem_singleton.mp (show p ∈ [(l, a)] from hp)]; exact ⟨_, upd_same⟩
      · rw [List.mem_singleton.mp (show p ∈ [(l, a)] from hp)]
        exact ⟨(fun xs z => by rw [upd_same] at z; cases z), (fun ob u z => by rw [upd_same] at z; cases z)⟩
      · rw [app_snd]; simp
      · rw [hid_set] at e
        obtain ⟨hi, e⟩ := hid_get e
        obtain ⟨w, ew, q⟩ := R0.slots i q e
        refine ⟨w, by rw [List.getElem?_set_ne (Ne.symm hi)]; exact ew, ?_⟩
        rw [app_snd]
        rcases q with ⟨k, q⟩ | ⟨k, c, e1, m, _⟩
        · exact .inl ⟨k, Rep.grow (grow_new ha) _ _ q⟩
        · cases m
      · rw [hid_set, hid_eq, List.length_set, List.length_set]; exact R0.len
      · rw [setS_eq, List.getElem?_set_self (by rw [dl]; exact hlN)]
      · rw [List.getElem?_set_self (by rw [sl]; exact hlN)]
    refine ⟨_, [], [a], .lst [], .ref a, S0, _, hq, fun ρ1 σ1 H1 o1 A1 d1 S1 h1 => ⟨ρ1, o1, A1, d1, .ref a, S1, _, h1, fun ρ' σ' H' o' A' d2 S' h' => ?_, fun _ _ _ _ _ _ _ q => q.elim, fun _ _ _ _ _ _ _ q => q.elim, fun _ _ _ _ _ _ _ _ _ _ _ q => q.elim⟩, fun _ _ _ _ _ _ _ q => q.elim, fun _ _ _ _ _ _ _ q => q.elim, fun _ _ _ _ _ _ _ _ _ _ _ q => q.elim⟩
    obtain ⟨d', es, h'⟩ := h'
    have e2 : some (dv d') = some (dv d2) := by rw [<- es]; exact slot_of S'.hd
    cases e2
    exact ⟨.ref a, S'.hv, kk (.ref a) d2 A' H' S'.Q.same S'.ft S'.ndA S'.frA h'⟩
end
section
variable {X : Cx} {x y : Str} {ps qs : List Str} {T : FTZ} {T2 : FTR} {k k2 : Nat} {e e2 : Expr} {es : List Expr} {t : TDs} {te : TD} {p p2 pos pos2 : Pos}
noncomputable def dNest (n n2 : Nat) (T : FTZ) (T2 : FTR) (t : TDs) (te : TD) : TD := fun ρ φ => t ρ fun rs => Nat.beq rs.length n = true /\ Nat.beq 2 n2 = true /\ T (rs.map EV.d) fun d => te ρ fun r => pureD r.d /\ T2 d [r.d] fun e => φ ⟨.new, e⟩
theorem ed_nest (F : FZ X.prog X.w X.K X.mg X.base k x ps T) (F2 : FR X.prog X.w X.K X.mg X.base k2 y qs T2) (hr : Room k X.A) (hr2 : Room k2 X.A) (ha : EA Γ X (e :: es) t) (he2 : ED Γ X e2 te)
    (hg : Gl X x := by rfl) (hdb : (x == ("__debug__" : Str)) = false := by decide) (he : starEach (e :: es) X.env = (false, eval e X.env) :: starEach es X.env := by rfl) (hpl : (backTo pos (starEach es X.env)).any (·.1) = false := by rfl)
    (hg2 : Gl X y := by rfl) (hdb2 : (y == ("__debug__" : Str)) = false := by decide) (hs2 : starEach [.Call (.Name x p) (e :: es) [] pos, e2] X.env = (false, eval (.Call (.Name x p) (e :: es) [] pos) X.env) :: starEach [e2] X.env := by rfl)
    (hs3 : starEach [e2] X.env = (false, eval e2 X.env) :: starEach [] X.env := by rfl) (hpl2 : (backTo pos2 (starEach [e2] X.env)).any (·.1) = false := by rfl) :
    ED Γ X (.Call (.Name y p2) [.Call (.Name x p) (e :: es) [] pos, e2] [] pos2) (dNest ps.length qs.length T T2 t te) := fun H₀ => by
  obtain ⟨f, fd, ok, b, kp, m⟩ := F.ex
  obtain ⟨f2, fd2, ok2, b2, kp2, m2⟩ := F2.ex
  refine impE (pe_call ok2 hr2 hg2 m2 kp2 b2 .nil pass0 (pa_cons (pe_call ok hr hg m kp b .nil pass0 (ha H₀) hdb he hpl) (pa_cons (he2 H₀) pa_nil hs3) hs2) hdb2 hs2 hpl2) fun σ H Q q => ?_
  obtain ⟨ρ, o, R, φ, hφ, kk⟩ := q
  refine ⟨ρ, o, R, _, hφ, fun vs rs H1 s1 rvs h1 => ?_⟩
  show spZ X.K ps.length T (vs ++ []) H1 _ E0
  rw [List.append_nil]
  refine ⟨rs.map EV.d, _, by rw [List.length_map]; exact Nat.eq_of_beq_eq_true h1.1, rvs.reps0, h1.2.2, fun u d A H2 s2 ft nd fr h2 => ?_⟩
  refine ⟨ρ, o, R.to (s1.trans s2), _, h2, fun w r H3 s3 rv h3 => ?_⟩
  show spR X.K qs.length T2 ([u, w] ++ []) H3 _ E0
  rw [List.append_nil]
  have ft3 : Ft X.K H3 d u A := Ft.keep (Gt.same s3) _ _ _ (fun a _ x hx => s3 _ _ hx) ft
  refine ⟨d, [r.d], u, [w], A, _, rfl, Nat.eq_of_beq_eq_true h1.2.1, ft3, nd, ⟨w, [], rfl, Rep.pure (O := []) _ _ h3.1 rv.view.rep0, rfl⟩, h3.2, fun u2 e3 H4 kp4 rn h4 => ?_⟩
  have frA : ∀ a ∈ A, H a = none := fun a ha => s1.free (fr a ha)
  have s13 := (s1.trans s2).trans s3
  have s14 : Same H H4 := fun b x hb => kp4 b x (s13 _ _ hb) fun z => by rw [frA b z] at hb; cases hb
  refine kk u2 ⟨.new, e3⟩ H4 s14 (RepN.to (Same.refl _) (fun a ha => ?_) _ _ rn) h4
  have hn : H a = none := ha.elim (frA a) fun z => s13.free z
  exact ⟨R.ofree hn, hn⟩
end
end DL
namespace DL
open PySem PySem.Spec L2 L3
open PyProof.Rows hiding St
theorem rs_cutJ {Γ : Hp -> Prop} {l : Nat} {X : Cx} {st : Stmt} {t : TQS} (h : RS Γ l X st t) : RS Γ l X st (qCut t) := fun H₀ => impS (h H₀) fun Dz σ H h => by
  obtain ⟨ρ, o, A, d, v, S, Z, ⟨J, hZ, hJ⟩, k1, k2⟩ := h
  exact ⟨ρ, o, A, d, v, S, _, hZ, fun ρ' σ' H' o' A' d' S' h' => k1 _ _ _ _ _ _ S' (hJ _ h'), k2⟩
section
variable {Γ : Hp -> Prop} {X : Cx} {e : Expr} {es : List Expr} {t : TDs} {p pos : Pos}
noncomputable def sMax2 : FT := fun ds φ => match ds with
  | [.int i, .int j] => φ (dv (.int (if j > i then j else i)))
  | _ => False
theorem ed_max2 (hm : X.mg "max" = none) (ha : EA Γ X (e :: es) t) (hc : X.calm = true := by rfl) (hg : Gl X "max" := by rfl) (he : starEach (e :: es) X.env = (false, eval e X.env) :: starEach es X.env := by rfl) (hpl : (backTo pos (starEach es X.env)).any (·.1) = false := by rfl) : ED Γ X (.Call (.Name "max" p) (e :: es) [] pos) (dCB sMax2 t) :=
  ed_callB (call_max2 hc) (fun H O ds vs φ Q ho hv h k => by
    unfold sMax2 at h
    split at h
    · obtain ⟨v, ws, rfl, h1, v2, ws2, rfl, h2, rfl⟩ := hv
      cases (show v = _ from h1)
      cases (show v2 = _ from h2)
      exact ⟨_, _, rfl, k _ _ H (Same.refl H) (by exact rfl) h⟩
    · exact h.elim) hm (by rfl) ha hg (by decide) (by decide) he hpl
end
noncomputable def gL5 (i j l m n : Nat) : TGD := fun d ρ ψ => match d with
  | .lst [a, b, c, e, f] => ψ (setS (setS (setS (setS (setS ρ i (dv a)) j (dv b)) l (dv c)) m (dv e)) n (dv f))
  | _ => False
theorem gl_lst5 {K : PySem.W.Frag} (i j l m n : Nat) : GLink K (gLst K 5 (gCons (gName i) (gCons (gName j) (gCons (gName l) (gCons (gName m) (gCons (gName n) gNil)))))) (gL5 i j l m n) := fun H₀ H σ ρ o d v ψ Q R h hg k => by
  unfold gL5 at hg
  split at hg
  · rename_i a b c e f
    obtain ⟨p, xs, rfl, q, n, r⟩ := h
    obtain ⟨v1, r1, rfl, h1, v2, r2, rfl, h2, v3, r3, rfl, h3, v4, r4, rfl, h4, v5, r5, rfl, h5, rfl⟩ := r
    refine ⟨p, _, rfl, SqL.of q, rfl, v1, _, rfl, v2, _, rfl, v3, _, rfl, v4, _, rfl, v5, _, rfl, rfl, ?_⟩
    exact k _ _ (((((R.setV i h1).setV j h2).setV l h3).setV m h4).setV _ h5) hg
  · exact hg.elim
theorem lenN1 {α : Type} {us : List α} (h : us.length = 1) : ∃ a0, us = [a0] := match us, h with
  | [a0], _ => ⟨a0, rfl⟩
theorem lenN2 {α : Type} {us : List α} (h : us.length = 2) : ∃ a0 a1, us = [a0, a1] := match us, h with
  | [a0, a1], _ => ⟨a0, a1, rfl⟩
theorem lenN3 {α : Type} {us : List α} (h : us.length = 3) : ∃ a0 a1 a2, us = [a0, a1, a2] := match us, h with
  | [a0, a1, a2], _ => ⟨a0, a1, a2, rfl⟩
theorem lenN4 {α : Type} {us : List α} (h : us.length = 4) : ∃ a0 a1 a2 a3, us = [a0, a1, a2, a3] := match us, h with
  | [a0, a1, a2, a3], _ => ⟨a0, a1, a2, a3, rfl⟩
theorem lenN5 {α : Type} {us : List α} (h : us.length = 5) : ∃ a0 a1 a2 a3 a4, us = [a0, a1, a2, a3, a4] := match us, h with
  | [a0, a1, a2, a3, a4], _ => ⟨a0, a1, a2, a3, a4, rfl⟩
end DL
namespace K04
open PySem PySem.Spec L2 L3 DL
open PyProof.Rows hiding St
open PySem.Builtin.Int (intBits)
local macro_rules | `(tactic| walk_at "dl") => do
  let ids <- (("sNil sSeq sRet sIf sSet sUn d2 d1 dName dC slot setS EV.sto EV.ret aNil aCons dTup dLst dCall dCB solidB vAnd vNot vIf bAnd bOr bNot bYes tTru tBo truD sFd sMod sPow sLt sGe sI sI0 sAdd sMul sNeg sEq sNe sIx sSl dSl oNone oSome sLen sIsI sTupC sListC sIntC iSeq iR1 itemsD gN gT2 startD isT_non_int isT_non_bool isT_bl_int isT_bl_bool isT_int_int isT_int_bool isT_int_str isT_str_int isT_str_str isT_tup_tuple isT_tup_int isT_tup_list isT_lst_list isT_lst_tuple isT_dk_dict List.map_cons List.map_nil List.length_cons List.length_nil List.cons_append List.nil_append List.replicate_succ List.replicate_zero Nat.reduceAdd Nat.reduceSub Nat.zero_add Nat.sub_self Bool.and_self Bool.and_true Bool.true_and true_and and_true Bool.not_true Bool.not_false forall_const true_implies false_implies Bool.true_eq_false Bool.false_eq_true reduceCtorEq implies_true okD_int okD_bl okD_str okD_non eqD_int eqD_str eqD_bl pureEV pureD pureDs Bool.not_eq_eq_eq_not beq_eq_false_iff_ne beq_iff_eq ne_eq decide_eq_true_eq decide_eq_false_iff_not Bool.not_eq_true Bool.not_eq_false not_true_eq_false not_false_eq_true atI_0 atI_1 atI_2 and_self Nat.beq_eq Nat.ble_eq Nat.reduceLeDiff eq_self Nat.reduceEqDiff sIxx dGet2 keyD sIn flatD cp10 Int.reduceLE Int.reduceToNat tenpow_ne atI_map List.length_map Option.map_some Int.zero_add sDput' Int.reduceEq Int.reduceNeg Int.reduceLT Option.map_none sFrz frzS iZ seqD_lst seqD_tup seqD_scr intsD_map popD_app sAllL isT_str_bool isT_str_tuple isT_non_tuple isT_bl_tuple isT_int_tuple isT_tup_bool isT_lst_int isT_lst_bool isT_dk_int isT_dk_bool isT_dk_tuple sDictP dListRev seqD dGet1 dNinTop dIxTop sIxC sInC dLenSetL gT4 sListW cstD dChain sAnyI gL5 qSeq qSet qSetQ qE qT qIf qNil hid qPapp fLst fCons fE fNil pName pIx qPput qPpop rQ rRet rCut sMax2 dNest".splitOn " ").toArray).mapM fun s => `(Lean.Parser.Tactic.simpLemma| $(Lean.mkIdent s.toName):ident)
  `(tactic| simp only [$ids,*])
seal SDs SD ED EA ET EW
noncomputable def top (i : Nat) : Stmt := PySem.Challenge.pw_toll_k04_functions.main.body.getD i (.Pass ⟨0, 0, 0, 0⟩)
structure Tops (mg : Str -> Option Value) : Prop where
  all : mg "all" = none
  any : mg "any" = none
  bool : mg "bool" = none
  dict : mg "dict" = none
  int : mg "int" = none
  isinstance : mg "isinstance" = none
  len : mg "len" = none
  list : mg "list" = none
  max : mg "max" = none
  range : mg "range" = none
  reversed : mg "reversed" = none
  set : mg "set" = none
  str : mg "str" = none
  tuple : mg "tuple" = none
  zip : mg "zip" = none
section
variable {P : Program} {w : World} {K : PySem.W.Frag} {mg : Str -> Option Value} {base : Heap} {f : Addr} {fd : FuncData}
noncomputable def shapes3 : List Str := ["num", "list", "tree"]
noncomputable def cs (ws : List Str) : Cst := .tup (ws.map Cst.str)
noncomputable def formsT : List (Str × Cst) := [("nil", .tup [cs [], .str "list"]), ("cons", .tup [cs ["num", "list"], .str "list"]), ("leaf", .tup [cs [], .str "tree"]), ("node", .tup [cs ["tree", "num", "tree"], .str "tree"]), ("add", .tup [cs ["num", "num"], .str "num"]), ("sub", .tup [cs ["num", "num"], .str "num"])]
noncomputable def broughtT : List (Str × Cst) := [("list", cs ["num", "list"]), ("tree", cs ["tree", "num", "tree"])]
structure Con (P : Program) (w : World) (K : PySem.W.Frag) (mg : Str -> Option Value) : Prop where
  c_SHAPES : GC K mg "SHAPES" (.cn (cs shapes3))
  c_NO_NAMES : GC K mg "NO_NAMES" (.cn (cs ["nil", "leaf"]))
  c_LETTERS : GC K mg "LETTERS" (.str "abcdefghijklmnopqrstuvwxyz")
  t_FORMS : GT P w K mg "FORMS" formsT
  t_BROUGHT : GT P w K mg "BROUGHT" broughtT
noncomputable def optD : Option Str -> D
  | some s => .str s
  | none => .non
noncomputable def prD (p : Str × Str) : D := .tup [.str p.1, .str p.2]
noncomputable def namesD (rows : List (Str × Str)) : D := .dk (rows.map fun p => Sum.inr p.1) (rows.map fun p => .str p.2)
noncomputable def rowsL : List (Str × Str) -> Str -> Option Str
  | [], _ => none
  | p :: r, z => if z = p.1 then some p.2 else rowsL r z
theorem look_rows (z : Str) : ∀ rows : List (Str × Str), lookA (rows.map fun p => (Sum.inr p.1 : Key)) (rows.map fun p => D.str p.2) (Sum.inr z) = (rowsL rows z).map D.str
  | [] => rfl
  | p :: r => by
    show (if (Sum.inr p.1 : Key) = Sum.inr z then some (D.str p.2) else lookA (r.map fun p => (Sum.inr p.1 : Key)) (r.map fun p => D.str p.2) (Sum.inr z)) = _
    unfold rowsL
    by_cases h : z = p.1
    · rw [if_pos h, if_pos (by rw [h])]
      rfl
    · rw [if_neg h, if_neg (fun e => h (Sum.inr.inj e).symm)]
      exact look_rows z r
structure Fn where
  name : Str
  params : List (Str × Str)
  shape : Str
  size : List Int
  body : D
noncomputable def fnD (f : Fn) : D := .tup [.str f.name, .tup (f.params.map prD), .tup [.str f.shape, .tup (f.size.map D.int)], f.body]
noncomputable def knownD (fs : List Fn) : D := .dk (fs.map fun f => Sum.inr f.name) (fs.map fnD)
noncomputable def fnL : List Fn -> Str -> Option Fn
  | [], _ => none
  | f :: r, z => if z = f.name then some f else fnL r z
theorem look_fns (z : Str) : ∀ fs : List Fn, lookA (fs.map fun f => (Sum.inr f.name : Key)) (fs.map fnD) (Sum.inr z) = (fnL fs z).map fnD
  | [] => rfl
  | f :: r => by
    show (if (Sum.inr f.name : Key) = Sum.inr z then some (fnD f) else lookA (r.map fun f => (Sum.inr f.name : Key)) (r.map fnD) (Sum.inr z)) = _
    unfold fnL
    by_cases h : z = f.name
    · rw [if_pos h, if_pos (by rw [h])]
      rfl
    · rw [if_neg h, if_neg (fun e => h (Sum.inr.inj e).symm)]
      exact look_fns z r
theorem fn_mem (z : Str) : ∀ fs : List Fn, ((Sum.inr z : Key) ∈ fs.map fun f => (Sum.inr f.name : Key)) ↔ (fnL fs z).isSome = true
  | [] => by simp [fnL]
  | f :: r => by
    unfold fnL
    rw [List.map_cons, List.mem_cons]
    by_cases h : z = f.name
    · rw [if_pos h]
      simp [h]
    · rw [if_neg h, <- fn_mem z r]
      simp only [or_iff_right_iff_imp]
      exact fun e => absurd (Sum.inr.inj e) h
noncomputable def ifS (rs : List (Option Str)) (ks : List Str) (s : Str) : Option Str := if rs = ks.map some then some s else none
noncomputable def callS (fs : List Fn) (f : Str) (rs : List (Option Str)) : Option Str := match fnL fs f with
  | none => none
  | some g => ifS rs (g.params.map Prod.snd) g.shape
noncomputable def formTab (o : Str) : Option (List Str × Str) := if o = "nil" then some ([], "list") else if o = "cons" then some (["num", "list"], "list") else if o = "leaf" then some ([], "tree") else if o = "node" then some (["tree", "num", "tree"], "tree") else if o = "add" then some (["num", "num"], "num") else if o = "sub" then some (["num", "num"], "num") else none
theorem form_tab (o : Str) : tabL formsT o = (formTab o).map fun p => .tup [cs p.1, .str p.2] := by
  unfold formTab formsT
  simp only [tabL]
  repeat' split
  all_goals rfl
noncomputable def formS (o : Str) (rs : List (Option Str)) : Option Str := match formTab o with
  | some p => ifS rs p.1 p.2
  | none => none
noncomputable def Pair2 {α : Type} (R : D -> α -> Prop) (es : List D) (rs : List α) : Prop := es.length = rs.length /\ ∀ (i : Nat) e c, es[i]? = some e -> rs[i]? = some c -> R e c
noncomputable def Sh (fs : List Fn) (env : List (Str × Str)) : Nat -> D -> Option Str -> Prop
  | 0, _, _ => False
  | n + 1, e, r => (∃ i : Int, e = .tup [.str "num", .int i] /\ r = some "num") \/ (∃ z, e = .tup [.str "var", .str z] /\ r = rowsL env z) \/
    (∃ f es rs, e = .tup [.str "call", .str f, .tup es] /\ Pair2 (Sh fs env n) es rs /\ es.length <= 100 /\ r = callS fs f rs) \/
    (∃ (o : Str) (es : List D) (rs : List (Option Str)), o ≠ "num" /\ o ≠ "var" /\ o ≠ "call" /\ e = .tup (.str o :: es) /\ Pair2 (Sh fs env n) es rs /\ es.length <= 100 /\ r = formS o rs)
noncomputable def g3' (g : D -> D -> D -> (EV -> Prop) -> Prop) : FT := fun ds φ => ∃ a b c, ds = [a, b, c] /\ g a b c φ
noncomputable def g5' (g : D -> D -> D -> D -> D -> (EV -> Prop) -> Prop) : FT := fun ds φ => ∃ a b c d e, ds = [a, b, c, d, e] /\ g a b c d e φ
noncomputable def tShapeOf (n : Nat) : FT := g3' fun e na kn φ => ∃ fs env r, (∀ f ∈ fs, f.params.length <= 100) /\ na = namesD env /\ kn = knownD fs /\ Sh fs env n e r /\ φ (dv (optD r))
noncomputable def OkK (fs : List Fn) : Prop := ∀ f ∈ fs, f.params.length <= 100
theorem fnL_mem {z : Str} {g : Fn} : ∀ {fs : List Fn}, fnL fs z = some g -> g ∈ fs
  | [], h => by cases h
  | f :: r, h => by
    unfold fnL at h
    split at h
    · cases h
      exact List.mem_cons_self
    · exact List.mem_cons_of_mem _ (fnL_mem h)
noncomputable def tCallShape (n : Nat) : FT := g3' fun e na kn φ => ∃ fs env f es rs, OkK fs /\ e = .tup [.str "call", .str f, .tup es] /\ na = namesD env /\ kn = knownD fs /\ Pair2 (Sh fs env n) es rs /\ es.length <= 100 /\ φ (dv (optD (callS fs f rs)))
noncomputable def tShapeIf (n : Nat) : FT := g5' fun pa wa sh na kn φ => ∃ (fs : List Fn) (env : List (Str × Str)) (es : List D) (rs : List (Option Str)) (ws : List Str) (s : Str), (∀ f ∈ fs, f.params.length <= 100) /\ pa = .tup es /\ (wa = .lst (ws.map D.str) \/ wa = .cn (cs ws)) /\ ws.length <= 100 /\ sh = .str s /\ na = namesD env /\ kn = knownD fs /\ Pair2 (Sh fs env n) es rs /\ es.length <= 100 /\ φ (dv (optD (ifS rs ws s)))
theorem opt_pure (r : Option Str) : pureD (optD r) := by cases r <;> trivial
theorem form_len {o : Str} {p : List Str × Str} (h : formTab o = some p) : p.1.length <= 100 := by
  unfold formTab at h
  repeat' split at h
  all_goals first | (cases h; decide) | cases h
theorem sIx_no (m : Nat) : ¬(HT.sIx (m + 1) 0 (some 1) = 0 /\ HT.sIx (m + 1) (m + 1) none = m + 1) := fun z => by
  have := z.1
  unfold HT.sIx at this
  simp at this
theorem pair2_step {α : Type} {R : D -> α -> Prop} {es : List D} {rs : List α} {i : Nat} {e : D} (g : α -> D) (h : Pair2 R es rs) (he : es[i]? = some e) : ∃ c, rs[i]? = some c /\ R e c /\ (rs.take (i + 1)).map g = (rs.take i).map g ++ [g c] := by
  have hl := (List.getElem?_eq_some_iff.mp he).1
  have hc : rs[i]? = some (rs[i]'(by rw [<- h.1]; exact hl)) := by simp
  refine ⟨_, hc, h.2 i e _ he hc, ?_⟩
  rw [List.take_succ, hc, Option.toList_some, List.map_append]
  rfl
theorem ok_opts (rs : List (Option Str)) : okD 40 (D.lst (rs.map optD)) := by
  rw [okD_lst (by decide)]
  intro x hx
  obtain ⟨r, _, rfl⟩ := List.mem_map.mp hx
  cases r with
  | none => show okD 39 .non; rw [okD_non]; trivial
  | some z => show okD 39 (.str z); rw [okD_str]; trivial
theorem ok_strs (ws : List Str) : okD 40 (D.lst (ws.map D.str)) := by
  rw [okD_lst (by decide)]
  intro x hx
  obtain ⟨z, _, rfl⟩ := List.mem_map.mp hx
  rw [okD_str]
  trivial
theorem eq_opts : ∀ (rs : List (Option Str)) (ws : List Str), eqD (.lst (rs.map optD)) (.lst (ws.map D.str)) = decide (rs = ws.map some) := by
  intro rs ws
  show eqDs (rs.map optD) (ws.map D.str) = _
  induction rs generalizing ws with
  | nil =>
    cases ws with
    | nil => rfl
    | cons w ws => rfl
  | cons r rs ih =>
    cases ws with
    | nil => cases r <;> rfl
    | cons z ws =>
      show (eqD (optD r) (.str z) && eqDs (rs.map optD) (ws.map D.str)) = _
      rw [ih]
      cases r with
      | none =>
        show (false && _) = _
        simp
      | some y =>
        show (eqD (.str y) (.str z) && _) = _
        rw [eqD_str]
        by_cases hy : y = z
        · subst hy
          simp
        · simp [hy]
theorem cs_map (ws : List Str) : (ws.map Cst.str).map cstD = ws.map D.str := cst_strs ws
theorem fd_shape_if {n : Nat} (T : Tops mg) (F_shape_of : FD P w K mg base (3 * n + 2) "shape_of" ["expression", "names", "known"] (tShapeOf n)) (F : Fun K "shape_if" "shape_if" (top 16) f fd) (m : mg "shape_if" = some (.ref f)) : FD P w K mg base (3 * n + 3) "shape_if" ["parts", "wanted", "shape", "names", "known"] (tShapeIf n) := by
  have S : FnScope ["parts", "wanted", "shape", "names", "known"] ["parts", "wanted", "shape", "names", "known"] (defScope (top 16)) := ⟨rfl, rfl, rfl, by decide +kernel, rfl, by decide +kernel, by decide +kernel⟩
  refine fd_of F S (F.binds fun _ _ _ _ _ _ us hl => (by obtain ⟨_, _, _, _, _, rfl⟩ := lenN5 hl; rfl)) m fun cdv A outer s H E ds φ hr hl hT => ?_
  have hu := hr.units
  refine ⟨_, (ss_cons (sd_if (et_eq hu (ed_compP (T := ["part"]) (F := ["names", "known"]) (js := [3, 4]) (ei_seq (ed_name 0)) (show CompScope (defScope (top 16)) _ ["part"] ["names", "known"] from ⟨rfl, by decide +kernel, by decide +kernel, by decide +kernel, by decide +kernel, by decide +kernel⟩) (.cons rfl (.cons rfl .nil)) (by decide) (fun cl C fp s H => (pg_name (i := 0) (show ((["part"] : List Str) ++ (["names", "known"] : List Str)).Nodup by decide +kernel) rfl (by first | exact Or.inl rfl | exact Or.inr rfl))) (gk_name (by decide)) (gl_name 0) (fun cl C fp s H => eif_nil) (fun cl C fp s H => (ed_call F_shape_of (hr.mono (by omega)) (ea_cons (ed_name 0) (ea_cons (ed_name 1) (ea_cons (ed_name 2) ea_nil)))))) (ed_listW T.list (ea_cons (ed_name 1) ea_nil))) (ss_one (sd_ret (ed_name 2))) ss_nil)
      (ss_one (sd_ret ed_non))), ?_⟩
  obtain ⟨a0, b0, c0, d0, e0, rfl, fs, env, es, rs, ws, s, ok, rfl, hw, wl, rfl, rfl, rfl, hp, hl1, h⟩ := hT
  walk_at "dl"
  refine dCompP_at es (fun ψ hψ => ?_) (fun i gs => gs = (rs.take i).map optD) (by omega) rfl ?_ ?_
  · walk_at "dl"
    exact hψ
  · rintro i e gs he hle rfl
    obtain ⟨c, hc, hr', eq⟩ := pair2_step optD hp he
    simp only [ρ0, List.map_cons, List.map_nil, List.replicate, List.cons_append, List.nil_append]
    walk_at "dl"
    exact ⟨_, _, _, rfl, fs, env, c, ok, rfl, rfl, hr', trivial, eq.symm⟩
  rintro gs rfl
  rw [hp.1, List.take_length]
  have fin : okD 40 (D.lst (rs.map optD)) /\ okD 40 (D.lst (ws.map D.str)) /\ (eqD (D.lst (rs.map optD)) (D.lst (ws.map D.str)) = true -> φ ⟨.val, .str s⟩) /\ (eqD (D.lst (rs.map optD)) (D.lst (ws.map D.str)) = false -> φ ⟨.val, .non⟩) := by
    rw [eq_opts]
    unfold ifS at h
    refine ⟨ok_opts rs, ok_strs ws, fun z => ?_, fun z => ?_⟩
    · rw [if_pos (of_decide_eq_true z)] at h
      exact h
    · rw [if_neg (of_decide_eq_false z)] at h
      exact h
  rcases hw with rfl | rfl
  · walk_at "dl"
    exact fin
  · unfold cs
    walk_at "dl"
    rw [cs_map]
    exact fin
theorem fd_call_shape {n : Nat} (T : Tops mg) (F_shape_if : FD P w K mg base (3 * n + 3) "shape_if" ["parts", "wanted", "shape", "names", "known"] (tShapeIf n)) (F : Fun K "call_shape" "call_shape" (top 15) f fd) (m : mg "call_shape" = some (.ref f)) : FD P w K mg base (3 * n + 4) "call_shape" ["call", "names", "known"] (tCallShape n) := by
  have S : FnScope ["call", "names", "known", "called"] ["call", "names", "known"] (defScope (top 15)) := ⟨rfl, rfl, rfl, by decide +kernel, rfl, by decide +kernel, by decide +kernel⟩
  refine fd_of F S (F.binds fun _ _ _ _ _ _ us hl => (by obtain ⟨_, _, _, rfl⟩ := lenN3 hl; rfl)) m fun cdv A outer s H E ds φ hr hl hT => ?_
  have hu := hr.units
  refine ⟨_, (ss_cons (sd_cut (sd_if (et_notin hu (ed_ixx hu (ed_name 0) ed_int) (ed_name 2)) (ss_one (sd_ret ed_non)) ss_nil))
      (ss_cons (sd_cut (sd_set 3 S.nd (ed_ixx hu (ed_name 2) (ed_ixx hu (ed_name 0) ed_int))))
      (ss_one (sd_ret (ed_call F_shape_if (hr.mono (by omega)) (ea_cons (ed_ixx hu (ed_name 0) ed_int) (ea_cons (ed_compP (T := ["name", "shape"]) (F := []) (js := []) (ei_seq (ed_ixx hu (ed_name 3) ed_int)) (show CompScope (defScope (top 15)) _ ["name", "shape"] [] from ⟨rfl, by decide +kernel, by decide +kernel, by decide +kernel, by decide +kernel, by decide +kernel⟩) .nil (by decide) (fun cl C fp s H => (pg_tupK (K0 := K) (n := 2) (by rfl) (by rfl) (pgs_cons (pg_name (i := 0) (show ((["name", "shape"] : List Str) ++ ([] : List Str)).Nodup by decide +kernel) rfl (by first | exact Or.inl rfl | exact Or.inr rfl)) (pgs_cons (pg_name (i := 1) (show ((["name", "shape"] : List Str) ++ ([] : List Str)).Nodup by decide +kernel) rfl (by first | exact Or.inl rfl | exact Or.inr rfl)) pgs_nil)))) (gk_tup (gk_cons gm_name (gm_cons gm_name gm_nil) (gk_name (by decide)) (gk_cons gm_name gm_nil (gk_name (by decide)) gk_nil))) (gl_tup2 0 1) (fun cl C fp s H => eif_nil) (fun cl C fp s H => (ed_name 1))) (ea_cons (ed_ixx hu (ed_ixx hu (ed_name 3) ed_int) ed_int) (ea_cons (ed_name 1) (ea_cons (ed_name 2) ea_nil)))))))))), ?_⟩
  obtain ⟨a0, b0, c0, rfl, fs, env, f, es, rs, ok, rfl, rfl, rfl, hp, hl1, h⟩ := hT
  have lk := look_fns f fs
  have mem : ((Sum.inr f : Key) ∈ fs.map fun g => (Sum.inr g.name : Key)) ↔ (fnL fs f).isSome = true := fn_mem f fs
  refine cut_seq (fun ρ => ∃ g, fnL fs f = some g /\ ρ = [some (dv (.tup [.str "call", .str f, .tup es])), some (dv (namesD env)), some (dv (knownD fs)), none]) ?_ ?_
  · unfold knownD
    walk_at "dl"
    refine ⟨fun z => ?_, fun z => ?_⟩
    · have z' := (if_pos trivial).symm.trans z
      have nn : fnL fs f = none := by
        cases e : fnL fs f with
        | none => rfl
        | some g =>
          have := mem.mpr (by rw [e]; rfl)
          rw [decide_eq_true this] at z'
          cases z'
      unfold callS at h
      rw [nn] at h
      exact h
    · have z' := (if_pos trivial).symm.trans z
      have := mem.mp (of_decide_eq_true (by simpa using z'))
      exact Option.isSome_iff_exists.mp this
  rintro _ ⟨g, eg, rfl⟩
  rw [eg] at lk
  have gp := ok g (fnL_mem eg)
  have gp100 : g.params.length <= 100000 := by omega
  refine cut_seq (fun ρ => ρ = [some (dv (.tup [.str "call", .str f, .tup es])), some (dv (namesD env)), some (dv (knownD fs)), some (dv (fnD g))]) ?_ ?_
  · unfold knownD
    walk_at "dl"
    rw [lk]
    rfl
  rintro _ rfl
  simp only [fnD]
  walk_at "dl"
  refine dCompP_at (g.params.map prD) (fun ψ hψ => ?_) (fun i gs => gs = ((g.params.take i).map Prod.snd).map D.str) (by rw [List.length_map]; exact gp100) rfl ?_ ?_
  · walk_at "dl"
    exact hψ
  · rintro i e gs he hle rfl
    rw [List.getElem?_map] at he
    obtain ⟨p, hp', rfl⟩ := Option.map_eq_some_iff.mp he
    simp only [ρ0, List.map_cons, List.map_nil, List.replicate, List.cons_append, List.nil_append, prD]
    walk_at "dl"
    rw [List.take_succ, hp']
    simp
  rintro gs rfl
  rw [List.length_map, List.take_length]
  walk_at "dl"
  unfold callS at h
  rw [eg] at h
  refine ⟨_, _, _, _, _, rfl, fs, env, es, rs, g.params.map Prod.snd, g.shape, ok, rfl, .inl rfl, by rw [List.length_map]; omega, rfl, rfl, rfl, hp, hl1, ?_, h⟩
  cases ifS rs (g.params.map Prod.snd) g.shape <;> trivial
theorem fd_is_whole (T : Tops mg) (F : Fun K "is_whole" "is_whole" (top 6) f fd) (m : mg "is_whole" = some (.ref f)) : FD P w K mg base 1 "is_whole" ["thing"] tWhole := by
  have S : FnScope ["thing"] ["thing"] (defScope (top 6)) := ⟨rfl, rfl, rfl, by decide +kernel, rfl, by decide +kernel, by decide +kernel⟩
  refine fd_of F S (F.binds fun _ _ _ _ _ _ us hl => (by obtain ⟨_, rfl⟩ := lenN1 hl; rfl)) m fun cdv A outer s H E ds φ hr hl hT => ?_
  have hu := hr.units
  refine ⟨_, (ss_one (sd_ret (ed_and (ed_isinst T.isinstance (ea_cons (ed_name 0) (ea_cons (ed_ty T.int boot_int') ea_nil))) (ed_one (ed_not (ed_isinst T.isinstance (ea_cons (ed_name 0) (ea_cons (ed_ty T.bool boot_bool') ea_nil)))))))), ?_⟩
  obtain ⟨a, rfl, h⟩ := w1_of hT
  walk_at "dl"
  exact h
theorem fd_shape_of {n : Nat} (T : Tops mg) (Z : Con P w K mg) (F_is_whole : FD P w K mg base 1 "is_whole" ["thing"] tWhole) (F_call_shape : FD P w K mg base (3 * n + 4) "call_shape" ["call", "names", "known"] (tCallShape n)) (F_shape_if : FD P w K mg base (3 * n + 3) "shape_if" ["parts", "wanted", "shape", "names", "known"] (tShapeIf n)) (F : Fun K "shape_of" "shape_of" (top 14) f fd) (m : mg "shape_of" = some (.ref f)) : FD P w K mg base (3 * n + 5) "shape_of" ["expression", "names", "known"] (tShapeOf (n + 1)) := by
  have S : FnScope ["expression", "names", "known", "kind"] ["expression", "names", "known"] (defScope (top 14)) := ⟨rfl, rfl, rfl, by decide +kernel, rfl, by decide +kernel, by decide +kernel⟩
  refine fd_of F S (F.binds fun _ _ _ _ _ _ us hl => (by obtain ⟨_, _, _, rfl⟩ := lenN3 hl; rfl)) m fun cdv A outer s H E ds φ hr hl hT => ?_
  have hu := hr.units
  refine ⟨_, (ss_cons (sd_set 3 S.nd (ed_ixx hu (ed_name 0) ed_int))
      (ss_cons (sd_if (et_eq hu (ed_name 3) ed_str) (ss_one (sd_ret (ed_ifExp (et_val (ed_call F_is_whole (hr.mono (by omega)) (ea_cons (ed_ixx hu (ed_name 0) ed_int) ea_nil))) ed_str ed_non))) ss_nil)
      (ss_cons (sd_if (et_eq hu (ed_name 3) ed_str) (ss_one (sd_ret (ed_get1 hu (ed_name 1) (ed_ixx hu (ed_name 0) ed_int)))) ss_nil)
      (ss_cons (sd_if (et_eq hu (ed_name 3) ed_str) (ss_one (sd_ret (ed_call F_call_shape (hr.mono (by omega)) (ea_cons (ed_name 0) (ea_cons (ed_name 1) (ea_cons (ed_name 2) ea_nil)))))) ss_nil)
      (ss_cons (sd_if (et_ninTop Z.t_FORMS (ed_name 3)) (ss_one (sd_ret ed_non)) ss_nil)
      (ss_one (sd_ret (ed_call F_shape_if (hr.mono (by omega)) (ea_cons (ed_slice (ed_name 0) (eo_some ed_int) eo_none) (ea_cons (ed_ixC (ed_ixTop Z.t_FORMS (ed_name 3)) ed_int) (ea_cons (ed_ixC (ed_ixTop Z.t_FORMS (ed_name 3)) ed_int) (ea_cons (ed_name 1) (ea_cons (ed_name 2) ea_nil))))))))))))), ?_⟩
  obtain ⟨a0, b0, c0, rfl, fs, env, r, ok, rfl, rfl, he, h⟩ := hT
  rcases he with ⟨i, rfl, rfl⟩ | ⟨z, rfl, rfl⟩ | ⟨f, es, rs, rfl, hp, hl1, rfl⟩ | ⟨o, es, rs, n1, n2, n3, rfl, hp, hl1, rfl⟩
  · walk_at "dl"
    simp only [tWhole, w1]
    exact ⟨fun _ => h, fun z => (nomatch z)⟩
  · have lk := look_rows z env
    unfold namesD
    walk_at "dl"
    rw [lk]
    refine ⟨fun z => absurd z (by decide), fun _ => ?_⟩
    have hh : (Option.map D.str (rowsL env z)).getD D.non = optD (rowsL env z) := by cases rowsL env z <;> rfl
    rw [hh]
    exact ⟨opt_pure _, h⟩
  · walk_at "dl"
    refine ⟨fun z => absurd z (by decide), fun _ => ⟨fun z => absurd z (by decide), fun _ => ?_⟩⟩
    exact ⟨_, _, _, rfl, fs, env, f, es, rs, ok, rfl, rfl, rfl, hp, hl1, opt_pure _, h⟩
  · have ft := form_tab o
    have hc1 : cutD (D.str o :: es) (some 1) none = es := cutD_drop (D.str o :: es) 1
    walk_at "dl"
    refine ⟨fun z => absurd z n1, fun _ => ⟨fun z => absurd z n2, fun _ => ⟨fun z => absurd z n3, fun _ => ?_⟩⟩⟩
    rw [hc1, ft]
    unfold formS at h
    cases e : formTab o with
    | none =>
      rw [e] at h
      exact ⟨fun _ => h, fun z => (nomatch z)⟩
    | some p =>
      rw [e] at h
      exact ⟨fun z => (nomatch z), fun _ => ⟨sIx_no _, _, _, _, _, _, rfl, fs, env, es, rs, p.1, p.2, ok, rfl, .inr rfl, form_len e, rfl, rfl, rfl, hp, hl1, opt_pure _, h⟩⟩
theorem fd_shapeOf (T : Tops mg) (Z : Con P w K mg) (F1 : FD P w K mg base 1 "is_whole" ["thing"] tWhole) {f2 f3 : Addr} {fd2 fd3 : FuncData} (G2 : Fun K "shape_if" "shape_if" (top 16) f2 fd2) (m2 : mg "shape_if" = some (.ref f2)) (G3 : Fun K "call_shape" "call_shape" (top 15) f3 fd3) (m3 : mg "call_shape" = some (.ref f3)) (F : Fun K "shape_of" "shape_of" (top 14) f fd) (m : mg "shape_of" = some (.ref f)) : ∀ n : Nat, FD P w K mg base (3 * n + 2) "shape_of" ["expression", "names", "known"] (tShapeOf n)
  | 0 => by
    have S : FnScope ["expression", "names", "known", "kind"] ["expression", "names", "known"] (defScope (top 14)) := ⟨rfl, rfl, rfl, by decide +kernel, rfl, by decide +kernel, by decide +kernel⟩
    refine fd_of F S (F.binds fun _ _ _ _ _ _ us hl => (by obtain ⟨_, _, _, rfl⟩ := lenN3 hl; rfl)) m fun cdv A outer s H E ds φ hr hl hT => ?_
    obtain ⟨a0, b0, c0, rfl, fs, env, r, ok, rfl, rfl, he, h⟩ := hT
    exact he.elim
  | n + 1 => fd_shape_of T Z F1 (fd_call_shape T (fd_shape_if T (fd_shapeOf T Z F1 G2 m2 G3 m3 F m n) G2 m2) G3 m3) (fd_shape_if T (fd_shapeOf T Z F1 G2 m2 G3 m3 F m n) G2 m2) F m
end
section
variable {P : Program} {w : World} {K : PySem.W.Frag} {mg : Str -> Option Value} {base : Heap} {f : Addr} {fd : FuncData}
noncomputable def letters : Str := "abcdefghijklmnopqrstuvwxyz"
noncomputable def signOk (c : Nat) : Bool := !(Builtin.Str.occurrences letters ⟨#[c]⟩ 0 letters.length 1).isEmpty
noncomputable def IsNm (z : Str) : Prop := 1 <= z.length /\ z.length <= 8 /\ z ≠ "nil" /\ z ≠ "leaf" /\ ∀ c ∈ z.cps.toList, signOk c = true
noncomputable def tIsName : FT := g1 fun d φ => ∃ z, d = .str z /\ z.length <= 1000 /\ ∀ b : Bool, (b = true ↔ IsNm z) -> φ (dv (.bl b))
noncomputable def tUnlike : FT := g1 fun d φ => ∃ zs : List Str, d = .lst (zs.map D.str) /\ zs.length <= 100 /\ ∀ b : Bool, (b = true ↔ zs.Nodup) -> φ (dv (.bl b))
noncomputable def IsSh (z : Str) : Prop := z = "num" \/ z = "list" \/ z = "tree"
structure GivesOk (shape : Str) (size : List Int) (shapes : List Str) : Prop where
  sh : IsSh shape
  shs : ∀ p ∈ shapes, IsSh p
  sz : size.length = shapes.length + 1
  nn : ∀ n ∈ size, 0 <= n
  z1 : shape = "num" -> ∀ n ∈ size, n = 0
  z2 : ∀ (i : Nat) n, shapes[i]? = some "num" -> size[i + 1]? = some n -> n = 0
noncomputable def tGives : FT := g2 fun d e φ => ∃ (shape : Str) (size : List Int) (shapes : List Str), d = .tup [.str shape, .tup (size.map D.int)] /\ e = .lst (shapes.map D.str) /\ size.length <= 100 /\ shapes.length <= 100 /\ GivesOk shape size shapes /\ φ (dv (.bl true))
structure HeadOk (f : Fn) : Prop where
  nm : IsNm f.name
  lo : 1 <= f.params.length
  hi : f.params.length <= 4
  nms : ∀ p ∈ f.params, IsNm p.1
  nd : (f.params.map Prod.fst).Nodup
  gv : GivesOk f.shape f.size (f.params.map Prod.snd)
noncomputable def tHeadR : FT := g1 fun d φ => ∃ f : Fn, d = fnD f /\ HeadOk f /\ φ (dv (.bl true))
theorem in_nn (z : Str) : inD (.str z) [.str "nil", .str "leaf"] = decide (z = "nil" \/ z = "leaf") := by
  show ((eqD (.str "nil") (.str z)) || ((eqD (.str "leaf") (.str z)) || false)) = _
  rw [eqD_str, eqD_str, Bool.or_false]
  by_cases h1 : z = "nil"
  · subst h1
    simp
  · by_cases h2 : z = "leaf"
    · subst h2
      simp
    · simp [h1, h2, Ne.symm h1, Ne.symm h2]
theorem in_sh {z : Str} (h : IsSh z) : inD (.str z) ((shapes3.map Cst.str).map cstD) = true := by
  rcases h with rfl | rfl | rfl <;> decide
theorem bls_rep : ∀ n : Nat, blsD (List.replicate n (D.bl true)) = some (List.replicate n true)
  | 0 => rfl
  | n + 1 => by rw [List.replicate_succ, blsD, bls_rep n]; rfl
theorem rep_all : ∀ n : Nat, (List.replicate n true).all id = true
  | 0 => rfl
  | n + 1 => by rw [List.replicate_succ, List.all_cons, rep_all n]; rfl
theorem isnm_len {z : Str} (h : IsNm z) : z.length <= 1000 := by have := h.2.1; omega
theorem fd_unlike (T : Tops mg) (F : Fun K "unlike" "unlike" (top 8) f fd) (m : mg "unlike" = some (.ref f)) : FD P w K mg base 1 "unlike" ["names"] tUnlike := by
  have S : FnScope ["names"] ["names"] (defScope (top 8)) := ⟨rfl, rfl, rfl, by decide +kernel, rfl, by decide +kernel, by decide +kernel⟩
  refine fd_of F S (F.binds fun _ _ _ _ _ _ us hl => (by obtain ⟨_, rfl⟩ := lenN1 hl; rfl)) m fun cdv A outer s H E ds φ hr hl hT => ?_
  have hu := hr.units
  refine ⟨_, (ss_one (sd_ret (ed_eq hu (ed_lenSetL T.len T.set (ed_name 0)) (ed_len T.len (ea_cons (ed_name 0) ea_nil))))), ?_⟩
  obtain ⟨d, rfl, zs, rfl, hl1, h⟩ := f1_of hT
  walk_at "dl"
  refine ⟨zs, rfl, by omega, h _ ?_⟩
  rw [<- LQ.many_eq, beq_iff_eq]
  omega
theorem fd_is_name (T : Tops mg) (Z : Con P w K mg) (F : Fun K "is_name" "is_name" (top 7) f fd) (m : mg "is_name" = some (.ref f)) : FD P w K mg base 1 "is_name" ["thing"] tIsName := by
  have S : FnScope ["thing"] ["thing"] (defScope (top 7)) := ⟨rfl, rfl, rfl, by decide +kernel, rfl, by decide +kernel, by decide +kernel⟩
  refine fd_of F S (F.binds fun _ _ _ _ _ _ us hl => (by obtain ⟨_, rfl⟩ := lenN1 hl; rfl)) m fun cdv A outer s H E ds φ hr hl hT => ?_
  have hu := hr.units
  refine ⟨_, (ss_cons (sd_if (EW.et (ew_or (et_not (et_val (ed_isinst T.isinstance (ea_cons (ed_name 0) (ea_cons (ed_ty T.str boot_str') ea_nil))))) (ew_or (et_not (et_leLe ed_int (ed_len T.len (ea_cons (ed_name 0) ea_nil)) ed_int)) (ew_or1 (et_inC (ed_name 0) (ed_glob Z.c_NO_NAMES)))))) (ss_one (sd_ret ed_bl)) ss_nil)
      (ss_one (sd_ret (ed_allC T.all (ea_cons (ed_compP (T := ["sign"]) (F := []) (js := []) (ei_seq (ed_name 0)) (show CompScope (defScope (top 7)) _ ["sign"] [] from ⟨rfl, by decide +kernel, by decide +kernel, by decide +kernel, by decide +kernel, by decide +kernel⟩) .nil (by decide) (fun cl C fp s H => (pg_name (i := 0) (show ((["sign"] : List Str) ++ ([] : List Str)).Nodup by decide +kernel) rfl (by first | exact Or.inl rfl | exact Or.inr rfl))) (gk_name (by decide)) (gl_name 0) (fun cl C fp s H => eif_nil) (fun cl C fp s H => (ed_in hu (ed_name 0) (ed_glob Z.c_LETTERS)))) ea_nil))))), ?_⟩
  obtain ⟨d, rfl, z, rfl, hl1, h⟩ := f1_of hT
  unfold cs
  walk_at "dl"
  have no : ∀ P : Prop, ¬ IsNm z -> (false = true ↔ IsNm z) := fun _ q => ⟨fun y => (nomatch y), fun y => absurd y q⟩
  have inn := in_nn z
  refine ⟨by rw [sizeLine_eq]; omega, fun h1 => ⟨fun h8 => h false (no True fun q => h8 (by have := q.2.1; omega)), fun h8 => ⟨rfl, fun q => ?_, fun q => ?_⟩⟩, fun h1 => h false (no True fun q => h1 (by have := q.1; omega))⟩
  · have q' := (if_neg (by simp)).symm.trans q
    rw [inn] at q'
    refine h false (no True fun y => ?_)
    rcases of_decide_eq_true q' with e | e
    · exact y.2.2.1 e
    · exact y.2.2.2.1 e
  have q' := (if_neg (by simp)).symm.trans q
  rw [inn] at q'
  have nn := of_decide_eq_false q'
  refine dCompP_at (z.cps.toList.map fun c => D.str ⟨#[c]⟩) (fun ψ hψ => ?_) (fun i gs => gs = (z.cps.toList.take i).map fun c => D.bl (signOk c)) (by rw [List.length_map]; exact Nat.le_trans (show z.cps.toList.length <= 1000 from hl1) (by decide)) rfl ?_ ?_
  · walk_at "dl"
    exact hψ
  · rintro i e gs he hle rfl
    rw [List.getElem?_map] at he
    obtain ⟨c, hc, rfl⟩ := Option.map_eq_some_iff.mp he
    simp only [ρ0, List.map_cons, List.map_nil, List.replicate, List.cons_append, List.nil_append]
    refine ⟨fun _ => ⟨trivial, ?_⟩, fun y => (nomatch y)⟩
    rw [List.take_succ, hc, Option.toList_some, List.map_append]
    rfl
  rintro gs rfl
  rw [List.length_map, List.take_length, show (z.cps.toList.map fun c => D.bl (signOk c)) = (z.cps.toList.map signOk).map D.bl from by rw [List.map_map]; rfl]
  simp only [blsD_map]
  refine h _ ?_
  rw [List.all_map, List.all_eq_true]
  exact ⟨fun y => ⟨by omega, by omega, fun e => nn (.inl e), fun e => nn (.inr e), fun c hc => y c hc⟩, fun y c hc => y.2.2.2.2 c hc⟩
theorem fd_gives_right (T : Tops mg) (Z : Con P w K mg) (F_is_whole : FD P w K mg base 1 "is_whole" ["thing"] tWhole) (F : Fun K "gives_right" "gives_right" (top 11) f fd) (m : mg "gives_right" = some (.ref f)) : FD P w K mg base 2 "gives_right" ["gives", "shapes"] tGives := by
  have S : FnScope ["gives", "shapes", "size"] ["gives", "shapes"] (defScope (top 11)) := ⟨rfl, rfl, rfl, by decide +kernel, rfl, by decide +kernel, by decide +kernel⟩
  refine fd_of F S (F.binds fun _ _ _ _ _ _ us hl => (by obtain ⟨_, _, rfl⟩ := lenN2 hl; rfl)) m fun cdv A outer s H E ds φ hr hl hT => ?_
  have hu := hr.units
  refine ⟨_, (ss_cons (sd_cut (sd_set 2 S.nd (ed_ixx hu (ed_name 0) ed_int)))
      (ss_cons (sd_cut (sd_if (et_not (et_val (ed_allC T.all (ea_cons (ed_compP (T := ["shape"]) (F := []) (js := []) (ei_seq (ed_add (ed_lst (ea_cons (ed_ixx hu (ed_name 0) ed_int) ea_nil)) (ed_name 1))) (show CompScope (defScope (top 11)) _ ["shape"] [] from ⟨rfl, by decide +kernel, by decide +kernel, by decide +kernel, by decide +kernel, by decide +kernel⟩) .nil (by decide) (fun cl C fp s H => (pg_name (i := 0) (show ((["shape"] : List Str) ++ ([] : List Str)).Nodup by decide +kernel) rfl (by first | exact Or.inl rfl | exact Or.inr rfl))) (gk_name (by decide)) (gl_name 0) (fun cl C fp s H => eif_nil) (fun cl C fp s H => (ed_inC (ed_name 0) (ed_glob Z.c_SHAPES)))) ea_nil)))) (ss_one (sd_ret ed_bl)) ss_nil))
      (ss_cons (sd_cut (sd_if (EW.et (ew_or (et_ne hu (ed_len T.len (ea_cons (ed_name 2) ea_nil)) (ed_add (ed_len T.len (ea_cons (ed_name 1) ea_nil)) ed_int)) (ew_or1 (et_not (et_val (ed_allC T.all (ea_cons (ed_compP (T := ["number"]) (F := []) (js := []) (ei_seq (ed_name 2)) (show CompScope (defScope (top 11)) _ ["number"] [] from ⟨rfl, by decide +kernel, by decide +kernel, by decide +kernel, by decide +kernel, by decide +kernel⟩) .nil (by decide) (fun cl C fp s H => (pg_name (i := 0) (show ((["number"] : List Str) ++ ([] : List Str)).Nodup by decide +kernel) rfl (by first | exact Or.inl rfl | exact Or.inr rfl))) (gk_name (by decide)) (gl_name 0) (fun cl C fp s H => eif_nil) (fun cl C fp s H => (ed_and (ed_call F_is_whole (hr.mono (by decide)) (ea_cons (ed_name 0) ea_nil)) (ed_one (ed_ge (ed_name 0) ed_int))))) ea_nil))))))) (ss_one (sd_ret ed_bl)) ss_nil))
      (ss_cons (sd_cut (sd_if (et_eq hu (ed_ixx hu (ed_name 0) ed_int) ed_str) (ss_one (sd_ret (ed_not (ed_anyI T.any (ea_cons (ed_name 2) ea_nil))))) ss_nil))
      (ss_one (sd_ret (ed_allC T.all (ea_cons (ed_compP (T := ["number", "shape"]) (F := []) (js := []) (ei_zip T.zip (ea_cons (ed_slice (ed_name 2) (eo_some ed_int) eo_none) (ea_cons (ed_name 1) ea_nil))) (show CompScope (defScope (top 11)) _ ["number", "shape"] [] from ⟨rfl, by decide +kernel, by decide +kernel, by decide +kernel, by decide +kernel, by decide +kernel⟩) .nil (by decide) (fun cl C fp s H => (pg_tupK (K0 := K) (n := 2) (by rfl) (by rfl) (pgs_cons (pg_name (i := 0) (show ((["number", "shape"] : List Str) ++ ([] : List Str)).Nodup by decide +kernel) rfl (by first | exact Or.inl rfl | exact Or.inr rfl)) (pgs_cons (pg_name (i := 1) (show ((["number", "shape"] : List Str) ++ ([] : List Str)).Nodup by decide +kernel) rfl (by first | exact Or.inl rfl | exact Or.inr rfl)) pgs_nil)))) (gk_tup (gk_cons gm_name (gm_cons gm_name gm_nil) (gk_name (by decide)) (gk_cons gm_name gm_nil (gk_name (by decide)) gk_nil))) (gl_tup2 0 1) (fun cl C fp s H => (eif_one (et_eq hu (ed_name 1) ed_str))) (fun cl C fp s H => (ed_eq hu (ed_name 0) ed_int))) ea_nil)))))))), ?_⟩
  obtain ⟨d, e, rfl, shape, size, shapes, rfl, rfl, hl1, hl2, ok, h⟩ := f2_of hT
  refine cut_seq (fun ρ => ρ = [some (dv (.tup [.str shape, .tup (size.map D.int)])), some (dv (.lst (shapes.map D.str))), some (dv (.tup (size.map D.int)))]) ?_ ?_
  · walk_at "dl"
  rintro _ rfl
  refine cut_seq (fun ρ => ρ = [some (dv (.tup [.str shape, .tup (size.map D.int)])), some (dv (.lst (shapes.map D.str))), some (dv (.tup (size.map D.int)))]) ?_ ?_
  · unfold cs
    walk_at "dl"
    refine dCompP_at ((shape :: shapes).map D.str) (fun ψ hψ => ?_) (fun i gs => gs = List.replicate i (D.bl true)) (by rw [List.length_map, List.length_cons]; omega) rfl ?_ ?_
    · walk_at "dl"
      refine ⟨?_, hψ⟩
      rw [sizeLine_eq]
      omega
    · rintro i e gs he hle rfl
      rw [List.getElem?_map] at he
      obtain ⟨z, hz, rfl⟩ := Option.map_eq_some_iff.mp he
      have sz : IsSh z := by
        rcases List.mem_cons.mp (List.mem_of_getElem? hz) with rfl | hm
        · exact ok.sh
        · exact ok.shs z hm
      simp only [ρ0, List.map_cons, List.map_nil, List.replicate, List.cons_append, List.nil_append]
      walk_at "dl"
      rw [in_sh sz]
      exact ⟨rfl, List.replicate_succ'.symm⟩
    rintro gs rfl
    simp only [df, bls_rep, rep_all]
    exact fun y => (nomatch y)
  rintro _ rfl
  refine cut_seq (fun ρ => ρ = [some (dv (.tup [.str shape, .tup (size.map D.int)])), some (dv (.lst (shapes.map D.str))), some (dv (.tup (size.map D.int)))]) ?_ ?_
  · walk_at "dl"
    refine ⟨fun y => absurd (by have := ok.sz; omega) y, fun _ => ?_⟩
    refine dCompP_at (size.map D.int) (fun ψ hψ => ?_) (fun i gs => gs = List.replicate i (D.bl true)) (by rw [List.length_map]; omega) rfl ?_ ?_
    · walk_at "dl"
      exact hψ
    · rintro i e gs he hle rfl
      rw [List.getElem?_map] at he
      obtain ⟨z, hz, rfl⟩ := Option.map_eq_some_iff.mp he
      have sz := ok.nn z (List.mem_of_getElem? hz)
      simp only [ρ0, List.map_cons, List.map_nil, List.replicate, List.cons_append, List.nil_append]
      walk_at "dl"
      simp only [tWhole, w1]
      rw [decide_eq_true sz]
      exact ⟨fun _ => List.replicate_succ'.symm, fun y => (nomatch y)⟩
    rintro gs rfl
    simp only [df, bls_rep, rep_all]
    exact fun y => (nomatch y)
  rintro _ rfl
  refine cut_seq (fun ρ => ρ = [some (dv (.tup [.str shape, .tup (size.map D.int)])), some (dv (.lst (shapes.map D.str))), some (dv (.tup (size.map D.int)))]) ?_ ?_
  · walk_at "dl"
    refine fun es => ⟨size, rfl, ?_⟩
    rw [show (size.any fun n => n != 0) = false from by
      rw [List.any_eq_false]
      intro n hn
      rw [ok.z1 es n hn]
      decide]
    exact h
  rintro _ rfl
  have ec : cutD (size.map D.int) (some 1) none = (size.drop 1).map D.int := by
    rw [List.map_drop]
    exact cutD_drop (size.map D.int) 1
  walk_at "dl"
  refine dCompP_at (zipD ((size.drop 1).map D.int) (shapes.map D.str)) (fun ψ hψ => ?_) (fun i gs => ∃ k, gs = List.replicate k (D.bl true)) ?_ ⟨0, rfl⟩ ?_ ?_
  · walk_at "dl"
    rw [ec]
    have sn : size.length ≠ 0 := by have := ok.sz; omega
    refine ⟨fun q => ?_, hψ⟩
    have := q.1
    unfold HT.sIx at this
    simp at this
    exact sn (by rw [this]; rfl)
  · unfold zipD
    rw [List.length_zipWith, List.length_map, List.length_map]
    omega
  · rintro i e gs he hle ⟨k, rfl⟩
    unfold zipD at he
    rw [List.getElem?_zipWith, List.getElem?_map, List.getElem?_map] at he
    cases e1 : (size.drop 1)[i]? with
    | none => rw [e1] at he; cases he
    | some n =>
      cases e2 : shapes[i]? with
      | none => rw [e1, e2] at he; cases he
      | some s =>
        rw [e1, e2] at he
        cases he
        rw [List.getElem?_drop] at e1
        simp only [ρ0, List.map_cons, List.map_nil, List.replicate, List.cons_append, List.nil_append]
        walk_at "dl"
        refine ⟨fun es => ?_, fun _ => ⟨k, rfl⟩⟩
        subst es
        have n0 := ok.z2 i n e2 (by rw [Nat.add_comm]; exact e1)
        subst n0
        exact ⟨k + 1, List.replicate_succ'.symm⟩
  rintro gs ⟨k, rfl⟩
  simp only [df, bls_rep, rep_all]
  exact h
theorem fd_head_right (T : Tops mg) (F_unlike : FD P w K mg base 1 "unlike" ["names"] tUnlike) (F_is_name : FD P w K mg base 1 "is_name" ["thing"] tIsName) (F_gives_right : FD P w K mg base 2 "gives_right" ["gives", "shapes"] tGives) (F : Fun K "head_right" "head_right" (top 10) f fd) (m : mg "head_right" = some (.ref f)) : FD P w K mg base 3 "head_right" ["function"] tHeadR := by
  have S : FnScope ["function", "params", "names"] ["function"] (defScope (top 10)) := ⟨rfl, rfl, rfl, by decide +kernel, rfl, by decide +kernel, by decide +kernel⟩
  refine fd_of F S (F.binds fun _ _ _ _ _ _ us hl => (by obtain ⟨_, rfl⟩ := lenN1 hl; rfl)) m fun cdv A outer s H E ds φ hr hl hT => ?_
  have hu := hr.units
  refine ⟨_, (ss_cons (sd_cut (sd_set 1 S.nd (ed_ixx hu (ed_name 0) ed_int)))
      (ss_cons (sd_cut (sd_setCompP (T := ["name", "shape"]) (F := []) (js := []) 2 S.nd (ei_seq (ed_name 1)) (show CompScope (defScope (top 10)) _ ["name", "shape"] [] from ⟨rfl, by decide +kernel, by decide +kernel, by decide +kernel, by decide +kernel, by decide +kernel⟩) .nil (by decide) (fun cl C fp s H => (pg_tupK (K0 := K) (n := 2) (by rfl) (by rfl) (pgs_cons (pg_name (i := 0) (show ((["name", "shape"] : List Str) ++ ([] : List Str)).Nodup by decide +kernel) rfl (by first | exact Or.inl rfl | exact Or.inr rfl)) (pgs_cons (pg_name (i := 1) (show ((["name", "shape"] : List Str) ++ ([] : List Str)).Nodup by decide +kernel) rfl (by first | exact Or.inl rfl | exact Or.inr rfl)) pgs_nil)))) (gk_tup (gk_cons gm_name (gm_cons gm_name gm_nil) (gk_name (by decide)) (gk_cons gm_name gm_nil (gk_name (by decide)) gk_nil))) (gl_tup2 0 1) (fun cl C fp s H => eif_nil) (fun cl C fp s H => (ed_name 0))))
      (ss_cons (sd_cut (sd_if (EW.et (ew_or (et_not (et_leLe ed_int (ed_len T.len (ea_cons (ed_name 1) ea_nil)) ed_int)) (ew_or1 (et_not (et_val (ed_call F_unlike (hr.mono (by decide)) (ea_cons (ed_name 2) ea_nil))))))) (ss_one (sd_ret ed_bl)) ss_nil))
      (ss_cons (sd_cut (sd_if (et_not (et_val (ed_allC T.all (ea_cons (ed_compP (T := ["name"]) (F := []) (js := []) (ei_seq (ed_add (ed_lst (ea_cons (ed_ixx hu (ed_name 0) ed_int) ea_nil)) (ed_name 2))) (show CompScope (defScope (top 10)) _ ["name"] [] from ⟨rfl, by decide +kernel, by decide +kernel, by decide +kernel, by decide +kernel, by decide +kernel⟩) .nil (by decide) (fun cl C fp s H => (pg_name (i := 0) (show ((["name"] : List Str) ++ ([] : List Str)).Nodup by decide +kernel) rfl (by first | exact Or.inl rfl | exact Or.inr rfl))) (gk_name (by decide)) (gl_name 0) (fun cl C fp s H => eif_nil) (fun cl C fp s H => (ed_call F_is_name (hr.mono (by decide)) (ea_cons (ed_name 0) ea_nil)))) ea_nil)))) (ss_one (sd_ret ed_bl)) ss_nil))
      (ss_one (sd_ret (ed_call F_gives_right (hr.mono (by decide)) (ea_cons (ed_ixx hu (ed_name 0) ed_int) (ea_cons (ed_compP (T := ["name", "shape"]) (F := []) (js := []) (ei_seq (ed_name 1)) (show CompScope (defScope (top 10)) _ ["name", "shape"] [] from ⟨rfl, by decide +kernel, by decide +kernel, by decide +kernel, by decide +kernel, by decide +kernel⟩) .nil (by decide) (fun cl C fp s H => (pg_tupK (K0 := K) (n := 2) (by rfl) (by rfl) (pgs_cons (pg_name (i := 0) (show ((["name", "shape"] : List Str) ++ ([] : List Str)).Nodup by decide +kernel) rfl (by first | exact Or.inl rfl | exact Or.inr rfl)) (pgs_cons (pg_name (i := 1) (show ((["name", "shape"] : List Str) ++ ([] : List Str)).Nodup by decide +kernel) rfl (by first | exact Or.inl rfl | exact Or.inr rfl)) pgs_nil)))) (gk_tup (gk_cons gm_name (gm_cons gm_name gm_nil) (gk_name (by decide)) (gk_cons gm_name gm_nil (gk_name (by decide)) gk_nil))) (gl_tup2 0 1) (fun cl C fp s H => eif_nil) (fun cl C fp s H => (ed_name 1))) ea_nil))))))))), ?_⟩
  obtain ⟨d, rfl, g, rfl, ok, h⟩ := f1_of hT
  have p4 := ok.hi
  have p1 := ok.lo
  refine cut_seq (fun ρ => ρ = [some (dv (fnD g)), some (dv (.tup (g.params.map prD))), none]) ?_ ?_
  · simp only [fnD]
    walk_at "dl"
  rintro _ rfl
  refine cut_seq (fun ρ => ρ = [some (dv (fnD g)), some (dv (.tup (g.params.map prD))), some (dO (.lst ((g.params.map Prod.fst).map D.str)))]) ?_ ?_
  · refine dCompP_at (g.params.map prD) (fun ψ hψ => ?_) (fun i gs => gs = ((g.params.take i).map Prod.fst).map D.str) (by rw [List.length_map]; omega) rfl ?_ ?_
    · walk_at "dl"
      exact hψ
    · rintro i e gs he hle rfl
      rw [List.getElem?_map] at he
      obtain ⟨p, hp', rfl⟩ := Option.map_eq_some_iff.mp he
      simp only [ρ0, List.map_cons, List.map_nil, List.replicate, List.cons_append, List.nil_append, prD]
      walk_at "dl"
      rw [List.take_succ, hp']
      simp
    · rintro gs rfl
      rw [List.length_map, List.take_length]
      exact ⟨trivial, rfl⟩
  rintro _ rfl
  refine cut_seq (fun ρ => ρ = [some (dv (fnD g)), some (dv (.tup (g.params.map prD))), some (dO (.lst ((g.params.map Prod.fst).map D.str)))]) ?_ ?_
  · walk_at "dl"
    refine ⟨fun _ => ⟨fun q => absurd (by omega) q, fun _ => ?_⟩, fun q => absurd (by omega) q⟩
    simp only [tUnlike, DL.g1]
    refine ⟨_, rfl, by rw [List.length_map]; omega, fun b hb => ?_⟩
    rw [hb.mpr ok.nd]
    exact fun z => (nomatch z)
  rintro _ rfl
  refine cut_seq (fun ρ => ρ = [some (dv (fnD g)), some (dv (.tup (g.params.map prD))), some (dO (.lst ((g.params.map Prod.fst).map D.str)))]) ?_ ?_
  · simp only [fnD]
    walk_at "dl"
    refine dCompP_at ((g.name :: g.params.map Prod.fst).map D.str) (fun ψ hψ => ?_) (fun i gs => gs = List.replicate i (D.bl true)) (by rw [List.length_map, List.length_cons, List.length_map]; omega) rfl ?_ ?_
    · walk_at "dl"
      refine ⟨?_, hψ⟩
      rw [sizeLine_eq]
      omega
    · rintro i e gs he hle rfl
      rw [List.getElem?_map] at he
      obtain ⟨z, hz, rfl⟩ := Option.map_eq_some_iff.mp he
      have nz : IsNm z := by
        rcases List.mem_cons.mp (List.mem_of_getElem? hz) with rfl | hm
        · exact ok.nm
        · obtain ⟨p, hp, rfl⟩ := List.mem_map.mp hm
          exact ok.nms p hp
      simp only [ρ0, List.map_cons, List.map_nil, List.replicate, List.cons_append, List.nil_append]
      walk_at "dl"
      simp only [tIsName, DL.g1]
      refine ⟨z, rfl, isnm_len nz, fun b hb => ?_⟩
      rw [hb.mpr nz]
      exact ⟨trivial, List.replicate_succ'.symm⟩
    rintro gs rfl
    simp only [df, bls_rep, rep_all]
    exact fun y => (nomatch y)
  rintro _ rfl
  simp only [fnD]
  walk_at "dl"
  refine dCompP_at (g.params.map prD) (fun ψ hψ => ?_) (fun i gs => gs = ((g.params.take i).map Prod.snd).map D.str) (by rw [List.length_map]; omega) rfl ?_ ?_
  · walk_at "dl"
    exact hψ
  · rintro i e gs he hle rfl
    rw [List.getElem?_map] at he
    obtain ⟨p, hp', rfl⟩ := Option.map_eq_some_iff.mp he
    simp only [ρ0, List.map_cons, List.map_nil, List.replicate, List.cons_append, List.nil_append, prD]
    walk_at "dl"
    rw [List.take_succ, hp']
    simp
  rintro gs rfl
  rw [List.length_map, List.take_length]
  walk_at "dl"
  simp only [tGives, DL.g2]
  have sz := ok.gv.sz
  rw [List.length_map] at sz
  exact ⟨_, _, _, rfl, rfl, by omega, by rw [List.length_map]; omega, ok.gv, trivial, h⟩
end
section
variable {P : Program} {w : World} {K : PySem.W.Frag} {mg : Str -> Option Value} {base : Heap} {f : Addr} {fd : FuncData}
noncomputable def KnOk (fs : List Fn) : Prop := ∀ f ∈ fs, f.params.length <= 100
noncomputable def g4' (g : D -> D -> D -> D -> (EV -> Prop) -> Prop) : FT := fun ds φ => ∃ a b c d, ds = [a, b, c, d] /\ g a b c d φ
noncomputable def tBodyG (n : Nat) : FT := g4' fun b na du kn φ => ∃ fs env due e r, KnOk fs /\ b = .tup [.str "give", e] /\ na = namesD env /\ du = .str due /\ kn = knownD fs /\ Sh fs env n e r /\ φ (dv (.bl (decide (r = some due))))
structure ProgH (n : Nat) (zs : List (Fn × Option Str)) : Prop where
  le : zs.length <= 100
  hd : ∀ z ∈ zs, HeadOk z.1
  bd : ∀ z ∈ zs, ∃ e, z.1.body = .tup [.str "give", e] /\ Sh (zs.map Prod.fst) z.1.params n e z.2
noncomputable def okB (z : Fn × Option Str) : Bool := decide (z.2 = some z.1.shape)
noncomputable def rgt (zs : List (Fn × Option Str)) : Bool := decide (1 <= zs.length /\ zs.length <= 8 /\ (zs.map fun z => z.1.name).Nodup) && zs.all okB
noncomputable def tRightH (n : Nat) : FT := g1 fun d φ => ∃ zs : List (Fn × Option Str), d = .tup (zs.map fun z => fnD z.1) /\ ProgH n zs /\ φ (dv (.bl (rgt zs)))
theorem prs_eq (ps : List (Str × Str)) : ps.map prD = pairsD (ps.map fun p => (Sum.inr p.1 : Key)) (ps.map fun p => D.str p.2) := by
  induction ps with
  | nil => rfl
  | cons p ps ih => rw [List.map_cons, ih]; rfl
theorem fns_eq : ∀ fs : List Fn, (fs.map fun f => D.tup [.str f.name, fnD f]) = pairsD (fs.map fun f => (Sum.inr f.name : Key)) (fs.map fnD)
  | [] => rfl
  | f :: fs => by
    rw [List.map_cons, fns_eq fs]
    rfl
theorem prs_eq2 (ps : List (Str × Str)) : ps.map prD = pairsD ((ps.map Prod.fst).map Sum.inr) (ps.map fun p => D.str p.2) := by
  rw [prs_eq, List.map_map]
  rfl
theorem fn_keys {fs : List Fn} (h : (fs.map Fn.name).Nodup) : (fs.map fun f => (Sum.inr f.name : Key)).Nodup := by
  have : (fs.map fun f => (Sum.inr f.name : Key)) = (fs.map Fn.name).map Sum.inr := by rw [List.map_map]; rfl
  rw [this]
  exact List.Pairwise.map _ (fun a b h e => h (Sum.inr.inj e)) h
theorem fd_body_right {n : Nat} (T : Tops mg) (Z : Con P w K mg) (F_shape_of : FD P w K mg base (3 * n + 2) "shape_of" ["expression", "names", "known"] (tShapeOf n)) (F : Fun K "body_right" "body_right" (top 12) f fd) (m : mg "body_right" = some (.ref f)) : FD P w K mg base (3 * n + 10) "body_right" ["body", "names", "due", "known"] (tBodyG n) := by
  have S : FnScope ["body", "names", "due", "known", "kind", "brought", "compared"] ["body", "names", "due", "known"] (defScope (top 12)) := ⟨rfl, rfl, rfl, by decide +kernel, rfl, by decide +kernel, by decide +kernel⟩
  refine fd_of F S (F.binds fun _ _ _ _ _ _ us hl => (by obtain ⟨_, _, _, _, rfl⟩ := lenN4 hl; rfl)) m fun cdv A outer s H E ds φ hr hl hT => ?_
  have hu := hr.units
  refine ⟨_, (ss_cons (sd_set 4 S.nd (ed_ixx hu (ed_name 0) ed_int))
      (ss_cons (sd_if (et_eq hu (ed_name 4) ed_str) (ss_one (sd_ret (ed_eq hu (ed_call F_shape_of (hr.mono (by omega)) (ea_cons (ed_ixx hu (ed_name 0) ed_int) (ea_cons (ed_name 1) (ea_cons (ed_name 3) ea_nil)))) (ed_name 2)))) ss_nil) ss_never)), ?_⟩
  obtain ⟨b, na, du, kn, rfl, fs, env, due, e, r, hk, rfl, rfl, rfl, rfl, hs, h⟩ := hT
  walk_at "dl"
  simp only [tShapeOf, g3']
  refine ⟨_, _, _, rfl, fs, env, r, hk, rfl, rfl, hs, ?_⟩
  cases r with
  | none => exact ⟨of_eq_true okD_non, h⟩
  | some s =>
    refine ⟨of_eq_true okD_str, ?_⟩
    have e : eqD (optD (some s)) (D.str due) = decide (some s = some due) := by
      show (s == due) = _
      by_cases q : s = due
      · subst q; simp
      · simp [q]
    rw [e]
    exact h
theorem fd_right {n : Nat} (T : Tops mg) (Z : Con P w K mg) (F_head_right : FD P w K mg base 3 "head_right" ["function"] tHeadR) (F_unlike : FD P w K mg base 1 "unlike" ["names"] tUnlike) (F_body_right : FD P w K mg base (3 * n + 10) "body_right" ["body", "names", "due", "known"] (tBodyG n)) (F : Fun K "right" "right" (top 9) f fd) (m : mg "right" = some (.ref f)) : FD P w K mg base (3 * n + 11) "right" ["program"] (tRightH n) := by
  have S : FnScope ["program", "known"] ["program"] (defScope (top 9)) := ⟨rfl, rfl, rfl, by decide +kernel, rfl, by decide +kernel, by decide +kernel⟩
  refine fd_of F S (F.binds fun _ _ _ _ _ _ us hl => (by obtain ⟨_, rfl⟩ := lenN1 hl; rfl)) m fun cdv A outer s H E ds φ hr hl hT => ?_
  have hu := hr.units
  refine ⟨_, (ss_cons (sd_cut (sd_if (et_not (et_leLe ed_int (ed_len T.len (ea_cons (ed_name 0) ea_nil)) ed_int)) (ss_one (sd_ret ed_bl)) ss_nil))
      (ss_cons (sd_cut (sd_if (et_not (et_val (ed_allC T.all (ea_cons (ed_compP (T := ["function"]) (F := []) (js := []) (ei_seq (ed_name 0)) (show CompScope (defScope (top 9)) _ ["function"] [] from ⟨rfl, by decide +kernel, by decide +kernel, by decide +kernel, by decide +kernel, by decide +kernel⟩) .nil (by decide) (fun cl C fp s H => (pg_name (i := 0) (show ((["function"] : List Str) ++ ([] : List Str)).Nodup by decide +kernel) rfl (by first | exact Or.inl rfl | exact Or.inr rfl))) (gk_name (by decide)) (gl_name 0) (fun cl C fp s H => eif_nil) (fun cl C fp s H => (ed_call F_head_right (hr.mono (by omega)) (ea_cons (ed_name 0) ea_nil)))) ea_nil)))) (ss_one (sd_ret ed_bl)) ss_nil))
      (ss_cons (sd_cut (sd_if (et_not (et_val (ed_call F_unlike (hr.mono (by omega)) (ea_cons (ed_compP (T := ["function"]) (F := []) (js := []) (ei_seq (ed_name 0)) (show CompScope (defScope (top 9)) _ ["function"] [] from ⟨rfl, by decide +kernel, by decide +kernel, by decide +kernel, by decide +kernel, by decide +kernel⟩) .nil (by decide) (fun cl C fp s H => (pg_name (i := 0) (show ((["function"] : List Str) ++ ([] : List Str)).Nodup by decide +kernel) rfl (by first | exact Or.inl rfl | exact Or.inr rfl))) (gk_name (by decide)) (gl_name 0) (fun cl C fp s H => eif_nil) (fun cl C fp s H => (ed_ixx hu (ed_name 0) ed_int))) ea_nil)))) (ss_one (sd_ret ed_bl)) ss_nil))
      (ss_cons (sd_cut (sd_set 1 S.nd (ed_dictP T.dict (ea_cons (ed_compP (T := ["function"]) (F := []) (js := []) (ei_seq (ed_name 0)) (show CompScope (defScope (top 9)) _ ["function"] [] from ⟨rfl, by decide +kernel, by decide +kernel, by decide +kernel, by decide +kernel, by decide +kernel⟩) .nil (by decide) (fun cl C fp s H => (pg_name (i := 0) (show ((["function"] : List Str) ++ ([] : List Str)).Nodup by decide +kernel) rfl (by first | exact Or.inl rfl | exact Or.inr rfl))) (gk_name (by decide)) (gl_name 0) (fun cl C fp s H => eif_nil) (fun cl C fp s H => (ed_tup (ea_cons (ed_ixx hu (ed_name 0) ed_int) (ea_cons (ed_name 0) ea_nil))))) ea_nil))))
      (ss_one (sd_frz 1 (sd_ret (ed_allC T.all (ea_cons (ed_compP (T := ["name", "params", "gives", "body"]) (F := ["known"]) (js := [1]) (ei_seq (ed_name 0)) (show CompScope (defScope (top 9)) _ ["name", "params", "gives", "body"] ["known"] from ⟨rfl, by decide +kernel, by decide +kernel, by decide +kernel, by decide +kernel, by decide +kernel⟩) (.cons rfl .nil) (by decide) (fun cl C fp s H => (pg_tupK (K0 := K) (n := 4) (by rfl) (by rfl) (pgs_cons (pg_name (i := 0) (show ((["name", "params", "gives", "body"] : List Str) ++ (["known"] : List Str)).Nodup by decide +kernel) rfl (by first | exact Or.inl rfl | exact Or.inr rfl)) (pgs_cons (pg_name (i := 1) (show ((["name", "params", "gives", "body"] : List Str) ++ (["known"] : List Str)).Nodup by decide +kernel) rfl (by first | exact Or.inl rfl | exact Or.inr rfl)) (pgs_cons (pg_name (i := 2) (show ((["name", "params", "gives", "body"] : List Str) ++ (["known"] : List Str)).Nodup by decide +kernel) rfl (by first | exact Or.inl rfl | exact Or.inr rfl)) (pgs_cons (pg_name (i := 3) (show ((["name", "params", "gives", "body"] : List Str) ++ (["known"] : List Str)).Nodup by decide +kernel) rfl (by first | exact Or.inl rfl | exact Or.inr rfl)) pgs_nil)))))) (gk_tup (gk_cons gm_name (gm_cons gm_name (gm_cons gm_name (gm_cons gm_name gm_nil))) (gk_name (by decide)) (gk_cons gm_name (gm_cons gm_name (gm_cons gm_name gm_nil)) (gk_name (by decide)) (gk_cons gm_name (gm_cons gm_name gm_nil) (gk_name (by decide)) (gk_cons gm_name gm_nil (gk_name (by decide)) gk_nil))))) (gl_tup4 0 1 2 3) (fun cl C fp s H => eif_nil) (fun cl C fp s H => (ed_call F_body_right (hr.mono (by omega)) (ea_cons (ed_name 3) (ea_cons (ed_dictT T.dict (ea_cons (ed_name 1) ea_nil)) (ea_cons (ed_ixx hu (ed_name 2) ed_int) (ea_cons (ed_name 4) ea_nil))))))) ea_nil))))))))), ?_⟩
  obtain ⟨d, rfl, zs, rfl, ok, h⟩ := f1_of hT
  obtain ⟨fs, efs⟩ : ∃ fs, fs = zs.map Prod.fst := ⟨_, rfl⟩
  have eD : (zs.map fun z => fnD z.1) = fs.map fnD := by rw [efs, List.map_map]; rfl
  rw [eD]
  have hdF : ∀ f ∈ fs, HeadOk f := fun f hf => by
    rw [efs] at hf
    obtain ⟨z, hz, rfl⟩ := List.mem_map.mp hf
    exact ok.hd z hz
  have fl : fs.length = zs.length := by rw [efs, List.length_map]
  have fn : (zs.map fun z => z.1.name) = fs.map Fn.name := by rw [efs, List.map_map]; rfl
  have le : fs.length <= 100 := by rw [fl]; exact ok.le
  have hF : ¬ (1 <= fs.length /\ fs.length <= 8 /\ (fs.map Fn.name).Nodup) -> φ (dv (.bl false)) := fun q => by
    unfold rgt at h
    rw [<- fl, fn, decide_eq_false q, Bool.false_and] at h
    exact h
  refine cut_seq (fun ρ => ρ = [some (dv (.tup (fs.map fnD))), none] /\ 1 <= fs.length /\ fs.length <= 8) ?_ ?_
  · walk_at "dl"
    exact ⟨fun q1 => ⟨fun q => hF fun y => q (by omega), fun q => ⟨by omega, by omega⟩⟩, fun q => hF fun y => q (by omega)⟩
  rintro _ ⟨rfl, lo, hi⟩
  refine cut_seq (fun ρ => ρ = [some (dv (.tup (fs.map fnD))), none]) ?_ ?_
  · walk_at "dl"
    refine dCompP_at (fs.map fnD) (fun ψ hψ => ?_) (fun i gs => gs = List.replicate i (D.bl true)) (by rw [List.length_map]; omega) rfl ?_ ?_
    · walk_at "dl"
      exact hψ
    · rintro i e gs he hle rfl
      rw [List.getElem?_map] at he
      obtain ⟨f, hf, rfl⟩ := Option.map_eq_some_iff.mp he
      simp only [ρ0, List.map_cons, List.map_nil, List.replicate, List.cons_append, List.nil_append]
      walk_at "dl"
      simp only [tHeadR, DL.g1]
      exact ⟨f, rfl, hdF f (List.mem_of_getElem? hf), trivial, List.replicate_succ'.symm⟩
    rintro gs rfl
    simp only [df, bls_rep, rep_all]
    exact fun y => (nomatch y)
  rintro _ rfl
  refine cut_seq (fun ρ => ρ = [some (dv (.tup (fs.map fnD))), none] /\ (fs.map Fn.name).Nodup) ?_ ?_
  · walk_at "dl"
    refine dCompP_at (fs.map fnD) (fun ψ hψ => ?_) (fun i gs => gs = ((fs.take i).map Fn.name).map D.str) (by rw [List.length_map]; omega) rfl ?_ ?_
    · walk_at "dl"
      exact hψ
    · rintro i e gs he hle rfl
      rw [List.getElem?_map] at he
      obtain ⟨f, hf, rfl⟩ := Option.map_eq_some_iff.mp he
      simp only [ρ0, List.map_cons, List.map_nil, List.replicate, List.cons_append, List.nil_append, fnD]
      walk_at "dl"
      rw [List.take_succ, hf]
      simp
    rintro gs rfl
    rw [List.length_map, List.take_length]
    walk_at "dl"
    simp only [tUnlike, DL.g1]
    refine ⟨_, rfl, by rw [List.length_map]; omega, fun b hb => ?_⟩
    cases b with
    | false => exact ⟨(fun _ => hF fun y => nomatch (hb.mpr y.2.2)), fun y => (nomatch y)⟩
    | true => exact ⟨fun y => (nomatch y), fun _ => hb.mp rfl⟩
  rintro _ ⟨rfl, nd⟩
  refine cut_seq (fun ρ => ρ = [some (dv (.tup (fs.map fnD))), some (dO (knownD fs))]) ?_ ?_
  · walk_at "dl"
    refine dCompP_at (fs.map fnD) (fun ψ hψ => ?_) (fun i gs => gs = ((fs.take i).map fun f => D.tup [.str f.name, fnD f])) (by rw [List.length_map]; omega) rfl ?_ ?_
    · walk_at "dl"
      exact hψ
    · rintro i e gs he hle rfl
      rw [List.getElem?_map] at he
      obtain ⟨f, hf, rfl⟩ := Option.map_eq_some_iff.mp he
      simp only [ρ0, List.map_cons, List.map_nil, List.replicate, List.cons_append, List.nil_append]
      rw [List.take_succ, hf]
      simp only [fnD]
      walk_at "dl"
      simp
    rintro gs rfl
    rw [List.length_map, List.take_length]
    walk_at "dl"
    refine ⟨_, _, fns_eq fs, by rw [List.length_map, List.length_map], fn_keys nd, rfl⟩
  rintro _ rfl
  walk_at "dl"
  refine dCompP_at (zs.map fun z => fnD z.1) (fun ψ hψ => ?_) (fun i gs => gs = (zs.take i).map fun z => D.bl (okB z)) (by rw [List.length_map]; omega) rfl ?_ ?_
  · walk_at "dl"
    rw [<- eD]
    exact hψ
  · rintro i e gs he hle rfl
    rw [List.getElem?_map] at he
    obtain ⟨z, hz, rfl⟩ := Option.map_eq_some_iff.mp he
    have fo := ok.hd z (List.mem_of_getElem? hz)
    have p4 := fo.hi
    obtain ⟨e, eb, hs⟩ := ok.bd z (List.mem_of_getElem? hz)
    rw [<- efs] at hs
    simp only [ρ0, List.map_cons, List.map_nil, List.replicate, List.cons_append, List.nil_append, fnD]
    walk_at "dl"
    refine ⟨z.1.params.map Prod.fst, z.1.params.map fun p => .str p.2, prs_eq2 _, by rw [List.length_map, List.length_map], by rw [List.length_map]; omega, fo.nd, ?_⟩
    refine ⟨_, _, _, _, rfl, fs, z.1.params, z.1.shape, e, z.2, fun g hg => by have := (hdF g hg).hi; omega, eb, ?_, rfl, rfl, hs, trivial, ?_⟩
    · unfold namesD
      rw [List.map_map]
      rfl
    · rw [List.take_succ, hz, Option.toList_some, List.map_append]
      rfl
  rintro gs rfl
  rw [List.length_map, List.take_length, show (zs.map fun z => D.bl (okB z)) = (zs.map okB).map D.bl from by rw [List.map_map]; rfl]
  simp only [blsD_map, List.all_map]
  unfold rgt at h
  rw [<- fl, fn, decide_eq_true ⟨lo, hi, nd⟩, Bool.true_and] at h
  exact h
end
section
variable {P : Program} {w : World} {K : PySem.W.Frag} {mg : Str -> Option Value} {base : Heap} {f : Addr} {fd : FuncData}
noncomputable def tCellM : FT := g2 fun d e φ => ∃ (ns : List Int) (k : Nat), d = .scr ns /\ e = .int k /\ ∀ c : Int, 0 <= c -> c < 10 ^ 62 -> φ (dv (.int c))
noncomputable def mkS (w : List Nat) : Str := ⟨w.toArray⟩
theorem mk_inj {a b : List Nat} (h : mkS a = mkS b) : a = b := by
  have := congrArg (fun z : Str => z.cps.toList) h
  exact this
theorem mk_len (w : List Nat) : (mkS w).length = w.length := rfl
theorem mk_snoc (w : List Nat) (c : Nat) : mkS w ++ (⟨#[c]⟩ : Str) = mkS (w ++ [c]) := by
  have : (mkS w ++ (⟨#[c]⟩ : Str)).cps = (mkS (w ++ [c])).cps := by
    apply Array.toList_inj.mp
    show (w.toArray ++ #[c]).toList = w ++ [c]
    simp
  exact congrArg Str.mk this
noncomputable def st (x : Int) : Int := 1 + 2 * x.fmod 6
noncomputable def bs (c : Int) (n : Nat) : Int := if (c.fdiv 1664).fmod 2 = 1 then ((c.fdiv 3328).fdiv ((n : Int) + 1) + (n : Int) * n).fmod 26 else (c.fdiv 64).fmod 26
noncomputable def lt (c k : Int) (n : Nat) : Int := if (n : Int) = (c.fdiv 8).fmod (1 + c.fmod 8) then (bs c n + k * st (c.fdiv 3328)).fmod 26 else bs c n
noncomputable def ltr (c k : Int) (n : Nat) : Nat := 97 + (lt c k n).toNat
noncomputable def wd0 (c k : Int) : List Nat := (List.range (1 + c.fmod 8).toNat).map (ltr c k)
noncomputable def ws26 : List Str := ["num", "list", "tree", "give", "let", "less", "call", "cons", "node", "add", "sub", "fn", "var", "make", "sum", "open", "hold", "leafs", "nila", "price", "room", "run", "ways", "find", "ahead", "cut"]
noncomputable def ws13 : List Str := ["num", "list", "tree", "give", "let", "less", "call", "cons", "node", "add", "sub", "fn", "var"]
noncomputable def ws11 : List Str := ["make", "sum", "open", "hold", "leafs", "nila", "price", "room", "run", "ways", "find"]
noncomputable def ws2 : List Str := ["ahead", "cut"]
noncomputable def nm (c k : Int) : Str := if (c.fdiv 5).fmod 8 = 3 then ws26.getD ((k * st (c.fdiv 40) + c.fdiv 240).fmod 26).toNat "" else if mkS (wd0 c k) = "nil" \/ mkS (wd0 c k) = "leaf" then mkS (wd0 c k) ++ ("x" : Str) else mkS (wd0 c k)
noncomputable def tName : FT := g2 fun a b φ => ∃ (c : Int) (k : Nat), a = .int c /\ b = .int k /\ k <= 100 /\ φ (dv (.str (nm c k)))
theorem pick_six (x : Int) : atI [D.int 1, D.int 3, D.int 5, D.int 7, D.int 9, D.int 11] (x.fmod 6) = some (.int (st x)) := by
  have m := mod_bd x 6 (by decide)
  unfold st
  have h : x.fmod 6 = 0 \/ x.fmod 6 = 1 \/ x.fmod 6 = 2 \/ x.fmod 6 = 3 \/ x.fmod 6 = 4 \/ x.fmod 6 = 5 := by omega
  rcases h with h | h | h | h | h | h <;> rw [h] <;> rfl
theorem st_bd (x : Int) : 0 <= st x /\ st x <= 11 := by
  have m := mod_bd x 6 (by decide)
  unfold st
  omega
theorem pick_ws (x : Int) : atI (ws26.map D.str) (x.fmod 26) = some (.str (ws26.getD (x.fmod 26).toNat "")) := by
  have m := mod_bd x 26 (by decide)
  have hl : (x.fmod 26).toNat < ws26.length := by show _ < 26; omega
  refine atI_of m.1 ?_
  rw [List.getElem?_map, List.getElem?_eq_getElem hl, List.getD_eq_getElem?_getD, List.getElem?_eq_getElem hl]
  rfl
noncomputable def abc : Str := "abcdefghijklmnopqrstuvwxyz"
theorem abc_val : ∀ i : Fin 26, abc.cps.toList[i.val]? = some (97 + i.val) := by decide +kernel
theorem leafX {Q : Nat -> Prop} (x : Int) (h : Q (97 + (x.fmod 26).toNat)) : match atI ("abcdefghijklmnopqrstuvwxyz" : Str).cps.toList (x.fmod 26) with
    | some c => Q c
    | none => False := by
  have m := mod_bd x 26 (by decide)
  have e := atI_of m.1 (abc_val ⟨(x.fmod 26).toNat, by omega⟩)
  unfold abc at e
  rw [e]
  exact h
theorem bs_bd (c : Int) (n : Nat) : 0 <= bs c n /\ bs c n < 26 := by
  unfold bs
  split
  · exact mod_bd _ 26 (by decide)
  · exact mod_bd _ 26 (by decide)
theorem lt_bd (c k : Int) (n : Nat) : 0 <= lt c k n /\ lt c k n < 26 := by
  unfold lt
  split
  · exact mod_bd _ 26 (by decide)
  · exact bs_bd c n
theorem fm26 {a b : Int} (h : a.fmod 26 = b.fmod 26) : ∃ q, a - b = 26 * q := by
  have h1 := Int.fmod_def a 26
  have h2 := Int.fmod_def b 26
  exact ⟨a.fdiv 26 - b.fdiv 26, by omega⟩
theorem step_inj {s b : Int} {k k' : Nat} (hs : ∃ x, s = st x) (hk : k <= 25) (hk' : k' <= 25) (h : (b + (k : Int) * s).fmod 26 = (b + (k' : Int) * s).fmod 26) : k = k' := by
  obtain ⟨x, rfl⟩ := hs
  obtain ⟨q, hq⟩ := fm26 h
  have m := mod_bd x 6 (by decide)
  unfold st at hq
  have hx : x.fmod 6 = 0 \/ x.fmod 6 = 1 \/ x.fmod 6 = 2 \/ x.fmod 6 = 3 \/ x.fmod 6 = 4 \/ x.fmod 6 = 5 := by omega
  rcases hx with h | h | h | h | h | h <;> rw [h] at hq <;> omega
theorem ws_nd : ws26.Nodup := by decide +kernel
theorem getD_inj {l : List Str} (nd : l.Nodup) {i j : Nat} (hi : i < l.length) (hj : j < l.length) (h : l.getD i "" = l.getD j "") : i = j := by
  rw [List.getD_eq_getElem?_getD, List.getD_eq_getElem?_getD, List.getElem?_eq_getElem hi, List.getElem?_eq_getElem hj] at h
  exact (List.getElem_inj nd).mp h
theorem wd0_len (c k : Int) : (wd0 c k).length = (1 + c.fmod 8).toNat := by
  unfold wd0
  rw [List.length_map, List.length_range]
theorem wd0_inj {c : Int} {k k' : Nat} (hk : k <= 25) (hk' : k' <= 25) (h : wd0 c k = wd0 c k') : k = k' := by
  have mb := mod_bd c 8 (by decide)
  have mb2 := mod_bd (c.fdiv 8) (1 + c.fmod 8) (by omega)
  have e := congrArg (fun l => l[((c.fdiv 8).fmod (1 + c.fmod 8)).toNat]?) h
  have hl : ((c.fdiv 8).fmod (1 + c.fmod 8)).toNat < (1 + c.fmod 8).toNat := by omega
  unfold wd0 at e
  simp only [List.getElem?_map, List.getElem?_range hl, Option.map_some] at e
  have e1 := Option.some.inj e
  have p : ((((c.fdiv 8).fmod (1 + c.fmod 8)).toNat : Nat) : Int) = (c.fdiv 8).fmod (1 + c.fmod 8) := Int.toNat_of_nonneg mb2.1
  have b1 := lt_bd c k ((c.fdiv 8).fmod (1 + c.fmod 8)).toNat
  have b2 := lt_bd c k' ((c.fdiv 8).fmod (1 + c.fmod 8)).toNat
  unfold ltr at e1
  have e2 : lt c k ((c.fdiv 8).fmod (1 + c.fmod 8)).toNat = lt c k' ((c.fdiv 8).fmod (1 + c.fmod 8)).toNat := by omega
  unfold lt at e2
  rw [if_pos p, if_pos p] at e2
  exact step_inj ⟨_, rfl⟩ hk hk' e2
theorem x_len : ("x" : Str).length = 1 := by decide +kernel
theorem nm_inj {c : Int} {k k' : Nat} (hk : k <= 25) (hk' : k' <= 25) (h : nm c k = nm c k') : k = k' := by
  unfold nm at h
  by_cases hc : (c.fdiv 5).fmod 8 = 3
  · rw [if_pos hc, if_pos hc] at h
    have m1 := mod_bd ((k : Int) * st (c.fdiv 40) + c.fdiv 240) 26 (by decide)
    have m2 := mod_bd ((k' : Int) * st (c.fdiv 40) + c.fdiv 240) 26 (by decide)
    have e := getD_inj ws_nd (by show _ < 26; omega) (by show _ < 26; omega) h
    refine step_inj (s := st (c.fdiv 40)) (b := c.fdiv 240) ⟨_, rfl⟩ hk hk' ?_
    rw [Int.add_comm, Int.add_comm (c.fdiv 240)]
    omega
  · rw [if_neg hc, if_neg hc] at h
    have l1 := wd0_len c k
    have l2 := wd0_len c k'
    by_cases h1 : mkS (wd0 c k) = "nil" \/ mkS (wd0 c k) = "leaf" <;> by_cases h2 : mkS (wd0 c k') = "nil" \/ mkS (wd0 c k') = "leaf"
    · rw [if_pos h1, if_pos h2] at h
      have ex : ("x" : Str) = ⟨#[120]⟩ := by decide +kernel
      rw [ex, mk_snoc, mk_snoc] at h
      exact wd0_inj hk hk' (List.append_cancel_right (mk_inj h))
    · rw [if_pos h1, if_neg h2] at h
      have := congrArg Str.length h
      rw [Str.length_append, mk_len, mk_len, x_len] at this
      omega
    · rw [if_neg h1, if_pos h2] at h
      have := congrArg Str.length h
      rw [Str.length_append, mk_len, mk_len, x_len] at this
      omega
    · rw [if_neg h1, if_neg h2] at h
      exact wd0_inj hk hk' (mk_inj h)
theorem sign_l : ∀ i : Fin 26, signOk (97 + i.val) = true := by decide +kernel
theorem ws_nm : ∀ w ∈ ws26, 1 <= w.length /\ w.length <= 8 /\ w ≠ "nil" /\ w ≠ "leaf" /\ ∀ c ∈ w.cps.toList, signOk c = true := by decide +kernel
theorem nm_ok (c : Int) (k : Nat) : IsNm (nm c k) := by
  unfold nm
  by_cases hc : (c.fdiv 5).fmod 8 = 3
  · rw [if_pos hc]
    have m1 := mod_bd ((k : Int) * st (c.fdiv 40) + c.fdiv 240) 26 (by decide)
    have hl : (((k : Int) * st (c.fdiv 40) + c.fdiv 240).fmod 26).toNat < ws26.length := by show _ < 26; omega
    rw [List.getD_eq_getElem?_getD, List.getElem?_eq_getElem hl]
    exact ws_nm _ (List.getElem_mem hl)
  · rw [if_neg hc]
    have mb := mod_bd c 8 (by decide)
    have l1 := wd0_len c k
    have sg : ∀ x ∈ wd0 c k, signOk x = true := fun x hx => by
      obtain ⟨n, _, rfl⟩ := List.mem_map.mp hx
      have b := lt_bd c k n
      exact sign_l ⟨(lt c k n).toNat, by omega⟩
    by_cases h1 : mkS (wd0 c k) = "nil" \/ mkS (wd0 c k) = "leaf"
    · rw [if_pos h1]
      rcases h1 with h1 | h1 <;> rw [h1]
      · have : IsNm (("nil" : Str) ++ ("x" : Str)) := by
          unfold IsNm
          decide +kernel
        exact this
      · have : IsNm (("leaf" : Str) ++ ("x" : Str)) := by
          unfold IsNm
          decide +kernel
        exact this
    · rw [if_neg h1]
      refine ⟨by rw [mk_len]; omega, by rw [mk_len]; omega, fun e => h1 (.inl e), fun e => h1 (.inr e), sg⟩
theorem sIf_b {tc : TDb} {t1 t2 : TDS} {ρ : DE} {Z : DZ} (b : Bool) (h : ∀ ψ : Bool -> Prop, ψ b -> tc ρ ψ) (h1 : b = true -> t1 ρ Z) (h2 : b = false -> t2 ρ Z) : sIf tc t1 t2 ρ Z := h _ ⟨h1, h2⟩
theorem one_len (c : Nat) : (⟨#[c]⟩ : Str).length = 1 := rfl
theorem fd_law_cell_at (T : Tops mg) (F : Fun K "_law_cell_at" "_law_cell_at" (top 18) f fd) (m : mg "_law_cell_at" = some (.ref f)) : FD P w K mg base 1 "_law_cell_at" ["_law_script", "_law_k"] tCellM := by
  have S : FnScope ["_law_script", "_law_k"] ["_law_script", "_law_k"] (defScope (top 18)) := ⟨rfl, rfl, rfl, by decide +kernel, rfl, by decide +kernel, by decide +kernel⟩
  refine fd_of F S (F.binds fun _ _ _ _ _ _ us hl => (by obtain ⟨_, _, rfl⟩ := lenN2 hl; rfl)) m fun cdv A outer s H E ds φ hr hl hT => ?_
  have hu := hr.units
  refine ⟨_, (ss_cons (sd_if (et_lt (ed_name 1) (ed_len T.len (ea_cons (ed_name 0) ea_nil))) (ss_one (sd_ret (ed_mod (ed_ixx hu (ed_name 0) (ed_name 1)) (ed_pow ed_int ed_int)))) ss_nil)
      (ss_one (sd_ret ed_int))), ?_⟩
  obtain ⟨d, e, rfl, ns, k, rfl, rfl, h⟩ := f2_of hT
  walk_at "dl"
  refine ⟨fun hk => ?_, fun hk => h 0 (by decide) (by decide)⟩
  have hk' : k < ns.length := by omega
  rw [atI_of (x := ns[k]) (by omega) (by simp [hk'])]
  have := mod_bd ns[k] (10 ^ 62) (by decide)
  exact h _ this.1 this.2
theorem fd_law_name (T : Tops mg) (F : Fun K "_law_name" "_law_name" (top 19) f fd) (m : mg "_law_name" = some (.ref f)) : FD P w K mg base 1 "_law_name" ["_law_cell", "_law_k"] tName := by
  have S : FnScope ["_law_cell", "_law_k", "_law_some", "_law_many", "_law_at", "_law_word", "_law_j", "_law_letter"] ["_law_cell", "_law_k"] (defScope (top 19)) := ⟨rfl, rfl, rfl, by decide +kernel, rfl, by decide +kernel, by decide +kernel⟩
  refine fd_of F S (F.binds fun _ _ _ _ _ _ us hl => (by obtain ⟨_, _, rfl⟩ := lenN2 hl; rfl)) m fun cdv A outer s H E ds φ hr hl hT => ?_
  have hu := hr.units
  refine ⟨_, (ss_cons (sd_cut (sd_if (et_eq hu (ed_mod (ed_fd (ed_name 0) ed_int) ed_int) ed_int) (ss_cons (sd_cut (sd_set 2 S.nd (ed_lst (ea_cons ed_str (ea_cons ed_str (ea_cons ed_str (ea_cons ed_str (ea_cons ed_str (ea_cons ed_str (ea_cons ed_str (ea_cons ed_str (ea_cons ed_str (ea_cons ed_str (ea_cons ed_str (ea_cons ed_str (ea_cons ed_str ea_nil))))))))))))))))
        (ss_cons (sd_cut (sd_set 2 S.nd (ed_add (ed_name 2) (ed_lst (ea_cons ed_str (ea_cons ed_str (ea_cons ed_str (ea_cons ed_str (ea_cons ed_str (ea_cons ed_str (ea_cons ed_str (ea_cons ed_str (ea_cons ed_str (ea_cons ed_str (ea_cons ed_str ea_nil)))))))))))))))
        (ss_cons (sd_cut (sd_set 2 S.nd (ed_add (ed_name 2) (ed_lst (ea_cons ed_str (ea_cons ed_str ea_nil))))))
        (ss_one (sd_ret (ed_ixx hu (ed_name 2) (ed_mod (ed_add (ed_mul (ed_name 1) (ed_ixx hu (ed_lst (ea_cons ed_int (ea_cons ed_int (ea_cons ed_int (ea_cons ed_int (ea_cons ed_int (ea_cons ed_int ea_nil))))))) (ed_mod (ed_fd (ed_name 0) ed_int) ed_int))) (ed_fd (ed_name 0) ed_int)) ed_int))))))) ss_nil))
      (ss_cons (sd_cut (sd_set 3 S.nd (ed_add ed_int (ed_mod (ed_name 0) ed_int))))
      (ss_cons (sd_cut (sd_set 4 S.nd (ed_mod (ed_fd (ed_name 0) ed_int) (ed_name 3))))
      (ss_cons (sd_cut (sd_set 5 S.nd ed_str))
      (ss_cons (sd_cut (sd_for (ei_range1 T.range (ea_cons (ed_name 3) ea_nil)) (pg_name (i := 6) S.nd rfl (by first | exact Or.inl rfl | exact Or.inr rfl)) (gl_name 6) (ss_cons (sd_set 7 S.nd (ed_mod (ed_fd (ed_name 0) ed_int) ed_int))
        (ss_cons (sd_if (et_eq hu (ed_mod (ed_fd (ed_name 0) ed_int) ed_int) ed_int) (ss_one (sd_set 7 S.nd (ed_mod (ed_add (ed_fd (ed_fd (ed_name 0) ed_int) (ed_add (ed_name 6) ed_int)) (ed_mul (ed_name 6) (ed_name 6))) ed_int))) ss_nil)
        (ss_cons (sd_if (et_eq hu (ed_name 6) (ed_name 4)) (ss_one (sd_set 7 S.nd (ed_mod (ed_add (ed_name 7) (ed_mul (ed_name 1) (ed_ixx hu (ed_lst (ea_cons ed_int (ea_cons ed_int (ea_cons ed_int (ea_cons ed_int (ea_cons ed_int (ea_cons ed_int ea_nil))))))) (ed_mod (ed_fd (ed_name 0) ed_int) ed_int)))) ed_int))) ss_nil)
        (ss_one (sd_set 5 S.nd (ed_add (ed_name 5) (ed_ixx hu ed_str (ed_name 7))))))))))
      (ss_cons (sd_if (EW.et (ew_or (et_eq hu (ed_name 5) ed_str) (ew_or1 (et_eq hu (ed_name 5) ed_str)))) (ss_one (sd_set 5 S.nd (ed_add (ed_name 5) ed_str))) ss_nil)
      (ss_one (sd_ret (ed_name 5))))))))), ?_⟩
  obtain ⟨c0, k0, rfl, i, j, rfl, rfl, j1, h⟩ := f2_of hT
  have er := pick_six (i.fdiv 40)
  have ew := pick_ws ((j : Int) * st (i.fdiv 40) + i.fdiv 240)
  have sb := st_bd (i.fdiv 40)
  have sb' := st_bd (i.fdiv 3328)
  refine cut_seq (fun ρ => ¬ (i.fdiv 5).fmod 8 = 3 /\ ρ = [some (dv (.int i)), some (dv (.int (j : Int))), none, none, none, none, none, none]) ?_ ?_
  · refine sIf_b (decide ((i.fdiv 5).fmod 8 = 3)) (fun ψ hψ => ?_) (fun q => ?_) (fun q => ?_)
    · walk_at "dl"
      exact ⟨of_eq_true (fd_lit (by decide) (by decide)), hψ⟩
    · refine cut_seq (fun ρ => ∃ l : List D, l = ws13.map D.str /\ ρ = [some (dv (.int i)), some (dv (.int (j : Int))), some (dO (.lst l)), none, none, none, none, none]) ?_ ?_
      · walk_at "dl"
        exact ⟨_, rfl, rfl⟩
      rintro _ ⟨l1, e1, rfl⟩
      have n1 : l1.length = 13 := by rw [e1]; rfl
      refine cut_seq (fun ρ => ∃ l : List D, l = l1 ++ ws11.map D.str /\ ρ = [some (dv (.int i)), some (dv (.int (j : Int))), some (dO (.lst l)), none, none, none, none, none]) ?_ ?_
      · walk_at "dl"
        exact ⟨by rw [n1, sizeLine_eq]; omega, _, rfl, rfl⟩
      rintro _ ⟨l2, e2, rfl⟩
      have n2 : l2.length = 24 := by rw [e2, List.length_append, n1]; rfl
      refine cut_seq (fun ρ => ∃ l : List D, l = l2 ++ ws2.map D.str /\ ρ = [some (dv (.int i)), some (dv (.int (j : Int))), some (dO (.lst l)), none, none, none, none, none]) ?_ ?_
      · walk_at "dl"
        exact ⟨by rw [n2, sizeLine_eq]; omega, _, rfl, rfl⟩
      rintro _ ⟨l3, e3, rfl⟩
      rw [e2, e1, <- List.map_append, <- List.map_append, show ws13 ++ ws11 ++ ws2 = ws26 from rfl] at e3
      rw [<- e3] at ew
      walk_at "dl"
      rw [er]
      walk_at "dl"
      rw [ew]
      unfold nm at h
      rw [if_pos (of_decide_eq_true q)] at h
      exact ⟨of_eq_true (fd_lit (by decide) (by decide)), IntMulOk.of_left (a := (j : Int)) (bitsOf (by omega)), of_eq_true (fd_lit (by decide) (by decide)), trivial, h⟩
    · walk_at "dl"
      exact of_decide_eq_false q
  rintro _ ⟨hno, rfl⟩
  unfold nm at h
  rw [if_neg hno] at h
  have mb := mod_bd i 8 (by decide)
  have mb2 := mod_bd (i.fdiv 8) (1 + i.fmod 8) (by omega)
  refine cut_seq (fun ρ => ρ = [some (dv (.int i)), some (dv (.int (j : Int))), none, some (dv (.int (1 + i.fmod 8))), none, none, none, none]) ?_ ?_
  · walk_at "dl"
  rintro _ rfl
  refine cut_seq (fun ρ => ρ = [some (dv (.int i)), some (dv (.int (j : Int))), none, some (dv (.int (1 + i.fmod 8))), some (dv (.int ((i.fdiv 8).fmod (1 + i.fmod 8)))), none, none, none]) ?_ ?_
  · walk_at "dl"
    exact ⟨of_eq_true (fd_lit (by decide) (by decide)), fun z => by omega⟩
  rintro _ rfl
  refine cut_seq (fun ρ => ρ = [some (dv (.int i)), some (dv (.int (j : Int))), none, some (dv (.int (1 + i.fmod 8))), some (dv (.int ((i.fdiv 8).fmod (1 + i.fmod 8)))), some (dv (.str "")), none, none]) ?_ ?_
  · walk_at "dl"
  rintro _ rfl
  refine cut_seq (fun ρ => ∃ (a b : Option EV), ρ = [some (dv (.int i)), some (dv (.int (j : Int))), none, some (dv (.int (1 + i.fmod 8))), some (dv (.int ((i.fdiv 8).fmod (1 + i.fmod 8)))), some (dv (.str (mkS (wd0 i j)))), a, b]) ?_ ?_
  · refine sFor_at (rngD 0 (1 + i.fmod 8).toNat) (fun ψ hψ => ?_) (fun n ρ => ∃ (a b : Option EV), ρ = [some (dv (.int i)), some (dv (.int (j : Int))), none, some (dv (.int (1 + i.fmod 8))), some (dv (.int ((i.fdiv 8).fmod (1 + i.fmod 8)))), some (dv (.str (mkS ((List.range n).map (ltr i j))))), a, b]) ?_ ?_ ?_
    · walk_at "dl"
      exact ⟨by omega, by omega, hψ⟩
    · exact ⟨none, none, rfl⟩
    · rintro n d ρ hd ⟨a, b, rfl⟩
      have dn : d = .int n := by
        obtain ⟨hn, rfl⟩ := rng_get hd
        simp
      have n8 : n < 8 := by
        obtain ⟨hn, _⟩ := rng_get hd
        omega
      subst dn
      have er' := pick_six (i.fdiv 3328)
      have al : ("abcdefghijklmnopqrstuvwxyz" : Str).length <= sizeLine := by rw [sizeLine_eq]; decide +kernel
      have go : ∀ (u : EV) (c : Nat), c = ltr i j n -> (mkS ((List.range n).map (ltr i j))).length + ({ cps := #[c] } : Str).length <= sizeLine /\ ∃ (a b : Option EV), [some (dv (D.int i)), some (dv (D.int (j : Int))), none, some (dv (D.int (1 + i.fmod 8))), some (dv (D.int ((i.fdiv 8).fmod (1 + i.fmod 8)))), some (dv (D.str (mkS ((List.range n).map (ltr i j)) ++ ({ cps := #[c] } : Str)))), some (dv (D.int n)), some u] = [some (dv (D.int i)), some (dv (D.int (j : Int))), none, some (dv (D.int (1 + i.fmod 8))), some (dv (D.int ((i.fdiv 8).fmod (1 + i.fmod 8)))), some (dv (D.str (mkS ((List.range (n + 1)).map (ltr i j))))), a, b] := fun u c hc => by
        refine ⟨by rw [one_len, mk_len, List.length_map, List.length_range, sizeLine_eq]; omega, some (dv (D.int n)), some u, ?_⟩
        rw [mk_snoc, List.range_succ, List.map_append, hc]
        rfl
      have mo : IntMulOk (n : Int) n := IntMulOk.of_left (a := (n : Int)) (bitsOf (by omega))
      have mo2 : IntMulOk (j : Int) (st (i.fdiv 3328)) := IntMulOk.of_left (a := (j : Int)) (bitsOf (by omega))
      have fo : ∀ x : Int, FdOk x ((n : Int) + 1) := fun x => fdOk (m := 64) (by omega) (bitsOf (by omega))
      walk_at "dl"
      rw [er']
      refine ⟨of_eq_true (fd_lit (by decide) (by decide)), of_eq_true (fd_lit (by decide) (by decide)), fun q1 => ⟨of_eq_true (fd_lit (by decide) (by decide)), fo _, mo, fun q2 => ⟨of_eq_true (fd_lit (by decide) (by decide)), mo2, al, leafX _ (go _ _ ?_)⟩, fun q2 => ⟨al, leafX _ (go _ _ ?_)⟩⟩, fun q1 => ⟨fun q2 => ⟨of_eq_true (fd_lit (by decide) (by decide)), mo2, al, leafX _ (go _ _ ?_)⟩, fun q2 => ⟨al, leafX _ (go _ _ ?_)⟩⟩⟩
      · unfold ltr lt bs
        rw [if_pos q2, if_pos q1]
      · unfold ltr lt bs
        rw [if_neg q2, if_pos q1]
      · unfold ltr lt bs
        rw [if_pos q2, if_neg q1]
      · unfold ltr lt bs
        rw [if_neg q2, if_neg q1]
    · rintro ρ ⟨a, b, rfl⟩
      rw [rng_len]
      exact ⟨a, b, rfl⟩
  rintro _ ⟨a, b, rfl⟩
  have wl := wd0_len i j
  have hz : (mkS (wd0 i j)).length + ("x" : Str).length <= sizeLine := by rw [mk_len, x_len, sizeLine_eq]; omega
  walk_at "dl"
  refine ⟨fun q => ⟨hz, ?_⟩, fun q => ⟨fun q2 => ⟨hz, ?_⟩, fun q2 => ?_⟩⟩
  · rw [if_pos (.inl q)] at h
    exact h
  · rw [if_pos (.inr q2)] at h
    exact h
  · rw [if_neg (fun y => y.elim q q2)] at h
    exact h
end
section
variable {P : Program} {w : World} {K : PySem.W.Frag} {mg : Str -> Option Value} {base : Heap} {f : Addr} {fd : FuncData}
inductive PlainE (env : List (Str × Str)) (s : Str) : D -> Prop
  | num (i : Int) (h : s = "num") : PlainE env s (.tup [.str "num", .int i])
  | var (z : Str) (h : rowsL env z = some s) : PlainE env s (.tup [.str "var", .str z])
  | nil (h : s = "list") : PlainE env s (.tup [.str "nil"])
  | leaf (h : s = "tree") : PlainE env s (.tup [.str "leaf"])
theorem PlainE.pure {env : List (Str × Str)} {s : Str} {e : D} (h : PlainE env s e) : pureD e := by
  cases h
  · exact ⟨trivial, trivial, trivial⟩
  · exact ⟨trivial, trivial, trivial⟩
  · exact ⟨trivial, trivial⟩
  · exact ⟨trivial, trivial⟩
theorem pair_nil {α : Type} {R : D -> α -> Prop} : Pair2 R [] [] := ⟨rfl, fun i e c h => by simp at h⟩
theorem PlainE.sh {fs : List Fn} {env : List (Str × Str)} {s : Str} {e : D} (h : PlainE env s e) (n : Nat) : Sh fs env (n + 1) e (some s) := by
  cases h with
  | num i h => exact .inl ⟨i, rfl, by rw [h]; rfl⟩
  | var z h => exact .inr (.inl ⟨z, rfl, h.symm⟩)
  | nil h => exact .inr (.inr (.inr ⟨"nil", [], [], by decide, by decide, by decide, rfl, pair_nil, by decide, by rw [h]; decide⟩))
  | leaf h => exact .inr (.inr (.inr ⟨"leaf", [], [], by decide, by decide, by decide, rfl, pair_nil, by decide, by rw [h]; decide⟩))
theorem rows_mem {z s : Str} : ∀ {env : List (Str × Str)}, (env.map Prod.fst).Nodup -> (z, s) ∈ env -> rowsL env z = some s
  | [], _, h => by cases h
  | p :: r, nd, h => by
    rw [List.map_cons, List.nodup_cons] at nd
    unfold rowsL
    rcases List.mem_cons.mp h with rfl | h
    · rw [if_pos rfl]
    · rw [if_neg (fun e => nd.1 (by rw [<- e]; exact List.mem_map.mpr ⟨_, h, rfl⟩))]
      exact rows_mem nd.2 h
noncomputable def par (w : Int) (ks : List Str) : List (Str × Str) := (List.range ks.length).map fun (k : Nat) => (nm w (k : Int), ks.getD k "")
theorem par_len (w : Int) (ks : List Str) : (par w ks).length = ks.length := by
  unfold par
  rw [List.length_map, List.length_range]
theorem par_get {w : Int} {ks : List Str} {i : Nat} {s : Str} (h : ks[i]? = some s) : (par w ks)[i]? = some (nm w (i : Int), s) := by
  unfold par
  have hi : i < ks.length := by
    rcases Nat.lt_or_ge i ks.length with q | q
    · exact q
    · rw [List.getElem?_eq_none q] at h; cases h
  rw [List.getElem?_map, List.getElem?_range hi, Option.map_some, List.getD_eq_getElem?_getD, h]
  rfl
theorem par_snd (w : Int) (ks : List Str) : (par w ks).map Prod.snd = ks := by
  apply List.ext_getElem?
  intro i
  rw [List.getElem?_map]
  rcases Nat.lt_or_ge i ks.length with q | q
  · rw [par_get (List.getElem?_eq_getElem q), List.getElem?_eq_getElem q]
    rfl
  · rw [List.getElem?_eq_none (by rw [par_len]; exact q), List.getElem?_eq_none q]
    rfl
theorem par_nd {w : Int} {ks : List Str} (hl : ks.length <= 20) : ((par w ks).map Prod.fst).Nodup := by
  unfold par
  rw [List.map_map]
  have e : (Prod.fst ∘ fun k : Nat => (nm w (k : Int), ks.getD k "")) = fun k : Nat => nm w (k : Int) := rfl
  rw [e]
  refine List.pairwise_map.mpr (List.Pairwise.imp_of_mem (fun {a b} ha hb hab h => ?_) List.pairwise_lt_range)
  have h1 := List.mem_range.mp ha
  have h2 := List.mem_range.mp hb
  have := nm_inj (by omega) (by omega) h
  omega
theorem par_ok {w : Int} {ks : List Str} : ∀ p ∈ par w ks, IsNm p.1 := by
  intro p hp
  obtain ⟨k, _, rfl⟩ := List.mem_map.mp hp
  exact nm_ok w k
theorem rng_len (n : Nat) : (rngD 0 n).length = n := by unfold rngD; rw [List.length_map, List.length_range]
theorem flat0 : ∀ n : Nat, (List.replicate n [D.int 0]).flatten = (List.replicate n (0 : Int)).map D.int
  | 0 => rfl
  | n + 1 => by rw [List.replicate_succ, List.flatten_cons, flat0 n, List.replicate_succ]; rfl
theorem pure_prs (l : List (Str × Str)) : pureDs (l.map prD) := pureDs_iff.mpr fun d hd => by
  obtain ⟨n, _, rfl⟩ := List.mem_map.mp hd
  exact ⟨trivial, trivial, trivial⟩
theorem fnL_some {z : Str} {g : Fn} : ∀ {fs : List Fn}, fnL fs z = some g -> g ∈ fs /\ g.name = z
  | [], h => by cases h
  | f :: r, h => by
    unfold fnL at h
    by_cases q : z = f.name
    · rw [if_pos q] at h; cases h; exact ⟨List.mem_cons_self, q.symm⟩
    · rw [if_neg q] at h
      obtain ⟨a, b⟩ := fnL_some h
      exact ⟨List.mem_cons_of_mem _ a, b⟩
structure Pt where
  num : Nat
  kinds : List Str
  called : Nat
  cell : Int
  given : List Str
noncomputable def lsD (ks : List Str) : D := .lst (ks.map D.str)
noncomputable def ptD (p : Pt) : D := .lst [.int p.num, lsD p.kinds, .int p.called, .int p.cell, lsD p.given]
noncomputable def Kds (ks : List Str) : Prop := 1 <= ks.length /\ ks.length <= 4 /\ ∀ z ∈ ks, IsSh z
structure PtW (p : Pt) : Prop where
  n : p.num <= 10
  ks : Kds p.kinds
  c : p.called <= 10
  gl : p.given.length <= 5
  gs : ∀ z ∈ p.given, IsSh z
structure PtS (p : Pt) : Prop where
  n : p.num <= 10
  ks : Kds p.kinds
  c : p.called <= 10
  gv : Kds p.given
theorem pure_strs (ks : List Str) : pureDs (ks.map D.str) := pureDs_iff.mpr fun d hd => by
  obtain ⟨n, _, rfl⟩ := List.mem_map.mp hd
  exact trivial
theorem sg2 {i : Int} (h0 : 0 <= i) (h1 : i < 2) : ∃ j : Int, (j = 1 \/ j = -1) /\ atI [D.int 1, .int (-1)] i = some (.int j) := by
  have : i = 0 \/ i = 1 := by omega
  rcases this with rfl | rfl
  · exact ⟨1, .inl rfl, rfl⟩
  · exact ⟨-1, .inr rfl, rfl⟩
noncomputable def tKinds : FT := g1 fun a φ => ∃ c : Int, a = .int c /\ ∀ ks : List Str, Kds ks -> φ (df (lsD ks))
noncomputable def tArg : FT := fun ds φ => ∃ (z : Str) (c : Int) (ks : List Str) (w : Int), ds = [.str z, .int c, lsD ks, .int w] /\ IsSh z /\ ks.length <= 4 /\ ∀ e, PlainE (par w ks) z e -> φ (dv e)
theorem ap3 {i : Int} (h0 : 0 <= i) (h1 : i < 3) : ∃ s, IsSh s /\ atI [D.str "num", .str "list", .str "tree"] i = some (.str s) := by
  have : i = 0 \/ i = 1 \/ i = 2 := by omega
  rcases this with rfl | rfl | rfl
  · exact ⟨"num", .inl rfl, rfl⟩
  · exact ⟨"list", .inr (.inl rfl), rfl⟩
  · exact ⟨"tree", .inr (.inr rfl), rfl⟩
theorem ap4 {i : Int} (h0 : 0 <= i) (h1 : i < 4) : ∃ j : Int, 1 <= j /\ j <= 27 /\ atI [D.int 1, .int 3, .int 9, .int 27] i = some (.int j) := by
  have : i = 0 \/ i = 1 \/ i = 2 \/ i = 3 := by omega
  rcases this with rfl | rfl | rfl | rfl
  · exact ⟨1, by decide, by decide, rfl⟩
  · exact ⟨3, by decide, by decide, rfl⟩
  · exact ⟨9, by decide, by decide, rfl⟩
  · exact ⟨27, by decide, by decide, rfl⟩
theorem fd_law_kinds (T : Tops mg) (F : Fun K "_law_kinds" "_law_kinds" (top 20) f fd) (m : mg "_law_kinds" = some (.ref f)) : FD P w K mg base 1 "_law_kinds" ["_law_cell"] tKinds := by
  have S : FnScope ["_law_cell"] ["_law_cell"] (defScope (top 20)) := ⟨rfl, rfl, rfl, by decide +kernel, rfl, by decide +kernel, by decide +kernel⟩
  refine fd_of F S (F.binds fun _ _ _ _ _ _ us hl => (by obtain ⟨_, rfl⟩ := lenN1 hl; rfl)) m fun cdv A outer s H E ds φ hr hl hT => ?_
  have hu := hr.units
  refine ⟨_, (ss_one (sd_ret (ed_compP (T := ["_law_k"]) (F := ["_law_cell"]) (js := [0]) (ei_range1 T.range (ea_cons (ed_add ed_int (ed_mod (ed_name 0) ed_int)) ea_nil)) (show CompScope (defScope (top 20)) _ ["_law_k"] ["_law_cell"] from ⟨rfl, by decide +kernel, by decide +kernel, by decide +kernel, by decide +kernel, by decide +kernel⟩) (.cons rfl .nil) (by decide) (fun cl C fp s H => (pg_name (i := 0) (show ((["_law_k"] : List Str) ++ (["_law_cell"] : List Str)).Nodup by decide +kernel) rfl (by first | exact Or.inl rfl | exact Or.inr rfl))) (gk_name (by decide)) (gl_name 0) (fun cl C fp s H => eif_nil) (fun cl C fp s H => (ed_ixx hu (ed_lst (ea_cons ed_str (ea_cons ed_str (ea_cons ed_str ea_nil)))) (ed_mod (ed_fd (ed_fd (ed_name 1) ed_int) (ed_ixx hu (ed_lst (ea_cons ed_int (ea_cons ed_int (ea_cons ed_int (ea_cons ed_int ea_nil))))) (ed_name 0))) ed_int)))))), ?_⟩
  obtain ⟨d, rfl, c, rfl, h⟩ := f1_of hT
  have m4 := mod_bd c 4 (by decide)
  walk_at "dl"
  refine dCompP_at (rngD 0 (1 + c.fmod 4).toNat) (fun ψ hψ => ?_) (fun i es => ∃ ks : List Str, ks.length = i /\ (∀ k ∈ ks, IsSh k) /\ es = ks.map D.str) (by rw [rng_len]; omega) ⟨[], rfl, (fun k hk => by cases hk), rfl⟩ ?_ ?_
  · walk_at "dl"
    exact ⟨by omega, by omega, hψ⟩
  · rintro i d es hd hes ⟨ks, hkl, hks, rfl⟩
    obtain ⟨hi, rfl⟩ := DL.rng_get hd
    have e0 : (0 : Int) + (i : Int) = i := by omega
    rw [e0]
    simp only [ρ0, List.map_cons, List.map_nil, List.replicate, List.cons_append, List.nil_append]
    obtain ⟨j, j1, j2, ej⟩ := ap4 (i := (i : Int)) (by omega) (by omega)
    have m3 := mod_bd ((c.fdiv 4).fdiv j) 3 (by decide)
    obtain ⟨s, hs, es⟩ := ap3 m3.1 m3.2
    walk_at "dl"
    rw [ej]
    refine ⟨of_eq_true (fd_lit (by decide) (by decide)), of_eq_true (fd_lit (by omega) (by omega)), ?_⟩
    rw [es]
    refine ⟨ks ++ [s], by rw [List.length_append, hkl]; rfl, fun k hk => ?_, by rw [List.map_append]; rfl⟩
    rcases List.mem_append.mp hk with hk | hk
    · exact hks k hk
    · rw [List.mem_singleton.mp hk]; exact hs
  rintro es ⟨ks, hkl, hks, rfl⟩
  rw [rng_len] at hkl
  exact ⟨pure_strs ks, h ks ⟨by omega, by omega, hks⟩⟩
theorem fd_law_arg (T : Tops mg) (F__law_name : FD P w K mg base 1 "_law_name" ["_law_cell", "_law_k"] tName) (F : Fun K "_law_arg" "_law_arg" (top 21) f fd) (m : mg "_law_arg" = some (.ref f)) : FD P w K mg base 2 "_law_arg" ["_law_kind", "_law_cell", "_law_own", "_law_words"] tArg := by
  have S : FnScope ["_law_kind", "_law_cell", "_law_own", "_law_words", "_law_k"] ["_law_kind", "_law_cell", "_law_own", "_law_words"] (defScope (top 21)) := ⟨rfl, rfl, rfl, by decide +kernel, rfl, by decide +kernel, by decide +kernel⟩
  refine fd_of F S (F.binds fun _ _ _ _ _ _ us hl => (by obtain ⟨_, _, _, _, rfl⟩ := lenN4 hl; rfl)) m fun cdv A outer s H E ds φ hr hl hT => ?_
  have hu := hr.units
  refine ⟨_, (ss_cons (sd_cut (sd_for (ei_range1 T.range (ea_cons (ed_len T.len (ea_cons (ed_name 2) ea_nil)) ea_nil)) (pg_name (i := 4) S.nd rfl (by first | exact Or.inl rfl | exact Or.inr rfl)) (gl_name 4) (ss_one (sd_if (EW.et (ew_and (et_eq hu (ed_ixx hu (ed_name 2) (ed_name 4)) (ed_name 0)) (ew_and1 (et_ne hu (ed_mod (ed_fd (ed_name 1) ed_int) ed_int) ed_int)))) (ss_one (sd_ret (ed_tup (ea_cons ed_str (ea_cons (ed_call F__law_name (hr.mono (by decide)) (ea_cons (ed_name 3) (ea_cons (ed_name 4) ea_nil))) ea_nil))))) ss_nil))))
      (ss_cons (sd_if (et_eq hu (ed_name 0) ed_str) (ss_one (sd_ret (ed_tup (ea_cons ed_str (ea_cons (ed_mul (ed_ixx hu (ed_lst (ea_cons ed_int (ea_cons (ed_neg ed_int) ea_nil))) (ed_mod (ed_name 1) ed_int)) (ed_mod (ed_fd (ed_name 1) ed_int) (ed_pow ed_int ed_int))) ea_nil))))) ss_nil)
      (ss_one (sd_ret (ed_ixx hu (ed_lst (ea_cons (ed_tup (ea_cons ed_str ea_nil)) (ea_cons (ed_tup (ea_cons ed_str ea_nil)) ea_nil))) (ed_intC T.int (ea_cons (ed_eq hu (ed_name 0) ed_str) ea_nil))))))), ?_⟩
  obtain ⟨z, c, ks, wd, rfl, hz, hk, h⟩ := hT
  refine cut_seq (fun ρ => ∃ a, ρ = [some (dv (.str z)), some (dv (.int c)), some (dv (lsD ks)), some (dv (.int wd)), a]) ?_ ?_
  · refine sFor_at (rngD 0 ks.length) (fun ψ hψ => ?_) (fun i ρ => ∃ a, ρ = [some (dv (.str z)), some (dv (.int c)), some (dv (lsD ks)), some (dv (.int wd)), a]) ⟨none, rfl⟩ ?_ ?_
    · unfold lsD
      walk_at "dl"
      exact ⟨by omega, by omega, hψ⟩
    · rintro i d _ hd ⟨a, rfl⟩
      obtain ⟨hi, rfl⟩ := DL.rng_get hd
      have e0 : (0 : Int) + (i : Int) = i := by omega
      rw [e0]
      have hg := List.getElem?_eq_getElem hi
      have ha : atI ks (i : Int) = some ks[i] := atI_of (by omega) (by rw [<- hg]; congr 1)
      unfold lsD
      walk_at "dl"
      rw [ha]
      refine ⟨of_eq_true okD_str, fun q => ⟨of_eq_true (fd_lit (by decide) (by decide)), fun _ => ?_, fun _ => ⟨_, rfl⟩⟩, fun _ => ⟨_, rfl⟩⟩
      have ez : ks[i] = z := by
        rw [eqD_str] at q
        exact beq_iff_eq.mp q
      simp only [tName, DL.g2]
      refine ⟨wd, i, rfl, rfl, by omega, trivial, trivial, h _ (.var _ (rows_mem (par_nd (by omega)) ?_))⟩
      rw [<- ez]
      exact List.mem_of_getElem? (par_get hg)
    · rintro ρ ⟨a, rfl⟩
      exact ⟨a, rfl⟩
  rintro _ ⟨a, rfl⟩
  obtain ⟨j, hj, ej⟩ := sg2 (mod_bd c 2 (by decide)).1 (mod_bd c 2 (by decide)).2
  walk_at "dl"
  rw [ej]
  refine ⟨fun ez => ⟨of_eq_true (fd_lit (by decide) (by decide)), ?_, h _ (.num _ ez)⟩, fun nz => ?_⟩
  · rcases hj with rfl | rfl
    · exact IntMulOk.of_left (by decide)
    · exact IntMulOk.of_left (by decide)
  rcases hz with ez | rfl | rfl
  · exact absurd ez nz
  · exact ⟨⟨trivial, trivial⟩, h _ (.nil rfl)⟩
  · exact ⟨⟨trivial, trivial⟩, h _ (.leaf rfl)⟩
end
section
variable {P : Program} {w : World} {K : PySem.W.Frag} {mg : Str -> Option Value} {base : Heap} {f : Addr} {fd : FuncData}
noncomputable def fnP (nw w : Int) (s : Str) (p : Pt) (es : List D) : Fn := ⟨nm nw p.num, par w p.kinds, s, List.replicate (p.kinds.length + 1) 0, .tup [.str "give", .tup [.str "call", .str (nm nw p.called), .tup es]]⟩
noncomputable def ArgsOk (w : Int) (p : Pt) (es : List D) : Prop := Pair2 (fun e z => PlainE (par w p.kinds) z e) es p.given
noncomputable def tFun : FT := fun ds φ => ∃ (p : Pt) (nw w : Int) (s : Str), ds = [ptD p, .int nw, .int w, .str s] /\ PtW p /\ ∀ es, ArgsOk w p es -> φ (dv (fnD (fnP nw w s p es)))
theorem pair_snoc {α : Type} {R : D -> α -> Prop} {es : List D} {rs : List α} {e : D} {r : α} (h : Pair2 R es rs) (h1 : R e r) : Pair2 R (es ++ [e]) (rs ++ [r]) := by
  refine ⟨by rw [List.length_append, List.length_append, h.1]; rfl, fun i e' c a b => ?_⟩
  have hl := h.1
  rcases Nat.lt_trichotomy i es.length with q | q | q
  · rw [List.getElem?_append_left q] at a
    rw [List.getElem?_append_left (by omega)] at b
    exact h.2 i e' c a b
  · subst q
    rw [List.getElem?_append_right (Nat.le_refl _), Nat.sub_self] at a
    rw [hl, List.getElem?_append_right (Nat.le_refl _), Nat.sub_self] at b
    cases a
    cases b
    exact h1
  · rw [List.getElem?_eq_none (by rw [List.length_append]; exact q)] at a
    cases a
theorem args_pure {w : Int} {p : Pt} {es : List D} (h : ArgsOk w p es) : pureDs es := pureDs_iff.mpr fun d hd => by
  obtain ⟨i, hi⟩ := List.mem_iff_getElem?.mp hd
  have hl := (List.getElem?_eq_some_iff.mp hi).1
  rw [h.1] at hl
  exact (h.2 i d _ hi (List.getElem?_eq_getElem hl)).pure
theorem fd_law_function (T : Tops mg) (F__law_name : FD P w K mg base 1 "_law_name" ["_law_cell", "_law_k"] tName) (F__law_arg : FD P w K mg base 2 "_law_arg" ["_law_kind", "_law_cell", "_law_own", "_law_words"] tArg) (F : Fun K "_law_function" "_law_function" (top 25) f fd) (m : mg "_law_function" = some (.ref f)) : FD P w K mg base 3 "_law_function" ["_law_part", "_law_names", "_law_words", "_law_shape"] tFun := by
  have S : FnScope ["_law_part", "_law_names", "_law_words", "_law_shape", "_law_number", "_law_kinds_here", "_law_called", "_law_cell", "_law_given", "_law_params", "_law_args", "_law_body"] ["_law_part", "_law_names", "_law_words", "_law_shape"] (defScope (top 25)) := ⟨rfl, rfl, rfl, by decide +kernel, rfl, by decide +kernel, by decide +kernel⟩
  refine fd_of F S (F.binds fun _ _ _ _ _ _ us hl => (by obtain ⟨_, _, _, _, rfl⟩ := lenN4 hl; rfl)) m fun cdv A outer s H E ds φ hr hl hT => ?_
  have hu := hr.units
  refine ⟨_, (ss_cons (sd_cut (sd_un (ed_name 0) (pg_lstK (K0 := K) (n := 5) (by rfl) (by rfl) (pgs_cons (pg_name (i := 4) S.nd rfl (by first | exact Or.inl rfl | exact Or.inr rfl)) (pgs_cons (pg_name (i := 5) S.nd rfl (by first | exact Or.inl rfl | exact Or.inr rfl)) (pgs_cons (pg_name (i := 6) S.nd rfl (by first | exact Or.inl rfl | exact Or.inr rfl)) (pgs_cons (pg_name (i := 7) S.nd rfl (by first | exact Or.inl rfl | exact Or.inr rfl)) (pgs_cons (pg_name (i := 8) S.nd rfl (by first | exact Or.inl rfl | exact Or.inr rfl)) pgs_nil)))))) (gl_lst5 4 5 6 7 8)))
      (ss_cons (sd_cut (sd_set 9 S.nd (ed_tupleC T.tuple (ea_cons (ed_compP (T := ["_law_k"]) (F := ["_law_words", "_law_kinds_here"]) (js := [2, 5]) (ei_range1 T.range (ea_cons (ed_len T.len (ea_cons (ed_name 5) ea_nil)) ea_nil)) (show CompScope (defScope (top 25)) _ ["_law_k"] ["_law_words", "_law_kinds_here"] from ⟨rfl, by decide +kernel, by decide +kernel, by decide +kernel, by decide +kernel, by decide +kernel⟩) (.cons rfl (.cons rfl .nil)) (by decide) (fun cl C fp s H => (pg_name (i := 0) (show ((["_law_k"] : List Str) ++ (["_law_words", "_law_kinds_here"] : List Str)).Nodup by decide +kernel) rfl (by first | exact Or.inl rfl | exact Or.inr rfl))) (gk_name (by decide)) (gl_name 0) (fun cl C fp s H => eif_nil) (fun cl C fp s H => (ed_tup (ea_cons (ed_call F__law_name (hr.mono (by decide)) (ea_cons (ed_name 1) (ea_cons (ed_name 0) ea_nil))) (ea_cons (ed_ixx hu (ed_name 2) (ed_name 0)) ea_nil))))) ea_nil))))
      (ss_cons (sd_cut (sd_set 10 S.nd (ed_tupleC T.tuple (ea_cons (ed_compP (T := ["_law_k"]) (F := ["_law_kinds_here", "_law_words", "_law_given", "_law_cell"]) (js := [5, 2, 8, 7]) (ei_range1 T.range (ea_cons (ed_len T.len (ea_cons (ed_name 8) ea_nil)) ea_nil)) (show CompScope (defScope (top 25)) _ ["_law_k"] ["_law_kinds_here", "_law_words", "_law_given", "_law_cell"] from ⟨rfl, by decide +kernel, by decide +kernel, by decide +kernel, by decide +kernel, by decide +kernel⟩) (.cons rfl (.cons rfl (.cons rfl (.cons rfl .nil)))) (by decide) (fun cl C fp s H => (pg_name (i := 0) (show ((["_law_k"] : List Str) ++ (["_law_kinds_here", "_law_words", "_law_given", "_law_cell"] : List Str)).Nodup by decide +kernel) rfl (by first | exact Or.inl rfl | exact Or.inr rfl))) (gk_name (by decide)) (gl_name 0) (fun cl C fp s H => eif_nil) (fun cl C fp s H => (ed_call F__law_arg (hr.mono (by decide)) (ea_cons (ed_ixx hu (ed_name 3) (ed_name 0)) (ea_cons (ed_fd (ed_name 4) (ed_add (ed_mul ed_int (ed_name 0)) ed_int)) (ea_cons (ed_name 1) (ea_cons (ed_name 2) ea_nil))))))) ea_nil))))
      (ss_cons (sd_cut (sd_set 11 S.nd (ed_tup (ea_cons ed_str (ea_cons (ed_tup (ea_cons ed_str (ea_cons (ed_call F__law_name (hr.mono (by decide)) (ea_cons (ed_name 1) (ea_cons (ed_name 6) ea_nil))) (ea_cons (ed_name 10) ea_nil)))) ea_nil)))))
      (ss_one (sd_ret (ed_tup (ea_cons (ed_call F__law_name (hr.mono (by decide)) (ea_cons (ed_name 1) (ea_cons (ed_name 4) ea_nil))) (ea_cons (ed_name 9) (ea_cons (ed_tup (ea_cons (ed_name 3) (ea_cons (ed_tupleC T.tuple (ea_cons (ed_mul (ed_lst (ea_cons ed_int ea_nil)) (ed_add (ed_len T.len (ea_cons (ed_name 5) ea_nil)) ed_int)) ea_nil)) ea_nil))) (ea_cons (ed_name 11) ea_nil))))))))))), ?_⟩
  obtain ⟨p, nw, wd, sh, rfl, hp, h⟩ := hT
  have hk := hp.ks.2.1
  refine cut_seq (fun ρ => ρ = [some (dv (ptD p)), some (dv (.int nw)), some (dv (.int wd)), some (dv (.str sh)), some (dv (.int p.num)), some (dv (lsD p.kinds)), some (dv (.int p.called)), some (dv (.int p.cell)), some (dv (lsD p.given)), none, none, none]) ?_ ?_
  · simp only [ptD]
    walk_at "dl"
  rintro _ rfl
  refine cut_seq (fun ρ => ρ = [some (dv (ptD p)), some (dv (.int nw)), some (dv (.int wd)), some (dv (.str sh)), some (dv (.int p.num)), some (dv (lsD p.kinds)), some (dv (.int p.called)), some (dv (.int p.cell)), some (dv (lsD p.given)), some (dv (.tup ((par wd p.kinds).map prD))), none, none]) ?_ ?_
  · unfold lsD
    walk_at "dl"
    refine dCompP_at (rngD 0 p.kinds.length) (fun ψ hψ => ?_) (fun i es => es = ((par wd p.kinds).take i).map prD) (by rw [rng_len]; omega) rfl ?_ ?_
    · walk_at "dl"
      exact ⟨by omega, by omega, hψ⟩
    · rintro i d es hd hes rfl
      obtain ⟨hi, rfl⟩ := DL.rng_get hd
      have e0 : (0 : Int) + (i : Int) = i := by omega
      rw [e0]
      have hg := List.getElem?_eq_getElem hi
      have ha : atI p.kinds (i : Int) = some p.kinds[i] := atI_of (by omega) (by rw [<- hg]; congr 1)
      simp only [ρ0, List.map_cons, List.map_nil, List.replicate, List.cons_append, List.nil_append]
      walk_at "dl"
      simp only [tName, DL.g2]
      refine ⟨wd, i, rfl, rfl, by omega, ?_⟩
      rw [ha]
      refine ⟨trivial, ?_⟩
      rw [List.take_succ, par_get hg, Option.toList_some, List.map_append]
      rfl
    · rintro es rfl
      rw [rng_len, <- par_len wd p.kinds, List.take_length]
  rintro _ rfl
  refine cut_seq (fun ρ => ∃ es, ArgsOk wd p es /\ ρ = [some (dv (ptD p)), some (dv (.int nw)), some (dv (.int wd)), some (dv (.str sh)), some (dv (.int p.num)), some (dv (lsD p.kinds)), some (dv (.int p.called)), some (dv (.int p.cell)), some (dv (lsD p.given)), some (dv (.tup ((par wd p.kinds).map prD))), some (dv (.tup es)), none]) ?_ ?_
  · have gl := hp.gl
    unfold lsD
    walk_at "dl"
    refine dCompP_at (rngD 0 p.given.length) (fun ψ hψ => ?_) (fun i es => Pair2 (fun e z => PlainE (par wd p.kinds) z e) es (p.given.take i)) (by rw [rng_len]; omega) pair_nil ?_ ?_
    · walk_at "dl"
      exact ⟨by omega, by omega, hψ⟩
    · rintro i d es hd hes ih
      obtain ⟨hi, rfl⟩ := DL.rng_get hd
      have e0 : (0 : Int) + (i : Int) = i := by omega
      rw [e0]
      have hg := List.getElem?_eq_getElem hi
      have ha : atI p.given (i : Int) = some p.given[i] := atI_of (by omega) (by rw [<- hg]; congr 1)
      simp only [ρ0, List.map_cons, List.map_nil, List.replicate, List.cons_append, List.nil_append]
      walk_at "dl"
      rw [ha]
      refine ⟨IntMulOk.of_left (by decide), of_eq_true (fd_lit (by omega) (by omega)), ?_⟩
      refine ⟨p.given[i], _, p.kinds, wd, rfl, hp.gs _ (List.getElem_mem hi), hk, fun e he => ⟨trivial, ?_⟩⟩
      rw [List.take_succ, hg, Option.toList_some]
      exact pair_snoc ih he
    · rintro es ih
      rw [rng_len, List.take_length] at ih
      exact ⟨es, ih, rfl⟩
  rintro _ ⟨es, ha, rfl⟩
  refine cut_seq (fun ρ => ρ = [some (dv (ptD p)), some (dv (.int nw)), some (dv (.int wd)), some (dv (.str sh)), some (dv (.int p.num)), some (dv (lsD p.kinds)), some (dv (.int p.called)), some (dv (.int p.cell)), some (dv (lsD p.given)), some (dv (.tup ((par wd p.kinds).map prD))), some (dv (.tup es)), some (dv (fnP nw wd sh p es).body)]) ?_ ?_
  · walk_at "dl"
    simp only [tName, DL.g2]
    exact ⟨nw, p.called, rfl, rfl, by have := hp.c; omega, trivial, rfl⟩
  rintro _ rfl
  have e1 : ((p.kinds.length : Int) + 1).toNat = p.kinds.length + 1 := by omega
  unfold lsD
  walk_at "dl"
  simp only [tName, DL.g2]
  rw [e1, flat0]
  refine ⟨nw, p.num, rfl, rfl, by have := hp.n; omega, by omega, by omega, by rw [sizeLine_eq]; omega, trivial, ⟨trivial, pure_prs _, ?_, trivial, ⟨trivial, trivial, args_pure ha, trivial⟩, trivial⟩, h es ha⟩
  exact pureDs_iff.mpr fun d hd => by
    obtain ⟨n, _, rfl⟩ := List.mem_map.mp hd
    exact trivial
end
section
variable {P : Program} {w : World} {K : PySem.W.Frag} {mg : Str -> Option Value} {base : Heap} {f : Addr} {fd : FuncData}
structure Due (ps : List Pt) : Prop where
  lo : 1 <= ps.length
  hi : ps.length <= 8
  nd : (ps.map Pt.num).Nodup
  al : ∀ p ∈ ps, ∃ q ∈ ps, q.num = p.called /\ q.kinds = p.given
noncomputable def tDue : FT := g1 fun d φ => ∃ ps : List Pt, d = .lst (ps.map ptD) /\ (∀ p ∈ ps, PtW p) /\ ps.length <= 100 /\ ∀ b : Bool, (b = true ↔ Due ps) -> φ (dv (.bl b))
theorem eqDs_str : ∀ a b : List Str, eqDs (a.map D.str) (b.map D.str) = decide (a = b)
  | [], [] => rfl
  | [], _ :: _ => rfl
  | _ :: _, [] => rfl
  | x :: a, y :: b => by
    rw [List.map_cons, List.map_cons, eqDs, eqDs_str a b]
    simp only [eqD]
    by_cases e : x = y <;> simp [e]
noncomputable def kk (ps : List Pt) : List Key := ps.map fun p => Sum.inl (p.num : Int)
noncomputable def kv (ps : List Pt) : List D := ps.map fun p => lsD p.kinds
noncomputable def wtD (ps : List Pt) : D := .dk (kk ps) (kv ps)
theorem kk_len (ps : List Pt) : (kk ps).length = (kv ps).length := by unfold kk kv; rw [List.length_map, List.length_map]
theorem mem_kk {n : Nat} {ps : List Pt} : (Sum.inl (n : Int) : Key) ∈ kk ps ↔ ∃ p ∈ ps, p.num = n := by
  unfold kk
  rw [List.mem_map]
  constructor
  · rintro ⟨p, hp, e⟩
    have : (p.num : Int) = n := Sum.inl.inj e
    exact ⟨p, hp, by omega⟩
  · rintro ⟨p, hp, e⟩
    exact ⟨p, hp, by rw [e]⟩
theorem kput_no {ks : List Key} {k : Key} (h : k ∉ ks) : kput ks k = ks ++ [k] := by
  unfold kput
  rw [if_neg h]
theorem look_kk {n : Nat} : ∀ {ps : List Pt}, (∃ p ∈ ps, p.num = n) -> ∃ p ∈ ps, p.num = n /\ lookA (kk ps) (kv ps) (Sum.inl (n : Int)) = some (lsD p.kinds)
  | [], h => by obtain ⟨p, hp, _⟩ := h; cases hp
  | p :: r, h => by
    show ∃ q ∈ p :: r, q.num = n /\ (if (Sum.inl (p.num : Int) : Key) = Sum.inl (n : Int) then some (lsD p.kinds) else lookA (kk r) (kv r) (Sum.inl (n : Int))) = some (lsD q.kinds)
    by_cases e : p.num = n
    · exact ⟨p, List.mem_cons_self, e, by rw [e, if_pos rfl]⟩
    · obtain ⟨q, hq, e2⟩ := h
      rcases List.mem_cons.mp hq with rfl | hq
      · exact absurd e2 e
      obtain ⟨q', hq', e3, e4⟩ := look_kk ⟨q, hq, e2⟩
      refine ⟨q', List.mem_cons_of_mem _ hq', e3, ?_⟩
      rw [if_neg (fun z => e (by have : (p.num : Int) = n := Sum.inl.inj z; omega))]
      exact e4
theorem num_inj : ∀ {ps : List Pt} {p q : Pt}, (ps.map Pt.num).Nodup -> p ∈ ps -> q ∈ ps -> p.num = q.num -> p = q
  | [], _, _, _, h, _, _ => by cases h
  | a :: r, p, q, nd, hp, hq, e => by
    rw [List.map_cons, List.nodup_cons] at nd
    rcases List.mem_cons.mp hp with e1 | hp1
    · rcases List.mem_cons.mp hq with e2 | hq1
      · rw [e1, e2]
      · exact absurd (List.mem_map.mpr ⟨q, hq1, by rw [<- e, e1]⟩) nd.1
    · rcases List.mem_cons.mp hq with e2 | hq1
      · exact absurd (List.mem_map.mpr ⟨p, hp1, by rw [e, e2]⟩) nd.1
      · exact num_inj nd.2 hp1 hq1 e
theorem fd_law_due (T : Tops mg) (F : Fun K "_law_due" "_law_due" (top 24) f fd) (m : mg "_law_due" = some (.ref f)) : FD P w K mg base 1 "_law_due" ["_law_parts_here"] tDue := by
  have S : FnScope ["_law_parts_here", "_law_wanted", "_law_number", "_law_kinds_here", "_law_called", "_law_cell", "_law_given"] ["_law_parts_here"] (defScope (top 24)) := ⟨rfl, rfl, rfl, by decide +kernel, rfl, by decide +kernel, by decide +kernel⟩
  refine fd_of F S (F.binds fun _ _ _ _ _ _ us hl => (by obtain ⟨_, rfl⟩ := lenN1 hl; rfl)) m fun cdv A outer s H E ds φ hr hl hT => ?_
  have hu := hr.units
  refine ⟨_, (ss_cons (sd_cut (sd_if (et_not (et_leLe ed_int (ed_len T.len (ea_cons (ed_name 0) ea_nil)) ed_int)) (ss_one (sd_ret ed_bl)) ss_nil))
      (ss_cons (sd_cut (sd_set 1 S.nd ed_dict0))
      (ss_cons (sd_cut (sd_for (ei_seq (ed_name 0)) (pg_lstK (K0 := K) (n := 5) (by rfl) (by rfl) (pgs_cons (pg_name (i := 2) S.nd rfl (by first | exact Or.inl rfl | exact Or.inr rfl)) (pgs_cons (pg_name (i := 3) S.nd rfl (by first | exact Or.inl rfl | exact Or.inr rfl)) (pgs_cons (pg_name (i := 4) S.nd rfl (by first | exact Or.inl rfl | exact Or.inr rfl)) (pgs_cons (pg_name (i := 5) S.nd rfl (by first | exact Or.inl rfl | exact Or.inr rfl)) (pgs_cons (pg_name (i := 6) S.nd rfl (by first | exact Or.inl rfl | exact Or.inr rfl)) pgs_nil)))))) (gl_lst5 2 3 4 5 6) (ss_cons (sd_if (et_in hu (ed_name 2) (ed_name 1)) (ss_one (sd_ret ed_bl)) ss_nil)
        (ss_one (sd_dput 1 hu (ed_name 2) (ed_name 3))))))
      (ss_cons (sd_cut (sd_for (ei_seq (ed_name 0)) (pg_lstK (K0 := K) (n := 5) (by rfl) (by rfl) (pgs_cons (pg_name (i := 2) S.nd rfl (by first | exact Or.inl rfl | exact Or.inr rfl)) (pgs_cons (pg_name (i := 3) S.nd rfl (by first | exact Or.inl rfl | exact Or.inr rfl)) (pgs_cons (pg_name (i := 4) S.nd rfl (by first | exact Or.inl rfl | exact Or.inr rfl)) (pgs_cons (pg_name (i := 5) S.nd rfl (by first | exact Or.inl rfl | exact Or.inr rfl)) (pgs_cons (pg_name (i := 6) S.nd rfl (by first | exact Or.inl rfl | exact Or.inr rfl)) pgs_nil)))))) (gl_lst5 2 3 4 5 6) (ss_one (sd_if (EW.et (ew_or (et_notin hu (ed_name 4) (ed_name 1)) (ew_or1 (et_ne hu (ed_ixx hu (ed_name 1) (ed_name 4)) (ed_name 6))))) (ss_one (sd_ret ed_bl)) ss_nil))))
      (ss_one (sd_ret ed_bl)))))), ?_⟩
  obtain ⟨d, rfl, ps, rfl, hw, hl, h⟩ := f1_of hT
  have hF : ¬ Due ps -> φ (dv (.bl false)) := fun q => h false ⟨fun y => (nomatch y), fun y => absurd y q⟩
  refine cut_seq (fun ρ => ρ = [some (dv (.lst (ps.map ptD))), none, none, none, none, none, none] /\ 1 <= ps.length /\ ps.length <= 8) ?_ ?_
  · walk_at "dl"
    exact ⟨fun q1 => ⟨fun q => hF fun y => q (by have := y.hi; omega), fun q => ⟨by omega, by omega⟩⟩, fun q => hF fun y => q (by have := y.lo; omega)⟩
  rintro _ ⟨rfl, lo, hi⟩
  refine cut_seq (fun ρ => ρ = [some (dv (.lst (ps.map ptD))), some (dO (wtD [])), none, none, none, none, none]) ?_ ?_
  · walk_at "dl"
    rfl
  rintro _ rfl
  refine cut_seq (fun ρ => (ps.map Pt.num).Nodup /\ ∃ a b c d e, ρ = [some (dv (.lst (ps.map ptD))), some (dO (wtD ps)), a, b, c, d, e]) ?_ ?_
  · refine sFor_at (ps.map ptD) (fun ψ hψ => ?_) (fun i ρ => ((ps.take i).map Pt.num).Nodup /\ ∃ a b c d e, ρ = [some (dv (.lst (ps.map ptD))), some (dO (wtD (ps.take i))), a, b, c, d, e]) ⟨List.nodup_nil, none, none, none, none, none, rfl⟩ ?_ ?_
    · walk_at "dl"
      exact hψ
    · rintro i d _ hd ⟨nd, a, b, c, e, f, rfl⟩
      rw [List.getElem?_map] at hd
      obtain ⟨p, hp, rfl⟩ := Option.map_eq_some_iff.mp hd
      simp only [ptD, wtD]
      walk_at "dl"
      refine ⟨fun q => ?_, fun q => ?_⟩
      · have q' := of_decide_eq_true ((if_neg (by simp)).symm.trans q)
        obtain ⟨p', hp', e'⟩ := mem_kk.mp q'
        refine hF fun y => ?_
        have z := y.nd
        rw [<- List.take_append_drop i ps, List.map_append, List.nodup_append] at z
        refine z.2.2 _ (List.mem_map.mpr ⟨p', hp', rfl⟩) p.num (List.mem_map.mpr ⟨p, ?_, rfl⟩) e'
        exact List.mem_iff_getElem?.mpr ⟨0, by rw [List.getElem?_drop]; exact hp⟩
      · have q' := of_decide_eq_false ((if_neg (by simp)).symm.trans q)
        have e1 : ps.take (i + 1) = ps.take i ++ [p] := by rw [List.take_succ, hp]; rfl
        have ek : kput (kk (ps.take i)) (Sum.inl (p.num : Int)) = kk (ps.take (i + 1)) := by
          rw [kput_no q', e1]
          simp only [kk, List.map_append]
          rfl
        have ev : dput (kk (ps.take i)) (kv (ps.take i)) (Sum.inl (p.num : Int)) (lsD p.kinds) = kv (ps.take (i + 1)) := by
          rw [dput_new (kk_len _) q', e1]
          simp only [kv, List.map_append]
          rfl
        rw [ek, ev]
        refine ⟨by unfold kv; rw [List.length_map, List.length_take]; omega, ?_, _, _, _, _, _, rfl⟩
        · rw [e1, List.map_append, List.nodup_append]
          refine ⟨nd, by simp, fun x hx y hy e => ?_⟩
          obtain ⟨p', hp', rfl⟩ := List.mem_map.mp hx
          rw [List.map_cons, List.map_nil] at hy
          exact q' (mem_kk.mpr ⟨p', hp', e.trans (List.mem_singleton.mp hy)⟩)
    · rintro ρ ⟨nd, a, b, c, d, e, rfl⟩
      rw [List.length_map, List.take_length] at nd ⊢
      exact ⟨nd, a, b, c, d, e, rfl⟩
  rintro _ ⟨nd, a, b, c, d, e, rfl⟩
  refine cut_seq (fun ρ => (∀ p ∈ ps, ∃ q ∈ ps, q.num = p.called /\ q.kinds = p.given) /\ ∃ a b c d e, ρ = [some (dv (.lst (ps.map ptD))), some (dO (wtD ps)), a, b, c, d, e]) ?_ ?_
  · refine sFor_at (ps.map ptD) (fun ψ hψ => ?_) (fun i ρ => (∀ p ∈ ps.take i, ∃ q ∈ ps, q.num = p.called /\ q.kinds = p.given) /\ ∃ a b c d e, ρ = [some (dv (.lst (ps.map ptD))), some (dO (wtD ps)), a, b, c, d, e]) ⟨(fun p hp => by cases hp), _, _, _, _, _, rfl⟩ ?_ ?_
    · walk_at "dl"
      exact hψ
    · rintro i d _ hd ⟨al, a, b, c, e, f, rfl⟩
      rw [List.getElem?_map] at hd
      obtain ⟨p, hp, rfl⟩ := Option.map_eq_some_iff.mp hd
      simp only [ptD, wtD]
      walk_at "dl"
      have bad : ¬ (∃ q ∈ ps, q.num = p.called /\ q.kinds = p.given) -> φ (dv (.bl false)) := fun q => hF fun y => q (y.al p (List.mem_of_getElem? hp))
      refine ⟨fun q => ?_, fun q => ?_⟩
      · have q' := (if_pos (by simp)).symm.trans q
        have q2 : (Sum.inl (p.called : Int) : Key) ∉ kk ps := by simpa using q'
        exact bad fun ⟨x, hx, e, _⟩ => q2 (mem_kk.mpr ⟨x, hx, e⟩)
      · have q' := (if_pos (by simp)).symm.trans q
        have q2 : (Sum.inl (p.called : Int) : Key) ∈ kk ps := by simpa using q'
        obtain ⟨x, hx, e, el⟩ := look_kk (mem_kk.mp q2)
        rw [el]
        have eq1 : eqD (lsD x.kinds) (lsD p.given) = decide (x.kinds = p.given) := eqDs_str _ _
        refine ⟨ok_strs _, ok_strs _, fun y => bad fun ⟨z, hz, e2, e3⟩ => ?_, fun y => ⟨?_, _, _, _, _, _, rfl⟩⟩
        · rw [eq1] at y
          have := num_inj nd hx hz (e.trans e2.symm)
          subst this
          exact of_decide_eq_false y e3
        · rw [eq1] at y
          have e4 : ps.take (i + 1) = ps.take i ++ [p] := by rw [List.take_succ, hp]; rfl
          rw [e4]
          intro p' hp'
          rcases List.mem_append.mp hp' with hp' | hp'
          · exact al p' hp'
          · rw [List.mem_singleton.mp hp']
            exact ⟨x, hx, e, of_decide_eq_true y⟩
    · rintro ρ ⟨al, a, b, c, d, e, rfl⟩
      rw [List.length_map, List.take_length] at al
      exact ⟨al, a, b, c, d, e, rfl⟩
  rintro _ ⟨al, a, b, c, d, e, rfl⟩
  walk_at "dl"
  exact h true ⟨fun _ => ⟨lo, hi, nd, al⟩, fun _ => rfl⟩
end
section
variable {P : Program} {w : World} {K : PySem.W.Frag} {mg : Str -> Option Value} {base : Heap} {f : Addr} {fd : FuncData}
noncomputable def pt4D (p : Pt) : D := .lst [.int p.num, lsD p.kinds, .int p.called, .int p.cell]
structure Pt4 (n : Nat) (p : Pt) : Prop where
  nn : p.num <= 10
  ks : Kds p.kinds
  c : p.called < n
noncomputable def gvn (ps : List Pt) (p : Pt) : List Str := match ps[p.called]? with
  | some q => q.kinds
  | none => []
noncomputable def fil (ps : List Pt) (p : Pt) : Pt := { p with given := gvn ps p }
noncomputable def mix (ps : List Pt) (j : Nat) : List D := (ps.take j).map (fun p => ptD (fil ps p)) ++ (ps.drop j).map pt4D
noncomputable def tParts : FTZ := fun ds φ => ∃ (ns : List Int) (n : Nat), ds = [.scr ns, .int n] /\ n <= 10 /\ ∀ ps : List Pt, ps.length <= 10 -> (∀ p ∈ ps, PtS p) -> φ (.lst (ps.map ptD))
theorem mix_at {ps : List Pt} {j : Nat} {p : Pt} (h : ps[j]? = some p) : (mix ps j)[j]? = some (pt4D p) := by
  have hj := (List.getElem?_eq_some_iff.mp h).1
  unfold mix
  rw [List.getElem?_append_right (by rw [List.length_map, List.length_take]; omega), List.length_map, List.length_take, Nat.min_eq_left (by omega), Nat.sub_self, List.getElem?_map, List.getElem?_drop]
  show Option.map pt4D ps[j]? = _
  rw [h]
  rfl
theorem mix_set {ps : List Pt} {j : Nat} {p : Pt} (h : ps[j]? = some p) : (mix ps j).set j (ptD (fil ps p)) = mix ps (j + 1) := by
  have hj := (List.getElem?_eq_some_iff.mp h).1
  unfold mix
  have l1 : ((ps.take j).map (fun p => ptD (fil ps p))).length = j := by rw [List.length_map, List.length_take]; omega
  rw [List.set_append_right _ _ (by rw [l1]; exact Nat.le_refl _), l1, Nat.sub_self, List.take_succ, h, Option.toList_some, List.map_append, List.append_assoc]
  congr 1
  have : ps.drop j = p :: ps.drop (j + 1) := by
    rw [List.drop_eq_getElem_cons hj]
    rw [List.getElem?_eq_getElem hj] at h
    cases h
    rfl
  rw [this]
  rfl
theorem at1 (a b : D) (r : List D) : atI (a :: b :: r) (1 : Int) = some b := atI_of (by decide) rfl
theorem mix_any {ps : List Pt} {j c : Nat} {q : Pt} (h : ps[c]? = some q) : ∃ es r, (mix ps j)[c]? = some (.lst (es :: lsD q.kinds :: r)) := by
  have hc := (List.getElem?_eq_some_iff.mp h).1
  unfold mix
  rcases Nat.lt_or_ge c j with z | z
  · rw [List.getElem?_append_left (by rw [List.length_map, List.length_take]; omega), List.getElem?_map, List.getElem?_take_of_lt z, h]
    exact ⟨_, _, rfl⟩
  · rw [List.getElem?_append_right (by rw [List.length_map, List.length_take]; omega), List.length_map, List.length_take, List.getElem?_map, List.getElem?_drop, show j + (c - min j ps.length) = c from by omega, h]
    exact ⟨_, _, rfl⟩
theorem fz_parts (T : Tops mg) (F__law_cell_at : FD P w K mg base 1 "_law_cell_at" ["_law_script", "_law_k"] tCellM) (F__law_kinds : FD P w K mg base 1 "_law_kinds" ["_law_cell"] tKinds) (F : Fun K "_law_parts" "_law_parts" (top 22) f fd) (m : mg "_law_parts" = some (.ref f)) : FZ P w K mg base 2 "_law_parts" ["_law_script", "_law_many"] tParts := by
  have S : FnScope ["_law_script", "_law_many", "_law_parts_here", "_law_k", "_law_cell", "_law_part"] ["_law_script", "_law_many"] (defScope (top 22)) := ⟨rfl, rfl, rfl, by decide +kernel, rfl, by decide +kernel, by decide +kernel⟩
  refine fz_of (l := 2) F S (F.binds fun _ _ _ _ _ _ us hl => (by obtain ⟨_, _, rfl⟩ := lenN2 hl; rfl)) m rfl rfl (by decide) (by first | exact Or.inl rfl | exact Or.inr rfl) (by first | exact Or.inl rfl | exact Or.inr (Or.inl rfl) | exact Or.inr (Or.inr rfl)) (by decide) (by decide) fun cdv A outer s H E ds φ hr hl hT => ?_
  have hu := hr.units
  obtain ⟨ns, n, rfl, hn, h⟩ := hT
  refine ⟨_, _, (qs_forR 3 (by decide) T.range (ed_name 1) (pg_name (i := 3) S.nd rfl (by first | exact Or.inl rfl | exact Or.inr rfl)) (qs_cons (qs_set 4 (by decide) S.nd (ed_call F__law_cell_at (hr.mono (by decide)) (ea_cons (ed_name 0) (ea_cons (ed_add ed_int (ed_mul ed_int (ed_name 3))) ea_nil)))) (qs_one (qs_papp ep_name (ef_lst (efs_cons (ef_ed (ed_name 3)) (efs_cons (ef_ed (ed_call F__law_kinds (hr.mono (by decide)) (ea_cons (ed_name 4) ea_nil))) (efs_cons (ef_ed (ed_mod (ed_fd (ed_name 4) ed_int) (ed_name 1))) (efs_cons (ef_ed (ed_call F__law_cell_at (hr.mono (by decide)) (ea_cons (ed_name 0) (ea_cons (ed_add ed_int (ed_mul ed_int (ed_name 3))) ea_nil)))) efs_nil))))))))), (qs_forApp 5 (by decide) (hgt := (pg_name (i := 5) S.nd rfl (by first | exact Or.inl rfl | exact Or.inr rfl))) (he := (ed_listC T.list (ea_cons (ed_ixx hu (ed_ixx hu (ed_name 2) (ed_ixx hu (ed_name 5) ed_int)) ed_int) ea_nil)))), ?_⟩
  unfold qForR
  walk_at "dl"
  refine ⟨n, rfl, by omega, fun j ρ => ∃ (x y : Option EV) (ps : List Pt), ps.length = j /\ (∀ p ∈ ps, Pt4 n p) /\ ρ = [some (dv (.scr ns)), some (dv (.int n)), some (dv (.lst (ps.map pt4D))), x, y, none], ⟨none, none, [], rfl, (fun p hp => by cases hp), rfl⟩, ?_, ?_⟩
  · rintro j _ hj ⟨x, y, ps, hl, hp, rfl⟩
    walk_at "dl"
    simp only [tCellM, DL.g2]
    refine ⟨IntMulOk.of_left (by decide), ns, 4 + 2 * j, rfl, by congr 1, fun c c0 c1 => ⟨trivial, _, _, rfl, rfl, by rw [List.length_map]; omega, trivial, ?_⟩⟩
    have mn := mod_bd (c.fdiv 324) n (by omega)
    refine ⟨c, rfl, fun ks hk => ⟨pure_strs ks, of_eq_true (fd_lit (by decide) (by decide)), by omega, trivial, IntMulOk.of_left (by decide), ns, 5 + 2 * j, rfl, by congr 1, fun c2 _ _ => ⟨trivial, some (dv (.int j)), some (dv (.int c)), ps ++ [⟨j, ks, ((c.fdiv 324).fmod n).toNat, c2, []⟩], by rw [List.length_append, hl]; rfl, fun p hp' => ?_, ?_⟩⟩⟩
    · rcases List.mem_append.mp hp' with hp' | hp'
      · exact hp p hp'
      · rw [List.mem_singleton.mp hp']
        exact ⟨by show j <= 10; omega, hk, by show ((c.fdiv 324).fmod n).toNat < n; omega⟩
    · rw [List.map_append]
      have e : (((c.fdiv 324).fmod (n : Int)).toNat : Int) = (c.fdiv 324).fmod n := by omega
      simp only [putP, List.map_cons, List.map_nil, pt4D, e]
  rintro _ ⟨x, y, ps, hl, hp, rfl⟩
  refine ⟨by simp, ps.map pt4D, rfl, fun j ds => ds = mix ps j, ?_, ?_, ?_⟩
  · unfold mix
    simp
  · rintro j _ hj hl' rfl
    rw [List.length_map] at hj
    have hg := List.getElem?_eq_getElem hj
    refine ⟨_, mix_at hg, by simp, ?_⟩
    have hp' := hp _ (List.getElem_mem hj)
    have hcl : ps[j].called < ps.length := by have := hp'.c; omega
    obtain ⟨q, hq⟩ : ∃ q, ps[ps[j].called]? = some q := ⟨ps[ps[j].called], List.getElem?_eq_getElem hcl⟩
    obtain ⟨e1, r1, eq1⟩ := mix_any (j := j) hq
    have ha : atI (mix ps j) (ps[j].called : Int) = some (.lst (e1 :: lsD q.kinds :: r1)) := atI_of (by omega) (by rw [<- eq1]; congr 1)
    walk_at "dl"
    rw [ha]
    simp only [at1, lsD]
    refine ⟨pure_strs _, ?_⟩
    rw [<- mix_set hg]
    have eg : gvn ps ps[j] = q.kinds := by unfold gvn; rw [hq]
    unfold ptD fil
    rw [eg]
    rfl
  rintro _ rfl hl'
  refine ⟨_, rfl, ?_⟩
  have e : mix ps (ps.map pt4D).length = (ps.map (fil ps)).map ptD := by
    unfold mix
    rw [List.length_map, List.take_length, List.drop_length, List.map_map]
    simp
  rw [e]
  refine h _ (by rw [List.length_map]; omega) fun p hp' => ?_
  obtain ⟨p0, hp0, rfl⟩ := List.mem_map.mp hp'
  have q0 := hp p0 hp0
  obtain ⟨q, hq⟩ : ∃ q, ps[p0.called]? = some q := ⟨_, List.getElem?_eq_getElem (by have := q0.c; omega)⟩
  have eg : gvn ps p0 = q.kinds := by unfold gvn; rw [hq]
  refine ⟨q0.nn, q0.ks, by have := q0.c; show p0.called <= 10; omega, ?_⟩
  show Kds (gvn ps p0)
  rw [eg]
  exact (hp q (List.mem_of_getElem? hq)).ks
end
section
variable {P : Program} {w : World} {K : PySem.W.Frag} {mg : Str -> Option Value} {base : Heap} {f : Addr} {fd : FuncData}
noncomputable def tSpoil : FTR := fun d ds φ => ∃ (ps : List Pt) (c : Int), d = .lst (ps.map ptD) /\ ds = [.int c] /\ ps.length <= 10 /\ (∀ p ∈ ps, PtS p) /\ ∀ qs : List Pt, qs.length <= 10 -> (∀ p ∈ qs, PtW p) -> φ (.lst (qs.map ptD))
theorem pts_w {p : Pt} (h : PtS p) : PtW p := ⟨h.n, h.ks, h.c, by have := h.gv.2.1; omega, h.gv.2.2⟩
theorem ok_parts (ps : List Pt) : okD 40 (D.lst (ps.map ptD)) := by
  rw [okD_lst (by decide)]
  intro x hx
  obtain ⟨p, _, rfl⟩ := List.mem_map.mp hx
  unfold ptD
  rw [okD_lst (by decide)]
  intro y hy
  have st : ∀ ks : List Str, okD 38 (lsD ks) := fun ks => by
    unfold lsD
    rw [okD_lst (by decide)]
    intro z hz
    obtain ⟨w, _, rfl⟩ := List.mem_map.mp hz
    rw [okD_str]
    trivial
  simp only [List.mem_cons, List.not_mem_nil, or_false] at hy
  rcases hy with rfl | rfl | rfl | rfl | rfl
  · rw [okD_int]; trivial
  · exact st _
  · rw [okD_int]; trivial
  · rw [okD_int]; trivial
  · exact st _
theorem set_w {ps : List Pt} {i : Nat} {q : Pt} (h : ∀ p ∈ ps, PtW p) (hq : PtW q) : ∀ p ∈ ps.set i q, PtW p := fun p hp => by
  rcases List.mem_or_eq_of_mem_set hp with hp | rfl
  · exact h p hp
  · exact hq
theorem put1 {ps : List Pt} {i : Nat} {p : Pt} {e : D} (h : ps[i]? = some p) : putP [i] (.lst (ps.map ptD)) e = .lst ((ps.map ptD).set i e) := by
  show (match (ps.map ptD)[i]? with | some d => D.lst ((ps.map ptD).set i (putP [] d e)) | none => .lst (ps.map ptD)) = _
  rw [List.getElem?_map, h]
  rfl
theorem put2 {ps : List Pt} {i : Nat} {p : Pt} {e : D} (h : ps[i]? = some p) : putP [i, 4] (.lst (ps.map ptD)) e = .lst ((ps.map ptD).set i (.lst [.int p.num, lsD p.kinds, .int p.called, .int p.cell, e])) := by
  show (match (ps.map ptD)[i]? with | some d => D.lst ((ps.map ptD).set i (putP [4] d e)) | none => .lst (ps.map ptD)) = _
  rw [List.getElem?_map, h]
  rfl
theorem at_1 {ps : List Pt} {i : Nat} {p : Pt} (h : ps[i]? = some p) : atP [i] (.lst (ps.map ptD)) = some (.lst [.int p.num, lsD p.kinds, .int p.called, .int p.cell, lsD p.given]) := by
  show (match (ps.map ptD)[i]? with | some d => atP [] d | none => none) = _
  rw [List.getElem?_map, h]
  rfl
theorem at_2 {ps : List Pt} {i : Nat} {p : Pt} (h : ps[i]? = some p) : atP [i, 4] (.lst (ps.map ptD)) = some (.lst (p.given.map D.str)) := by
  show (match (ps.map ptD)[i]? with | some d => atP [4] d | none => none) = _
  rw [List.getElem?_map, h]
  rfl
theorem ixN_of {n j : Nat} {i : Int} (e : i = j) (h : j < n) : ixN n i = some j := by
  unfold ixN
  rw [if_pos (by omega), if_pos (by omega), e]
  congr 1
theorem set_map {ps : List Pt} {i : Nat} (q : Pt) : D.lst ((ps.map ptD).set i (ptD q)) = .lst ((ps.set i q).map ptD) := by rw [List.map_set]
theorem at_4 {ps : List Pt} {i : Nat} {p : Pt} (h : ps[i]? = some p) : atI ps (i : Int) = some p := atI_of (by omega) (by
  rw [show ((i : Int)).toNat = i from by omega, h])
theorem at4 (a b c d e : D) : atI [a, b, c, d, e] (4 : Int) = some e := atI_of (by decide) rfl
theorem cut_w {ps : List Pt} (h : ∀ p ∈ ps, PtW p) (a b : Nat) : ∀ p ∈ ps.take a ++ ps.drop b, PtW p := fun p hp => by
  rcases List.mem_append.mp hp with hp | hp
  · exact h p (List.mem_of_mem_take hp)
  · exact h p (List.mem_of_mem_drop hp)
theorem fr_spoiled (T : Tops mg) (F : Fun K "_law_spoiled" "_law_spoiled" (top 23) f fd) (m : mg "_law_spoiled" = some (.ref f)) : FR P w K mg base 1 "_law_spoiled" ["_law_parts_here", "_law_cell"] tSpoil := by
  have S : FnScope ["_law_parts_here", "_law_cell", "_law_way", "_law_at", "_law_j"] ["_law_parts_here", "_law_cell"] (defScope (top 23)) := ⟨rfl, rfl, rfl, by decide +kernel, rfl, by decide +kernel, by decide +kernel⟩
  refine fr_of F S (F.binds fun _ _ _ _ _ _ us hl => (by obtain ⟨_, _, rfl⟩ := lenN2 hl; rfl)) m fun cdv A outer s H E d ds φ hr hl hT => ?_
  have hu := hr.units
  obtain ⟨ps, c, rfl, rfl, hl, hp, h⟩ := hT
  refine ⟨_, (rs_cons (rs_cutJ (rs_qs (qs_set 2 (by decide) S.nd (ed_mod (ed_name 1) ed_int))))
        (rs_cons (rs_cutJ (rs_qs (qs_setQ 3 (by decide) S.nd (eq_ed (ed_mod (ed_fd (ed_name 1) ed_int) (ed_max2 T.max (ea_cons ed_int (ea_cons (ed_len T.len (ea_cons (ed_name 0) ea_nil)) ea_nil))))))))
        (rs_cons (rs_cutJ (rs_if (qt_et (EW.et (ew_or (et_eq hu (ed_name 0) (ed_lst ea_nil)) (ew_or1 (et_lt (ed_name 2) ed_int))))) (rs_one rs_ret) rs_nil))
        (rs_cons (rs_cutJ (rs_if (qt_et (et_eq hu (ed_name 2) ed_int)) (rs_one (rs_cut eo_none (eo_some (ed_name 3)) (eo_some (ed_add (ed_name 3) ed_int)) eo_none)) rs_nil))
        (rs_cons (rs_cutJ (rs_if (qt_et (et_eq hu (ed_name 2) ed_int)) (rs_one (rs_qs (qs_pput (ep_ix ep_name (ed_name 3)) ed_int (ed_mod (ed_fd (ed_name 1) ed_int) (ed_len T.len (ea_cons (ed_name 0) ea_nil)))))) rs_nil))
        (rs_cons (rs_cutJ (rs_if (qt_et (et_eq hu (ed_name 2) ed_int)) (rs_cons (rs_qs (qs_setQ 4 (by decide) S.nd (eq_ed (ed_mod (ed_fd (ed_name 1) ed_int) (ed_len T.len (ea_cons (ed_ixx hu (ed_ixx hu (ed_name 0) (ed_name 3)) ed_int) ea_nil))))))
        (rs_one (rs_qs (qs_pput (ep_ix (ep_ix ep_name (ed_name 3)) ed_int) (ed_name 4) (ed_ixx hu (ed_lst (ea_cons ed_str (ea_cons ed_str (ea_cons ed_str ea_nil)))) (ed_mod (ed_fd (ed_name 1) ed_int) ed_int)))))) rs_nil))
        (rs_cons (rs_cutJ (rs_if (qt_et (et_eq hu (ed_name 2) ed_int)) (rs_one (rs_qs (qs_ppop (ep_ix (ep_ix ep_name (ed_name 3)) ed_int)))) rs_nil))
        (rs_cons (rs_cutJ (rs_if (qt_et (et_eq hu (ed_name 2) ed_int)) (rs_one (rs_qs (qs_papp (ep_ix (ep_ix ep_name (ed_name 3)) ed_int) (ef_ed ed_str)))) rs_nil))
        (rs_one rs_ret))))))))), ?_⟩
  have hw : ∀ p ∈ ps, PtW p := fun p q => pts_w (hp p q)
  refine qcut_seq (fun ρ => ρ = [some (dv (.lst (ps.map ptD))), some (dv (.int c)), some (dv (.int (c.fmod 8))), none, none]) ?_ ?_
  · walk_at "dl"
  rintro _ rfl
  refine qcut_seq (fun ρ => ∃ at_ : Int, 0 <= at_ /\ (ps ≠ [] -> at_ < ps.length) /\ ρ = [some (dv (.lst (ps.map ptD))), some (dv (.int c)), some (dv (.int (c.fmod 8))), some (dv (.int at_)), none]) ?_ ?_
  · walk_at "dl"
    have mm := mod_bd (c.fdiv 8) (if (ps.length : Int) > 1 then (ps.length : Int) else 1) (by split <;> omega)
    refine ⟨of_eq_true (fd_lit (by decide) (by decide)), by split <;> omega, _, mm.1, fun ne => ?_, rfl⟩
    have := List.length_pos_iff.mpr ne
    split at mm
    · rw [if_pos (by assumption)]; omega
    · rw [if_neg (by assumption)]; omega
  rintro _ ⟨at_, a0, a1, rfl⟩
  refine qcut_seq (fun ρ => ps ≠ [] /\ ρ = [some (dv (.lst (ps.map ptD))), some (dv (.int c)), some (dv (.int (c.fmod 8))), some (dv (.int at_)), none]) ?_ ?_
  · walk_at "dl"
    have eN : eqD (.lst (ps.map ptD)) (.lst []) = decide (ps = []) := by cases ps <;> rfl
    rw [eN]
    refine ⟨ok_parts ps, of_eq_true (by rw [okD_lst (by decide)]; simp), fun _ => ⟨_, rfl, h ps hl hw⟩, fun q => ⟨fun _ => ⟨_, rfl, h ps hl hw⟩, fun _ => of_decide_eq_false q⟩⟩
  rintro _ ⟨ne, rfl⟩
  have al := a1 ne
  obtain ⟨i, ei⟩ : ∃ i : Nat, at_ = i := ⟨at_.toNat, by omega⟩
  subst ei
  have il : i < ps.length := by omega
  obtain ⟨p, hpi⟩ : ∃ p, ps[i]? = some p := ⟨_, List.getElem?_eq_getElem il⟩
  have hpS := hp p (List.mem_of_getElem? hpi)
  have gp := hpS.gv
  refine qcut_seq (fun ρ => ρ = [some (dv (.lst (ps.map ptD))), some (dv (.int c)), some (dv (.int (c.fmod 8))), some (dv (.int i)), none]) ?_ ?_
  · walk_at "dl"
    refine fun _ => ⟨_, rfl, by rw [List.length_map]; omega, ?_⟩
    rw [cutD_take, show ((i : Int) + 1) = ((i + 1 : Nat) : Int) from by omega, cutD_drop, <- List.map_take, <- List.map_drop, <- List.map_append]
    exact h _ (by rw [List.length_append, List.length_take, List.length_drop]; omega) (cut_w hw _ _)
  rintro _ rfl
  have hpW := pts_w hpS
  refine qcut_seq (fun ρ => ((c.fmod 8 ≠ 4) /\ ρ = [some (dv (.lst (ps.map ptD))), some (dv (.int c)), some (dv (.int (c.fmod 8))), some (dv (.int i)), none]) \/ ((c.fmod 8 = 4) /\ ∃ (qs : List Pt) (a : Option EV), qs.length <= 10 /\ (∀ p ∈ qs, PtW p) /\ ρ = [some (dv (.lst (qs.map ptD))), some (dv (.int c)), some (dv (.int (c.fmod 8))), some (dv (.int i)), a])) ?_ ?_
  · walk_at "dl"
    refine ⟨fun q => ⟨of_eq_true (fd_lit (by decide) (by decide)), by omega, _, _, _, i, rfl, rfl, rfl, ixN_of rfl (by rw [List.length_map]; exact il), _, _, _, 0, rfl, at_1 hpi, rfl, rfl, .inr ⟨q, ps.set i { p with num := ((c.fdiv 80).fmod ps.length).toNat }, none, by rw [List.length_set]; exact hl, set_w hw ⟨by show ((c.fdiv 80).fmod ps.length).toNat <= 10; have := mod_bd (c.fdiv 80) ps.length (by omega); omega, hpW.ks, hpW.c, hpW.gl, hpW.gs⟩, ?_⟩⟩, fun q => .inl (by omega)⟩
    rw [put1 hpi, <- set_map]
    have e : (((c.fdiv 80).fmod (ps.length : Int)).toNat : Int) = (c.fdiv 80).fmod ps.length := by have := mod_bd (c.fdiv 80) ps.length (by omega); omega
    unfold ptD
    simp only [e]
    rfl
  intro ρ hρ
  refine qcut_seq (fun ρ => ((c.fmod 8 ≠ 4 /\ c.fmod 8 ≠ 5) /\ ρ = [some (dv (.lst (ps.map ptD))), some (dv (.int c)), some (dv (.int (c.fmod 8))), some (dv (.int i)), none]) \/ ((c.fmod 8 = 4 \/ c.fmod 8 = 5) /\ ∃ (qs : List Pt) (a : Option EV), qs.length <= 10 /\ (∀ p ∈ qs, PtW p) /\ ρ = [some (dv (.lst (qs.map ptD))), some (dv (.int c)), some (dv (.int (c.fmod 8))), some (dv (.int i)), a])) ?_ ?_
  · rcases hρ with ⟨nw, rfl⟩ | ⟨y, qs, a, q1, q2, rfl⟩
    · walk_at "dl"
      rw [at_4 hpi]
      simp only [Option.map_some, ptD, at4, lsD, List.length_map]
      have m3 := mod_bd (c.fdiv 400) 3 (by decide)
      obtain ⟨sh, hs, es⟩ := ap3 m3.1 m3.2
      rw [es]
      have mg := mod_bd (c.fdiv 80) p.given.length (by have := gp.1; omega)
      have eg : (((c.fdiv 80).fmod (p.given.length : Int)).toNat : Int) = (c.fdiv 80).fmod p.given.length := by omega
      refine ⟨fun q => ⟨of_eq_true (fd_lit (by decide) (by decide)), by have := gp.1; omega, of_eq_true (fd_lit (by decide) (by decide)), trivial, _, _, _, i, rfl, rfl, rfl, ixN_of rfl (by rw [List.length_map]; exact il), _, _, _, 4, rfl, at_1 hpi, rfl, rfl, _, _, _, ((c.fdiv 80).fmod (p.given.length : Int)).toNat, rfl, at_2 hpi, rfl, ixN_of eg.symm (by rw [List.length_map]; omega), .inr ⟨.inr q, ps.set i { p with given := p.given.set ((c.fdiv 80).fmod (p.given.length : Int)).toNat sh }, some (dv (.int ((c.fdiv 80).fmod (p.given.length : Int)))), by rw [List.length_set]; exact hl, set_w hw ⟨hpW.n, hpW.ks, hpW.c, by show (p.given.set _ sh).length <= 5; rw [List.length_set]; exact hpW.gl, fun z hz => ?_⟩, ?_⟩⟩, fun q => .inl (by omega)⟩
      · rcases List.mem_or_eq_of_mem_set hz with hz | rfl
        · exact hpW.gs z hz
        · exact hs
      · rw [put2 hpi, <- set_map, <- List.map_set]
        rfl
    · walk_at "dl"
      exact ⟨fun q => absurd q (by omega), fun _ => .inr ⟨by omega, qs, a, q1, q2, rfl⟩⟩
  clear hρ
  intro ρ hρ
  refine qcut_seq (fun ρ => ((c.fmod 8 ≠ 4 /\ c.fmod 8 ≠ 5 /\ c.fmod 8 ≠ 6) /\ ρ = [some (dv (.lst (ps.map ptD))), some (dv (.int c)), some (dv (.int (c.fmod 8))), some (dv (.int i)), none]) \/ ((c.fmod 8 = 4 \/ c.fmod 8 = 5 \/ c.fmod 8 = 6) /\ ∃ (qs : List Pt) (a : Option EV), qs.length <= 10 /\ (∀ p ∈ qs, PtW p) /\ ρ = [some (dv (.lst (qs.map ptD))), some (dv (.int c)), some (dv (.int (c.fmod 8))), some (dv (.int i)), a])) ?_ ?_
  · rcases hρ with ⟨nw, rfl⟩ | ⟨y, qs, a, q1, q2, rfl⟩
    · walk_at "dl"
      refine ⟨fun q => ⟨_, _, _, i, rfl, rfl, rfl, ixN_of rfl (by rw [List.length_map]; exact il), _, _, _, 4, rfl, at_1 hpi, rfl, rfl, _, _, rfl, at_2 hpi, fun z => ?_, .inr ⟨by omega, ps.set i { p with given := p.given.dropLast }, none, by rw [List.length_set]; exact hl, set_w hw ⟨hpW.n, hpW.ks, hpW.c, by show p.given.dropLast.length <= 5; rw [List.length_dropLast]; have := hpW.gl; omega, fun z hz => hpW.gs z (List.dropLast_subset _ hz)⟩, ?_⟩⟩, fun q => .inl (by omega)⟩
      · have := gp.1
        rw [List.map_eq_nil_iff.mp z] at this
        exact absurd this (by decide)
      · rw [put2 hpi, <- set_map, <- List.map_dropLast]
        rfl
    · walk_at "dl"
      exact ⟨fun q => absurd q (by omega), fun _ => .inr ⟨by omega, qs, a, q1, q2, rfl⟩⟩
  clear hρ
  intro ρ hρ
  refine qcut_seq (fun ρ => ((c.fmod 8 ≠ 4 /\ c.fmod 8 ≠ 5 /\ c.fmod 8 ≠ 6 /\ c.fmod 8 ≠ 7) /\ ρ = [some (dv (.lst (ps.map ptD))), some (dv (.int c)), some (dv (.int (c.fmod 8))), some (dv (.int i)), none]) \/ ((c.fmod 8 = 4 \/ c.fmod 8 = 5 \/ c.fmod 8 = 6 \/ c.fmod 8 = 7) /\ ∃ (qs : List Pt) (a : Option EV), qs.length <= 10 /\ (∀ p ∈ qs, PtW p) /\ ρ = [some (dv (.lst (qs.map ptD))), some (dv (.int c)), some (dv (.int (c.fmod 8))), some (dv (.int i)), a])) ?_ ?_
  · rcases hρ with ⟨nw, rfl⟩ | ⟨y, qs, a, q1, q2, rfl⟩
    · walk_at "dl"
      refine ⟨fun q => ⟨_, _, _, i, rfl, rfl, rfl, ixN_of rfl (by rw [List.length_map]; exact il), _, _, _, 4, rfl, at_1 hpi, rfl, rfl, _, _, rfl, at_2 hpi, by rw [List.length_map]; have := gp.2.1; omega, trivial, .inr ⟨by omega, ps.set i { p with given := p.given ++ [("num" : Str)] }, none, by rw [List.length_set]; exact hl, set_w hw ⟨hpW.n, hpW.ks, hpW.c, by show (p.given ++ [("num" : Str)]).length <= 5; rw [List.length_append]; have := gp.2.1; show p.given.length + 1 <= 5; omega, fun z hz => ?_⟩, ?_⟩⟩, fun q => .inl (by omega)⟩
      · rcases List.mem_append.mp hz with hz | hz
        · exact hpW.gs z hz
        · rw [List.mem_singleton.mp hz]; exact .inl rfl
      · rw [put2 hpi, <- set_map]
        unfold ptD lsD
        rw [List.map_append]
        rfl
    · walk_at "dl"
      exact ⟨fun q => absurd q (by omega), fun _ => .inr ⟨by omega, qs, a, q1, q2, rfl⟩⟩
  clear hρ
  intro ρ hρ
  rcases hρ with ⟨nw, rfl⟩ | ⟨y, qs, a, q1, q2, rfl⟩
  · walk_at "dl"
    exact ⟨_, rfl, h ps hl hw⟩
  · walk_at "dl"
    exact ⟨_, rfl, h qs q1 q2⟩
end
section
variable {P : Program} {w : World} {K : PySem.W.Frag} {mg : Str -> Option Value} {base : Heap} {f : Addr} {fd : FuncData}
noncomputable abbrev TP2 := Pt × List D
noncomputable def fnT (nw w : Int) (s : Str) (t : TP2) : Fn := fnP nw w s t.1 t.2
noncomputable def zsOf (nw w : Int) (s : Str) (ts : List TP2) : List (Fn × Option Str) := ts.map fun t => (fnT nw w s t, callS (ts.map (fnT nw w s)) (nm nw t.1.called) (t.1.given.map some))
structure TOk (w : Int) (t : TP2) : Prop where
  pw : PtW t.1
  ao : ArgsOk w t.1 t.2
theorem head_fn {nw w : Int} {s : Str} {t : TP2} (hs : IsSh s) (h : PtW t.1) : HeadOk (fnT nw w s t) where
  nm := nm_ok nw t.1.num
  lo := by show 1 <= (par w t.1.kinds).length; rw [par_len]; exact h.ks.1
  hi := by show (par w t.1.kinds).length <= 4; rw [par_len]; exact h.ks.2.1
  nms := par_ok
  nd := par_nd (by have := h.ks.2.1; omega)
  gv := by
    show GivesOk s (List.replicate (t.1.kinds.length + 1) 0) ((par w t.1.kinds).map Prod.snd)
    rw [par_snd]
    refine ⟨hs, h.ks.2.2, by rw [List.length_replicate], fun n hn => ?_, fun _ n hn => (List.mem_replicate.mp hn).2, fun i n _ hn => (List.mem_replicate.mp (List.mem_of_getElem? hn)).2⟩
    rw [(List.mem_replicate.mp hn).2]
    exact Int.le_refl _
theorem zs_fst (nw w : Int) (s : Str) (ts : List TP2) : (zsOf nw w s ts).map Prod.fst = ts.map (fnT nw w s) := by
  unfold zsOf
  rw [List.map_map]
  rfl
theorem zs_len (nw w : Int) (s : Str) (ts : List TP2) : (zsOf nw w s ts).length = ts.length := by unfold zsOf; rw [List.length_map]
theorem prog_ok {nw w : Int} {s : Str} {ts : List TP2} (hs : IsSh s) (h : ∀ t ∈ ts, TOk w t) (hl : ts.length <= 100) : ProgH 2 (zsOf nw w s ts) where
  le := by rw [zs_len]; exact hl
  hd := fun z hz => by
    obtain ⟨t, ht, rfl⟩ := List.mem_map.mp hz
    exact head_fn hs (h t ht).pw
  bd := fun z hz => by
    rw [zs_fst]
    obtain ⟨t, ht, rfl⟩ := List.mem_map.mp hz
    have o := h t ht
    refine ⟨_, rfl, .inr (.inr (.inl ⟨_, t.2, t.1.given.map some, rfl, ⟨by rw [List.length_map]; exact o.ao.1, fun i e c he hc => ?_⟩, by rw [o.ao.1]; have := o.pw.gl; omega, rfl⟩))⟩
    rw [List.getElem?_map] at hc
    obtain ⟨z, hz, rfl⟩ := Option.map_eq_some_iff.mp hc
    exact (o.ao.2 i e z he hz).sh 0
theorem nd_names {nw w : Int} {s : Str} {ts : List TP2} (h : ∀ t ∈ ts, PtW t.1) : (ts.map fun t => (fnT nw w s t).name).Nodup ↔ ((ts.map Prod.fst).map Pt.num).Nodup := by
  rw [List.map_map]
  unfold List.Nodup
  rw [List.pairwise_map, List.pairwise_map]
  constructor
  · exact fun q => List.Pairwise.imp_of_mem (fun {a b} ha hb ne e => ne (by show nm nw a.1.num = nm nw b.1.num; rw [show a.1.num = b.1.num from e])) q
  · exact fun q => List.Pairwise.imp_of_mem (fun {a b} ha hb ne e => ne (nm_inj (k := a.1.num) (k' := b.1.num) (by have := (h a ha).n; omega) (by have := (h b hb).n; omega) e)) q
theorem fnL_has {z : Str} : ∀ {fs : List Fn}, (∃ g ∈ fs, g.name = z) -> ∃ g, fnL fs z = some g
  | [], h => by obtain ⟨g, hg, _⟩ := h; cases hg
  | f :: r, h => by
    unfold fnL
    by_cases q : z = f.name
    · exact ⟨f, if_pos q⟩
    · rw [if_neg q]
      obtain ⟨g, hg, e⟩ := h
      rcases List.mem_cons.mp hg with e1 | hg
      · exact absurd (by rw [<- e, e1]) q
      · exact fnL_has ⟨g, hg, e⟩
theorem some_inj {a b : List Str} (h : a.map some = b.map some) : a = b := List.map_inj_right (fun _ _ e => Option.some.inj e) |>.mp h
theorem call_ok {nw w : Int} {s : Str} {ts : List TP2} {p : Pt} (h : ∀ t ∈ ts, PtW t.1) (hp : p.called <= 10) (nd : ((ts.map Prod.fst).map Pt.num).Nodup) : callS (ts.map (fnT nw w s)) (nm nw p.called) (p.given.map some) = some s ↔ ∃ q ∈ ts.map Prod.fst, q.num = p.called /\ q.kinds = p.given := by
  unfold callS
  constructor
  · intro y
    cases e : fnL (ts.map (fnT nw w s)) (nm nw p.called) with
    | none => rw [e] at y; cases y
    | some g =>
      rw [e] at y
      obtain ⟨hg, ng⟩ := fnL_some e
      obtain ⟨t, ht, rfl⟩ := List.mem_map.mp hg
      refine ⟨t.1, List.mem_map.mpr ⟨t, ht, rfl⟩, nm_inj (by have := (h t ht).n; omega) (by omega) ng, ?_⟩
      have y : ifS (p.given.map some) ((par w t.1.kinds).map Prod.snd) s = some s := y
      rw [par_snd] at y
      unfold ifS at y
      split at y
      · rename_i q
        exact (some_inj q).symm
      · cases y
  · rintro ⟨q, hq, e1, e2⟩
    obtain ⟨t, ht, rfl⟩ := List.mem_map.mp hq
    obtain ⟨g, eg⟩ := fnL_has (z := nm nw p.called) (fs := ts.map (fnT nw w s)) ⟨fnT nw w s t, List.mem_map.mpr ⟨t, ht, rfl⟩, by show nm nw t.1.num = _; rw [e1]⟩
    obtain ⟨hg, ng⟩ := fnL_some eg
    obtain ⟨t', ht', rfl⟩ := List.mem_map.mp hg
    have en : t'.1.num = p.called := nm_inj (by have := (h t' ht').n; omega) (by omega) ng
    have et := num_inj nd (List.mem_map.mpr ⟨t', ht', rfl⟩) hq (en.trans e1.symm)
    rw [eg]
    show ifS (p.given.map some) ((par w t'.1.kinds).map Prod.snd) s = some s
    rw [par_snd, et, e2]
    unfold ifS
    rw [if_pos rfl]
theorem rgt_due {nw w : Int} {s : Str} {ts : List TP2} (h : ∀ t ∈ ts, PtW t.1) : rgt (zsOf nw w s ts) = true ↔ Due (ts.map Prod.fst) := by
  unfold rgt
  rw [Bool.and_eq_true, decide_eq_true_iff, List.all_eq_true, zs_len]
  have en : ((zsOf nw w s ts).map fun z => z.1.name) = ts.map fun t => (fnT nw w s t).name := by
    unfold zsOf
    rw [List.map_map]
    rfl
  rw [en, nd_names h]
  have len : (ts.map Prod.fst).length = ts.length := List.length_map _
  constructor
  · rintro ⟨⟨lo, hi, nd⟩, al⟩
    refine ⟨by omega, by omega, nd, fun p hp => ?_⟩
    obtain ⟨t, ht, rfl⟩ := List.mem_map.mp hp
    have := al _ (List.mem_map.mpr ⟨t, ht, rfl⟩)
    exact (call_ok h (h t ht).c nd).mp (of_decide_eq_true this)
  · intro d
    have lo := d.lo
    have hi := d.hi
    refine ⟨⟨by omega, by omega, d.nd⟩, fun z hz => ?_⟩
    obtain ⟨t, ht, rfl⟩ := List.mem_map.mp hz
    exact decide_eq_true ((call_ok h (h t ht).c d.nd).mpr (d.al t.1 (List.mem_map.mpr ⟨t, ht, rfl⟩)))
theorem Due.perm {ps qs : List Pt} (h : ps.Perm qs) (d : Due ps) : Due qs where
  lo := by rw [<- h.length_eq]; exact d.lo
  hi := by rw [<- h.length_eq]; exact d.hi
  nd := (h.map _).nodup_iff.mp d.nd
  al := fun p hp => by
    obtain ⟨q, hq, e⟩ := d.al p (h.mem_iff.mpr hp)
    exact ⟨q, h.mem_iff.mp hq, e⟩
end
section
variable {P : Program} {w : World} {K : PySem.W.Frag} {mg : Str -> Option Value} {base : Heap} {f : Addr} {fd : FuncData}
theorem fun_of {P : Program} {w : World} {base : Heap} {K : PySem.W.Frag} {mg : Str -> Option Value} {x q : Str} {st : Stmt} {f : Addr} {fd : FuncData} (T : Tops mg) (F : Fun K x q st f fd) (m : mg x = some (.ref f)) : Fun K x q st f fd /\ mg x = some (.ref f) := ⟨F, m⟩
theorem cr_words {K : PySem.W.Frag} {a : Addr} {o : Obj} {its : Array Value} {n : Nat} (ws : List Str) (hl : K.lookup a = some o) (hc : o.cls = .type "tuple") (hd : o.data = .seq its n) (hs : its.size <= 100) (hv : Vals (ws.map V.str) its.toList) : CRep K (cs ws) (.ref a) :=
  ⟨a, o, its, n, _, rfl, hl, hc, hd, Nat.le_trans hs (by rw [sizeLine_eq]; decide), hv, creps_strs ws⟩
theorem cr_form {K : PySem.W.Frag} {a b : Addr} {o : Obj} {n : Nat} {s : Str} {t : Tok} {ws : List Str} (hl : K.lookup b = some o) (hc : o.cls = .type "tuple") (hd : o.data = .seq #[.ref a, .str s t] n) (h : CRep K (cs ws) (.ref a)) : CRep K (.tup [cs ws, .str s]) (.ref b) :=
  ⟨b, o, _, n, [.ref a, .str s], rfl, hl, hc, hd, (by rw [sizeLine_eq]; show (2 : Nat) <= _; decide), .cons rfl (.cons ⟨_, rfl⟩ .nil), .ref a, _, rfl, h, .str s, _, rfl, rfl, rfl⟩
noncomputable def ent (w : World) (p : Str × Tok × Value) : DictEntry := ⟨hashStr w p.1, .str p.1 p.2.1, p.2.2⟩
noncomputable def Rws (K : PySem.W.Frag) : List (Str × Tok × Value) -> List (Str × Cst) -> Prop
  | [], tab => tab = []
  | p :: l, tab => ∃ c r, tab = (p.1, c) :: r /\ (∃ v, RelV v p.2.2 /\ CRep K c v) /\ Rws K l r
theorem find_ent {P : Program} {w : World} (z : Str) (p : Str × Tok × Value) (l : List (Str × Tok × Value)) : findBy (strKind P w).is ((p :: l).map (ent w)).toArray z = if z = p.1 then some p.2.2 else findBy (strKind P w).is (l.map (ent w)).toArray z := by
  unfold findBy
  rw [List.find?_toArray, List.find?_toArray, List.map_cons, List.find?_cons]
  have e : (strKind P w).is z (ent w p).key = (p.1 == z) := rfl
  rw [e]
  by_cases q : z = p.1
  · rw [if_pos q, q, beq_self_eq_true]
    rfl
  · rw [if_neg q, beq_eq_false_iff_ne.mpr (fun y => q y.symm)]
theorem rws_get {P : Program} {w : World} {K : PySem.W.Frag} (z : Str) : ∀ (l : List (Str × Tok × Value)) (tab : List (Str × Cst)), Rws K l tab ->
    (tabL tab z = none -> findBy (strKind P w).is (l.map (ent w)).toArray z = none) /\ ∀ c, tabL tab z = some c -> ∃ u v, findBy (strKind P w).is (l.map (ent w)).toArray z = some u /\ RelV v u /\ CRep K c v
  | [], tab, h => by
    cases (show tab = [] from h)
    exact ⟨fun _ => rfl, fun c y => by cases y⟩
  | p :: l, tab, h => by
    obtain ⟨c, r, rfl, ⟨v, h1, h2⟩, h3⟩ := h
    obtain ⟨i1, i2⟩ := rws_get z l r h3
    rw [find_ent]
    unfold tabL
    by_cases q : z = p.1
    · rw [if_pos q, if_pos q]
      exact ⟨fun y => (by cases y), fun c' y => (by cases y; exact ⟨_, v, rfl, h1, h2⟩)⟩
    · rw [if_neg q, if_neg q]
      exact ⟨i1, i2⟩
theorem gt_of {P : Program} {w : World} {K : PySem.W.Frag} {mg : Str -> Option Value} {x : Str} {a : Addr} {e : Nat} {tab : List (Str × Cst)} (l : List (Str × Tok × Value)) (hm : mg x = some (.ref a)) (hn : (a == sysModules) = false) (hl : K.lookup a = some ⟨.type "dict", none, .dict (l.map (ent w)).toArray e, #[]⟩) (hr : Rws K l tab) : GT P w K mg x tab := by
  refine ⟨a, findBy (strKind P w).is (l.map (ent w)).toArray, hm, ⟨⟨_, _, hl, fun d hd => ?_, fun k => rfl⟩, hn⟩, fun z => (rws_get z l tab hr).1, fun z => (rws_get z l tab hr).2⟩
  rw [List.mem_toArray] at hd
  obtain ⟨p, _, rfl⟩ := List.mem_map.mp hd
  exact ⟨p.1, LQ.isStr_self _ _, rfl⟩
theorem perm_turn {α : Type} (l : List α) (n : Nat) : (l.drop n ++ l.take n).Perm l := List.perm_append_comm.trans (by rw [List.take_append_drop])
theorem ok_law (T : Tops mg) (F__law_cell_at : FD P w K mg base 1 "_law_cell_at" ["_law_script", "_law_k"] tCellM) (F__law_parts : FZ P w K mg base 2 "_law_parts" ["_law_script", "_law_many"] tParts) (F__law_spoiled : FR P w K mg base 1 "_law_spoiled" ["_law_parts_here", "_law_cell"] tSpoil) (F__law_function : FD P w K mg base 3 "_law_function" ["_law_part", "_law_names", "_law_words", "_law_shape"] tFun) (F__law_due : FD P w K mg base 1 "_law_due" ["_law_parts_here"] tDue) (F_right : FD P w K mg base 17 "right" ["program"] (tRightH 2)) (F : Fun K "law" "law" (top 26) f fd) : FnOk P w K mg base CX0 60 f fd ["_law_script"] (spD K 1 lawT) := by
  have S : FnScope ["_law_script", "_law_first", "_law_names", "_law_words", "_law_parts_here", "_law_shape", "_law_functions", "_law_due_here", "_law_at", "_law_program", "_law_found"] ["_law_script"] (defScope (top 26)) := ⟨rfl, rfl, rfl, by decide +kernel, rfl, by decide +kernel, by decide +kernel⟩
  refine fn_okD F S fun cdv A outer s H E ds φ hr hl hT => ?_
  have hu := hr.units
  refine ⟨_, (ss_cons (sd_cut (sd_set 1 S.nd (ed_call F__law_cell_at (hr.mono (by decide)) (ea_cons (ed_name 0) (ea_cons ed_int ea_nil)))))
      (ss_cons (sd_cut (sd_set 2 S.nd (ed_call F__law_cell_at (hr.mono (by decide)) (ea_cons (ed_name 0) (ea_cons ed_int ea_nil)))))
      (ss_cons (sd_cut (sd_set 3 S.nd (ed_call F__law_cell_at (hr.mono (by decide)) (ea_cons (ed_name 0) (ea_cons ed_int ea_nil)))))
      (ss_cons (sd_cut (sd_set 4 S.nd (ed_nest F__law_parts F__law_spoiled (hr.mono (by decide)) (hr.mono (by decide)) (ea_cons (ed_name 0) (ea_cons (ed_mod (ed_name 1) ed_int) ea_nil)) (ed_call F__law_cell_at (hr.mono (by decide)) (ea_cons (ed_name 0) (ea_cons ed_int ea_nil))))))
      (ss_cons (sd_cut (sd_set 5 S.nd (ed_ixx hu (ed_lst (ea_cons ed_str (ea_cons ed_str (ea_cons ed_str ea_nil)))) (ed_mod (ed_fd (ed_name 1) ed_int) ed_int))))
      (ss_cons (sd_cut (sd_setCompP (T := ["_law_part"]) (F := ["_law_names", "_law_words", "_law_shape"]) (js := [2, 3, 5]) 6 S.nd (ei_seq (ed_name 4)) (show CompScope (defScope (top 26)) _ ["_law_part"] ["_law_names", "_law_words", "_law_shape"] from ⟨rfl, by decide +kernel, by decide +kernel, by decide +kernel, by decide +kernel, by decide +kernel⟩) (.cons rfl (.cons rfl (.cons rfl .nil))) (by decide) (fun cl C fp s H => (pg_name (i := 0) (show ((["_law_part"] : List Str) ++ (["_law_names", "_law_words", "_law_shape"] : List Str)).Nodup by decide +kernel) rfl (by first | exact Or.inl rfl | exact Or.inr rfl))) (gk_name (by decide)) (gl_name 0) (fun cl C fp s H => eif_nil) (fun cl C fp s H => (ed_call F__law_function (hr.mono (by decide)) (ea_cons (ed_name 0) (ea_cons (ed_name 1) (ea_cons (ed_name 2) (ea_cons (ed_name 3) ea_nil))))))))
      (ss_cons (sd_cut (sd_set 7 S.nd (ed_call F__law_due (hr.mono (by decide)) (ea_cons (ed_name 4) ea_nil))))
      (ss_cons (sd_cut (sd_set 8 S.nd (ed_mod (ed_fd (ed_name 1) ed_int) (ed_max2 T.max (ea_cons ed_int (ea_cons (ed_len T.len (ea_cons (ed_name 6) ea_nil)) ea_nil))))))
      (ss_cons (sd_cut (sd_frz 6 (sd_for (ei_seq (ed_lst (ea_cons (ed_name 6) (ea_cons (ed_add (ed_slice (ed_name 6) (eo_some (ed_name 8)) eo_none) (ed_slice (ed_name 6) eo_none (eo_some (ed_name 8)))) (ea_cons (ed_listRev T.list T.reversed (ed_name 6)) ea_nil))))) (pg_name (i := 9) S.nd rfl (by first | exact Or.inl rfl | exact Or.inr rfl)) (gl_name 9) (ss_cons (sd_set 10 S.nd (ed_call F_right (hr.mono (by decide)) (ea_cons (ed_tupleC T.tuple (ea_cons (ed_name 9) ea_nil)) ea_nil)))
        (ss_one (sd_if (EW.et (ew_or (et_not (et_val (ed_isinst T.isinstance (ea_cons (ed_name 10) (ea_cons (ed_ty T.bool boot_bool') ea_nil))))) (ew_or1 (et_ne hu (ed_name 10) (ed_name 7))))) (ss_one (sd_ret ed_bl)) ss_nil))))))
      (ss_one (sd_ret ed_bl))))))))))), ?_⟩
  obtain ⟨ns, rfl, hn, h⟩ := hT
  refine cut_seq (fun ρ => ∃ fc : Int, ρ = [some (dv (.scr ns)), some (dv (.int fc)), none, none, none, none, none, none, none, none, none]) ?_ ?_
  · walk_at "dl"
    simp only [tCellM, DL.g2]
    exact ⟨ns, 0, rfl, rfl, fun c _ _ => ⟨trivial, c, rfl⟩⟩
  rintro _ ⟨fc, rfl⟩
  refine cut_seq (fun ρ => ∃ nw : Int, ρ = [some (dv (.scr ns)), some (dv (.int fc)), some (dv (.int nw)), none, none, none, none, none, none, none, none]) ?_ ?_
  · walk_at "dl"
    simp only [tCellM, DL.g2]
    exact ⟨ns, 1, rfl, rfl, fun c _ _ => ⟨trivial, c, rfl⟩⟩
  rintro _ ⟨nw, rfl⟩
  refine cut_seq (fun ρ => ∃ wd : Int, ρ = [some (dv (.scr ns)), some (dv (.int fc)), some (dv (.int nw)), some (dv (.int wd)), none, none, none, none, none, none, none]) ?_ ?_
  · walk_at "dl"
    simp only [tCellM, DL.g2]
    exact ⟨ns, 2, rfl, rfl, fun c _ _ => ⟨trivial, c, rfl⟩⟩
  rintro _ ⟨wd, rfl⟩
  refine cut_seq (fun ρ => ∃ ps : List Pt, ps.length <= 10 /\ (∀ p ∈ ps, PtW p) /\ ρ = [some (dv (.scr ns)), some (dv (.int fc)), some (dv (.int nw)), some (dv (.int wd)), some (dv (.lst (ps.map ptD))), none, none, none, none, none, none]) ?_ ?_
  · have m := mod_bd fc 11 (by decide)
    walk_at "dl"
    simp only [tCellM, DL.g2]
    refine ⟨ns, (fc.fmod 11).toNat, by rw [Int.toNat_of_nonneg m.1], by omega, fun ps h1 h2 => ⟨ns, 3, rfl, rfl, fun c _ _ => ⟨trivial, ps, c, rfl, rfl, h1, h2, fun qs q1 q2 => ⟨qs, q1, q2, rfl⟩⟩⟩⟩
  rintro _ ⟨ps, hl, hp, rfl⟩
  refine cut_seq (fun ρ => ∃ sh : Str, IsSh sh /\ ρ = [some (dv (.scr ns)), some (dv (.int fc)), some (dv (.int nw)), some (dv (.int wd)), some (dv (.lst (ps.map ptD))), some (dv (.str sh)), none, none, none, none, none]) ?_ ?_
  · have m := mod_bd (fc.fdiv 11) 3 (by decide)
    obtain ⟨sh, hs, es⟩ := ap3 m.1 m.2
    walk_at "dl"
    rw [es]
    exact ⟨of_eq_true (fd_lit (by decide) (by decide)), sh, hs, rfl⟩
  rintro _ ⟨sh, hs, rfl⟩
  refine cut_seq (fun ρ => ∃ ts : List TP2, ts.map Prod.fst = ps /\ (∀ t ∈ ts, TOk wd t) /\ ρ = [some (dv (.scr ns)), some (dv (.int fc)), some (dv (.int nw)), some (dv (.int wd)), some (dv (.lst (ps.map ptD))), some (dv (.str sh)), some (dO (.lst (ts.map fun t => fnD (fnT nw wd sh t)))), none, none, none, none]) ?_ ?_
  · refine dCompP_at (ps.map ptD) (fun ψ hψ => ?_) (fun i gs => ∃ ts : List TP2, ts.map Prod.fst = ps.take i /\ (∀ t ∈ ts, TOk wd t) /\ gs = ts.map fun t => fnD (fnT nw wd sh t)) (by rw [List.length_map]; omega) ⟨[], rfl, (fun t ht => by cases ht), rfl⟩ ?_ ?_
    · walk_at "dl"
      exact hψ
    · rintro i e gs he hle ⟨ts, et, ht, rfl⟩
      rw [List.getElem?_map] at he
      obtain ⟨p, hpi, rfl⟩ := Option.map_eq_some_iff.mp he
      simp only [ρ0, List.map_cons, List.map_nil, List.replicate, List.cons_append, List.nil_append]
      walk_at "dl"
      simp only [tFun]
      refine ⟨p, nw, wd, sh, rfl, hp p (List.mem_of_getElem? hpi), fun es he => ⟨trivial, ts ++ [(p, es)], ?_, fun t ht' => ?_, ?_⟩⟩
      · rw [List.map_append, et, List.take_succ, hpi]
        rfl
      · rcases List.mem_append.mp ht' with ht' | ht'
        · exact ht t ht'
        · rw [List.mem_singleton.mp ht']
          exact ⟨hp p (List.mem_of_getElem? hpi), he⟩
      · rw [List.map_append]
        rfl
    · rintro gs ⟨ts, et, ht, rfl⟩
      rw [List.length_map, List.take_length] at et
      exact ⟨trivial, ts, et, ht, rfl⟩
  rintro _ ⟨ts, et, ht, rfl⟩
  subst et
  rw [List.length_map] at hl
  refine cut_seq (fun ρ => ∃ b : Bool, (b = true ↔ Due (ts.map Prod.fst)) /\ ρ = [some (dv (.scr ns)), some (dv (.int fc)), some (dv (.int nw)), some (dv (.int wd)), some (dv (.lst ((ts.map Prod.fst).map ptD))), some (dv (.str sh)), some (dO (.lst (ts.map fun t => fnD (fnT nw wd sh t)))), some (dv (.bl b)), none, none, none]) ?_ ?_
  · walk_at "dl"
    simp only [tDue, DL.g1]
    exact ⟨_, rfl, hp, by rw [List.length_map]; omega, fun b hb => ⟨trivial, b, hb, rfl⟩⟩
  rintro _ ⟨b, hb, rfl⟩
  refine cut_seq (fun ρ => ∃ at_ : Nat, ρ = [some (dv (.scr ns)), some (dv (.int fc)), some (dv (.int nw)), some (dv (.int wd)), some (dv (.lst ((ts.map Prod.fst).map ptD))), some (dv (.str sh)), some (dO (.lst (ts.map fun t => fnD (fnT nw wd sh t)))), some (dv (.bl b)), some (dv (.int (at_ : Nat))), none, none]) ?_ ?_
  · have m := mod_bd (fc.fdiv 33) (if (ts.length : Int) > 1 then (ts.length : Int) else 1) (by split <;> omega)
    walk_at "dl"
    refine ⟨of_eq_true (fd_lit (by decide) (by decide)), by split <;> omega, ((fc.fdiv 33).fmod (if (ts.length : Int) > 1 then (ts.length : Int) else 1)).toNat, ?_⟩
    rw [Int.toNat_of_nonneg m.1]
  rintro _ ⟨at_, rfl⟩
  have hP : ∀ ts' : List TP2, ts'.Perm ts -> ∀ φ' : EV -> Prop, φ' (dv (.bl b)) -> tRightH 2 [.tup (ts'.map fun t => fnD (fnT nw wd sh t))] φ' := fun ts' hpm φ' hφ => by
    have ht' : ∀ t ∈ ts', TOk wd t := fun t q => ht t (hpm.mem_iff.mp q)
    simp only [tRightH, DL.g1]
    refine ⟨zsOf nw wd sh ts', ?_, prog_ok hs ht' (by rw [hpm.length_eq]; omega), ?_⟩
    · unfold zsOf
      rw [List.map_map]
      rfl
    · have e1 := rgt_due (nw := nw) (w := wd) (s := sh) (ts := ts') fun t q => (ht' t q).pw
      have e2 : Due (ts'.map Prod.fst) ↔ Due (ts.map Prod.fst) := ⟨Due.perm (hpm.map _), Due.perm (hpm.map _).symm⟩
      have e3 : rgt (zsOf nw wd sh ts') = b := by
        cases b with
        | true => exact e1.mpr (e2.mpr (hb.mp rfl))
        | false =>
          cases q : rgt (zsOf nw wd sh ts') with
          | false => rfl
          | true => exact (hb.mpr (e2.mp (e1.mp q))).symm
      rw [e3]
      exact hφ
  refine cut_seq (fun ρ => ∃ x y : Option EV, ρ = [some (dv (.scr ns)), some (dv (.int fc)), some (dv (.int nw)), some (dv (.int wd)), some (dv (.lst ((ts.map Prod.fst).map ptD))), some (dv (.str sh)), some (dv (.lst (ts.map fun t => fnD (fnT nw wd sh t)))), some (dv (.bl b)), some (dv (.int (at_ : Nat))), x, y]) ?_ ?_
  · refine sFor_at [.lst (ts.map fun t => fnD (fnT nw wd sh t)), .lst ((ts.drop at_ ++ ts.take at_).map fun t => fnD (fnT nw wd sh t)), .lst (ts.reverse.map fun t => fnD (fnT nw wd sh t))] (fun ψ hψ => ?_) (fun i ρ => ∃ x y : Option EV, ρ = [some (dv (.scr ns)), some (dv (.int fc)), some (dv (.int nw)), some (dv (.int wd)), some (dv (.lst ((ts.map Prod.fst).map ptD))), some (dv (.str sh)), some (dv (.lst (ts.map fun t => fnD (fnT nw wd sh t)))), some (dv (.bl b)), some (dv (.int (at_ : Nat))), x, y]) ⟨none, none, rfl⟩ ?_ ?_
    · walk_at "dl"
      rw [cutD_take, cutD_drop, <- List.map_take, <- List.map_drop, <- List.map_append, <- List.map_reverse]
      refine ⟨?_, hψ⟩
      rw [List.length_map, List.length_map, List.length_take, List.length_drop, sizeLine_eq]
      omega
    · rintro i d _ hd ⟨x, y, rfl⟩
      have hd' : ∃ ts' : List TP2, ts'.Perm ts /\ d = .lst (ts'.map fun t => fnD (fnT nw wd sh t)) := by
        rcases i with _ | _ | _ | i
        · cases hd; exact ⟨ts, .refl _, rfl⟩
        · cases hd; exact ⟨_, perm_turn ts at_, rfl⟩
        · cases hd; exact ⟨_, List.reverse_perm ts, rfl⟩
        · cases hd
      obtain ⟨ts', hpm, rfl⟩ := hd'
      have hR := hP ts' hpm
      walk_at "dl"
      refine hR _ ⟨trivial, ?_⟩
      refine ⟨(fun q => by cases q), fun _ => ⟨of_eq_true okD_bl, fun q => ?_, fun _ => ⟨_, _, rfl⟩⟩⟩
      exfalso
      revert q
      cases b <;> decide
    · rintro ρ ⟨x, y, rfl⟩
      exact ⟨x, y, rfl⟩
  rintro _ ⟨x, y, rfl⟩
  walk_at "dl"
  exact h
theorem all_mk {l : PySem.W.OpenLaw} {w : World} {K : PySem.W.Frag} {h : Heap} {mg : Str -> Option Value} {fa : Addr} (X : K.In h) (G : h.Ns mainGlobals mg) (hfa : mg "law" = some (.ref fa)) {f1 : Addr} {od1 an1 : Option Addr} {sl1 : Array (Option Value)} {oc1 kV1 dc1 pm1 cd1 ct1 : Value} {f2 : Addr} {od2 an2 : Option Addr} {sl2 : Array (Option Value)} {oc2 kV2 dc2 pm2 cd2 ct2 : Value} {f3 : Addr} {od3 an3 : Option Addr} {sl3 : Array (Option Value)} {oc3 kV3 dc3 pm3 cd3 ct3 : Value} {f4 : Addr} {od4 an4 : Option Addr} {sl4 : Array (Option Value)} {oc4 kV4 dc4 pm4 cd4 ct4 : Value} {f5 : Addr} {od5 an5 : Option Addr} {sl5 : Array (Option Value)} {oc5 kV5 dc5 pm5 cd5 ct5 : Value} {f6 : Addr} {od6 an6 : Option Addr} {sl6 : Array (Option Value)} {oc6 kV6 dc6 pm6 cd6 ct6 : Value} {f7 : Addr} {od7 an7 : Option Addr} {sl7 : Array (Option Value)} {oc7 kV7 dc7 pm7 cd7 ct7 : Value} {f8 : Addr} {od8 an8 : Option Addr} {sl8 : Array (Option Value)} {oc8 kV8 dc8 pm8 cd8 ct8 : Value} {f9 : Addr} {od9 an9 : Option Addr} {sl9 : Array (Option Value)} {oc9 kV9 dc9 pm9 cd9 ct9 : Value} {f10 : Addr} {od10 an10 : Option Addr} {sl10 : Array (Option Value)} {oc10 kV10 dc10 pm10 cd10 ct10 : Value} {f11 : Addr} {od11 an11 : Option Addr} {sl11 : Array (Option Value)} {oc11 kV11 dc11 pm11 cd11 ct11 : Value} {f12 : Addr} {od12 an12 : Option Addr} {sl12 : Array (Option Value)} {oc12 kV12 dc12 pm12 cd12 ct12 : Value} {f13 : Addr} {od13 an13 : Option Addr} {sl13 : Array (Option Value)} {oc13 kV13 dc13 pm13 cd13 ct13 : Value} {f14 : Addr} {od14 an14 : Option Addr} {sl14 : Array (Option Value)} {oc14 kV14 dc14 pm14 cd14 ct14 : Value} {f15 : Addr} {od15 an15 : Option Addr} {sl15 : Array (Option Value)} {oc15 kV15 dc15 pm15 cd15 ct15 : Value} {f16 : Addr} {od16 an16 : Option Addr} {sl16 : Array (Option Value)} {oc16 kV16 dc16 pm16 cd16 ct16 : Value} {f17 : Addr} {od17 an17 : Option Addr} {sl17 : Array (Option Value)} {oc17 kV17 dc17 pm17 cd17 ct17 : Value} {f18 : Addr} {od18 an18 : Option Addr} {sl18 : Array (Option Value)} {oc18 kV18 dc18 pm18 cd18 ct18 : Value} {f19 : Addr} {od19 an19 : Option Addr} {sl19 : Array (Option Value)} {oc19 kV19 dc19 pm19 cd19 ct19 : Value} {aF aB a_S a_N a_b0 a_c0 a_b1 a_c1 a_b2 a_c2 a_b3 a_c3 a_b4 a_c4 a_b5 a_c5 a_d0 a_d1 : Addr} {o_S o_N o_b0 o_c0 o_b1 o_c1 o_b2 o_c2 o_b3 o_c3 o_b4 o_c4 o_b5 o_c5 o_d0 o_d1 : Option Addr} {n_S n_N n_b0 n_c0 n_b1 n_c1 n_b2 n_c2 n_b3 n_c3 n_b4 n_c4 n_b5 n_c5 n_d0 n_d1 eF eB : Nat} {s_S s_N s_b0 s_c0 s_b1 s_c1 s_b2 s_c2 s_b3 s_c3 s_b4 s_c4 s_b5 s_c5 s_d0 s_d1 : Array (Option Value)} {tL tf0 tf1 tf2 tf3 tf4 tf5 tg0 tg1 tk0 tk1 tk2 tk3 tk4 tk5 tk6 tk7 tk8 tk9 tk10 tk11 tk12 tk13 tk14 tk15 tk16 tk17 tk18 tk19 tk20 tk21 tk22 tk23 tk24 : Tok}
    (a1 : PySem.W.nsIn K mainGlobals "is_whole" = some (some (.ref f1))) (l1 : K.lookup f1 = some ⟨oc1, od1, .func (PySem.W.fnOf "is_whole" "is_whole" (defArgs (top 6)) (defBody (top 6)) (defScope (top 6)) .none kV1 dc1 pm1 an1 cd1 ct1), sl1⟩) (c1 : PySem.W.codeIn K cd1 "is_whole" = true) (k1 : PySem.W.keepIn K (.ref f1) = true)
    (a2 : PySem.W.nsIn K mainGlobals "is_name" = some (some (.ref f2))) (l2 : K.lookup f2 = some ⟨oc2, od2, .func (PySem.W.fnOf "is_name" "is_name" (defArgs (top 7)) (defBody (top 7)) (defScope (top 7)) .none kV2 dc2 pm2 an2 cd2 ct2), sl2⟩) (c2 : PySem.W.codeIn K cd2 "is_name" = true) (k2 : PySem.W.keepIn K (.ref f2) = true)
    (a3 : PySem.W.nsIn K mainGlobals "unlike" = some (some (.ref f3))) (l3 : K.lookup f3 = some ⟨oc3, od3, .func (PySem.W.fnOf "unlike" "unlike" (defArgs (top 8)) (defBody (top 8)) (defScope (top 8)) .none kV3 dc3 pm3 an3 cd3 ct3), sl3⟩) (c3 : PySem.W.codeIn K cd3 "unlike" = true) (k3 : PySem.W.keepIn K (.ref f3) = true)
    (a4 : PySem.W.nsIn K mainGlobals "gives_right" = some (some (.ref f4))) (l4 : K.lookup f4 = some ⟨oc4, od4, .func (PySem.W.fnOf "gives_right" "gives_right" (defArgs (top 11)) (defBody (top 11)) (defScope (top 11)) .none kV4 dc4 pm4 an4 cd4 ct4), sl4⟩) (c4 : PySem.W.codeIn K cd4 "gives_right" = true) (k4 : PySem.W.keepIn K (.ref f4) = true)
    (a5 : PySem.W.nsIn K mainGlobals "head_right" = some (some (.ref f5))) (l5 : K.lookup f5 = some ⟨oc5, od5, .func (PySem.W.fnOf "head_right" "head_right" (defArgs (top 10)) (defBody (top 10)) (defScope (top 10)) .none kV5 dc5 pm5 an5 cd5 ct5), sl5⟩) (c5 : PySem.W.codeIn K cd5 "head_right" = true) (k5 : PySem.W.keepIn K (.ref f5) = true)
    (a6 : PySem.W.nsIn K mainGlobals "shape_if" = some (some (.ref f6))) (l6 : K.lookup f6 = some ⟨oc6, od6, .func (PySem.W.fnOf "shape_if" "shape_if" (defArgs (top 16)) (defBody (top 16)) (defScope (top 16)) .none kV6 dc6 pm6 an6 cd6 ct6), sl6⟩) (c6 : PySem.W.codeIn K cd6 "shape_if" = true) (k6 : PySem.W.keepIn K (.ref f6) = true)
    (a7 : PySem.W.nsIn K mainGlobals "call_shape" = some (some (.ref f7))) (l7 : K.lookup f7 = some ⟨oc7, od7, .func (PySem.W.fnOf "call_shape" "call_shape" (defArgs (top 15)) (defBody (top 15)) (defScope (top 15)) .none kV7 dc7 pm7 an7 cd7 ct7), sl7⟩) (c7 : PySem.W.codeIn K cd7 "call_shape" = true) (k7 : PySem.W.keepIn K (.ref f7) = true)
    (a8 : PySem.W.nsIn K mainGlobals "shape_of" = some (some (.ref f8))) (l8 : K.lookup f8 = some ⟨oc8, od8, .func (PySem.W.fnOf "shape_of" "shape_of" (defArgs (top 14)) (defBody (top 14)) (defScope (top 14)) .none kV8 dc8 pm8 an8 cd8 ct8), sl8⟩) (c8 : PySem.W.codeIn K cd8 "shape_of" = true) (k8 : PySem.W.keepIn K (.ref f8) = true)
    (a9 : PySem.W.nsIn K mainGlobals "body_right" = some (some (.ref f9))) (l9 : K.lookup f9 = some ⟨oc9, od9, .func (PySem.W.fnOf "body_right" "body_right" (defArgs (top 12)) (defBody (top 12)) (defScope (top 12)) .none kV9 dc9 pm9 an9 cd9 ct9), sl9⟩) (c9 : PySem.W.codeIn K cd9 "body_right" = true) (k9 : PySem.W.keepIn K (.ref f9) = true)
    (a10 : PySem.W.nsIn K mainGlobals "right" = some (some (.ref f10))) (l10 : K.lookup f10 = some ⟨oc10, od10, .func (PySem.W.fnOf "right" "right" (defArgs (top 9)) (defBody (top 9)) (defScope (top 9)) .none kV10 dc10 pm10 an10 cd10 ct10), sl10⟩) (c10 : PySem.W.codeIn K cd10 "right" = true) (k10 : PySem.W.keepIn K (.ref f10) = true)
    (a11 : PySem.W.nsIn K mainGlobals "_law_cell_at" = some (some (.ref f11))) (l11 : K.lookup f11 = some ⟨oc11, od11, .func (PySem.W.fnOf "_law_cell_at" "_law_cell_at" (defArgs (top 18)) (defBody (top 18)) (defScope (top 18)) .none kV11 dc11 pm11 an11 cd11 ct11), sl11⟩) (c11 : PySem.W.codeIn K cd11 "_law_cell_at" = true) (k11 : PySem.W.keepIn K (.ref f11) = true)
    (a12 : PySem.W.nsIn K mainGlobals "_law_name" = some (some (.ref f12))) (l12 : K.lookup f12 = some ⟨oc12, od12, .func (PySem.W.fnOf "_law_name" "_law_name" (defArgs (top 19)) (defBody (top 19)) (defScope (top 19)) .none kV12 dc12 pm12 an12 cd12 ct12), sl12⟩) (c12 : PySem.W.codeIn K cd12 "_law_name" = true) (k12 : PySem.W.keepIn K (.ref f12) = true)
    (a13 : PySem.W.nsIn K mainGlobals "_law_kinds" = some (some (.ref f13))) (l13 : K.lookup f13 = some ⟨oc13, od13, .func (PySem.W.fnOf "_law_kinds" "_law_kinds" (defArgs (top 20)) (defBody (top 20)) (defScope (top 20)) .none kV13 dc13 pm13 an13 cd13 ct13), sl13⟩) (c13 : PySem.W.codeIn K cd13 "_law_kinds" = true) (k13 : PySem.W.keepIn K (.ref f13) = true)
    (a14 : PySem.W.nsIn K mainGlobals "_law_arg" = some (some (.ref f14))) (l14 : K.lookup f14 = some ⟨oc14, od14, .func (PySem.W.fnOf "_law_arg" "_law_arg" (defArgs (top 21)) (defBody (top 21)) (defScope (top 21)) .none kV14 dc14 pm14 an14 cd14 ct14), sl14⟩) (c14 : PySem.W.codeIn K cd14 "_law_arg" = true) (k14 : PySem.W.keepIn K (.ref f14) = true)
    (a15 : PySem.W.nsIn K mainGlobals "_law_parts" = some (some (.ref f15))) (l15 : K.lookup f15 = some ⟨oc15, od15, .func (PySem.W.fnOf "_law_parts" "_law_parts" (defArgs (top 22)) (defBody (top 22)) (defScope (top 22)) .none kV15 dc15 pm15 an15 cd15 ct15), sl15⟩) (c15 : PySem.W.codeIn K cd15 "_law_parts" = true) (k15 : PySem.W.keepIn K (.ref f15) = true)
    (a16 : PySem.W.nsIn K mainGlobals "_law_spoiled" = some (some (.ref f16))) (l16 : K.lookup f16 = some ⟨oc16, od16, .func (PySem.W.fnOf "_law_spoiled" "_law_spoiled" (defArgs (top 23)) (defBody (top 23)) (defScope (top 23)) .none kV16 dc16 pm16 an16 cd16 ct16), sl16⟩) (c16 : PySem.W.codeIn K cd16 "_law_spoiled" = true) (k16 : PySem.W.keepIn K (.ref f16) = true)
    (a17 : PySem.W.nsIn K mainGlobals "_law_due" = some (some (.ref f17))) (l17 : K.lookup f17 = some ⟨oc17, od17, .func (PySem.W.fnOf "_law_due" "_law_due" (defArgs (top 24)) (defBody (top 24)) (defScope (top 24)) .none kV17 dc17 pm17 an17 cd17 ct17), sl17⟩) (c17 : PySem.W.codeIn K cd17 "_law_due" = true) (k17 : PySem.W.keepIn K (.ref f17) = true)
    (a18 : PySem.W.nsIn K mainGlobals "_law_function" = some (some (.ref f18))) (l18 : K.lookup f18 = some ⟨oc18, od18, .func (PySem.W.fnOf "_law_function" "_law_function" (defArgs (top 25)) (defBody (top 25)) (defScope (top 25)) .none kV18 dc18 pm18 an18 cd18 ct18), sl18⟩) (c18 : PySem.W.codeIn K cd18 "_law_function" = true) (k18 : PySem.W.keepIn K (.ref f18) = true)
    (a19 : PySem.W.nsIn K mainGlobals "law" = some (some (.ref f19))) (l19 : K.lookup f19 = some ⟨oc19, od19, .func (PySem.W.fnOf "law" "law" (defArgs (top 26)) (defBody (top 26)) (defScope (top 26)) .none kV19 dc19 pm19 an19 cd19 ct19), sl19⟩) (c19 : PySem.W.codeIn K cd19 "law" = true) (k19 : PySem.W.keepIn K (.ref f19) = true) (bL : PySem.W.nsIn K mainGlobals "LETTERS" = some (some (.str "abcdefghijklmnopqrstuvwxyz" tL))) (bS : PySem.W.nsIn K mainGlobals "SHAPES" = some (some (.ref a_S))) (lS : K.lookup a_S = some ⟨.type "tuple", o_S, .seq #[.str "num" tk0, .str "list" tk1, .str "tree" tk2] n_S, s_S⟩) (bN : PySem.W.nsIn K mainGlobals "NO_NAMES" = some (some (.ref a_N))) (lN : K.lookup a_N = some ⟨.type "tuple", o_N, .seq #[.str "nil" tk3, .str "leaf" tk4] n_N, s_N⟩) (bF : PySem.W.nsIn K mainGlobals "FORMS" = some (some (.ref aF))) (lF : K.lookup aF = some ⟨.type "dict", none, .dict #[⟨hashStr w "nil", .str "nil" tf0, .ref a_b0⟩, ⟨hashStr w "cons", .str "cons" tf1, .ref a_b1⟩, ⟨hashStr w "leaf", .str "leaf" tf2, .ref a_b2⟩, ⟨hashStr w "node", .str "node" tf3, .ref a_b3⟩, ⟨hashStr w "add", .str "add" tf4, .ref a_b4⟩, ⟨hashStr w "sub", .str "sub" tf5, .ref a_b5⟩] eF, #[]⟩) (lb0 : K.lookup a_b0 = some ⟨.type "tuple", o_b0, .seq #[.ref a_c0, .str "list" tk5] n_b0, s_b0⟩) (lc0 : K.lookup a_c0 = some ⟨.type "tuple", o_c0, .seq #[] n_c0, s_c0⟩) (lb1 : K.lookup a_b1 = some ⟨.type "tuple", o_b1, .seq #[.ref a_c1, .str "list" tk6] n_b1, s_b1⟩) (lc1 : K.lookup a_c1 = some ⟨.type "tuple", o_c1, .seq #[.str "num" tk7, .str "list" tk8] n_c1, s_c1⟩) (lb2 : K.lookup a_b2 = some ⟨.type "tuple", o_b2, .seq #[.ref a_c2, .str "tree" tk9] n_b2, s_b2⟩) (lc2 : K.lookup a_c2 = some ⟨.type "tuple", o_c2, .seq #[] n_c2, s_c2⟩) (lb3 : K.lookup a_b3 = some ⟨.type "tuple", o_b3, .seq #[.ref a_c3, .str "tree" tk10] n_b3, s_b3⟩) (lc3 : K.lookup a_c3 = some ⟨.type "tuple", o_c3, .seq #[.str "tree" tk11, .str "num" tk12, .str "tree" tk13] n_c3, s_c3⟩) (lb4 : K.lookup a_b4 = some ⟨.type "tuple", o_b4, .seq #[.ref a_c4, .str "num" tk14] n_b4, s_b4⟩) (lc4 : K.lookup a_c4 = some ⟨.type "tuple", o_c4, .seq #[.str "num" tk15, .str "num" tk16] n_c4, s_c4⟩) (lb5 : K.lookup a_b5 = some ⟨.type "tuple", o_b5, .seq #[.ref a_c5, .str "num" tk17] n_b5, s_b5⟩) (lc5 : K.lookup a_c5 = some ⟨.type "tuple", o_c5, .seq #[.str "num" tk18, .str "num" tk19] n_c5, s_c5⟩) (bB : PySem.W.nsIn K mainGlobals "BROUGHT" = some (some (.ref aB))) (lB : K.lookup aB = some ⟨.type "dict", none, .dict #[⟨hashStr w "list", .str "list" tg0, .ref a_d0⟩, ⟨hashStr w "tree", .str "tree" tg1, .ref a_d1⟩] eB, #[]⟩) (ld0 : K.lookup a_d0 = some ⟨.type "tuple", o_d0, .seq #[.str "num" tk20, .str "list" tk21] n_d0, s_d0⟩) (ld1 : K.lookup a_d1 = some ⟨.type "tuple", o_d1, .seq #[.str "tree" tk22, .str "num" tk23, .str "tree" tk24] n_d1, s_d1⟩) (nF : (aF == sysModules) = false) (nB : (aB == sysModules) = false) (z_all : PySem.W.nsIn K mainGlobals "all" = some none) (z_any : PySem.W.nsIn K mainGlobals "any" = some none) (z_bool : PySem.W.nsIn K mainGlobals "bool" = some none) (z_dict : PySem.W.nsIn K mainGlobals "dict" = some none) (z_int : PySem.W.nsIn K mainGlobals "int" = some none) (z_isinstance : PySem.W.nsIn K mainGlobals "isinstance" = some none) (z_len : PySem.W.nsIn K mainGlobals "len" = some none) (z_list : PySem.W.nsIn K mainGlobals "list" = some none) (z_max : PySem.W.nsIn K mainGlobals "max" = some none) (z_range : PySem.W.nsIn K mainGlobals "range" = some none) (z_reversed : PySem.W.nsIn K mainGlobals "reversed" = some none) (z_set : PySem.W.nsIn K mainGlobals "set" = some none) (z_str : PySem.W.nsIn K mainGlobals "str" = some none) (z_tuple : PySem.W.nsIn K mainGlobals "tuple" = some none) (z_zip : PySem.W.nsIn K mainGlobals "zip" = some none) :
    ∃ fd : FuncData, (∀ (s : Shared) (v : Value), BindsTo s fd ⟨[v], []⟩ [("_law_script", v)]) /\ ∀ base : Heap, K.In base -> base.Ns mainGlobals mg -> FnOk l.prog w K mg base CX0 60 fa fd ["_law_script"] (spD K 1 lawT) := by
  have e := hfa.symm.trans (PySem.W.mg_of X G a19)
  cases e
  have T : Tops mg := ⟨PySem.W.mg_none_of X G z_all, PySem.W.mg_none_of X G z_any, PySem.W.mg_none_of X G z_bool, PySem.W.mg_none_of X G z_dict, PySem.W.mg_none_of X G z_int, PySem.W.mg_none_of X G z_isinstance, PySem.W.mg_none_of X G z_len, PySem.W.mg_none_of X G z_list, PySem.W.mg_none_of X G z_max, PySem.W.mg_none_of X G z_range, PySem.W.mg_none_of X G z_reversed, PySem.W.mg_none_of X G z_set, PySem.W.mg_none_of X G z_str, PySem.W.mg_none_of X G z_tuple, PySem.W.mg_none_of X G z_zip⟩
  have F1 := fun_mk (st := top 6) l1 c1 k1
  have F2 := fun_mk (st := top 7) l2 c2 k2
  have F3 := fun_mk (st := top 8) l3 c3 k3
  have F4 := fun_mk (st := top 11) l4 c4 k4
  have F5 := fun_mk (st := top 10) l5 c5 k5
  have F6 := fun_mk (st := top 16) l6 c6 k6
  have F7 := fun_mk (st := top 15) l7 c7 k7
  have F8 := fun_mk (st := top 14) l8 c8 k8
  have F9 := fun_mk (st := top 12) l9 c9 k9
  have F10 := fun_mk (st := top 9) l10 c10 k10
  have F11 := fun_mk (st := top 18) l11 c11 k11
  have F12 := fun_mk (st := top 19) l12 c12 k12
  have F13 := fun_mk (st := top 20) l13 c13 k13
  have F14 := fun_mk (st := top 21) l14 c14 k14
  have F15 := fun_mk (st := top 22) l15 c15 k15
  have F16 := fun_mk (st := top 23) l16 c16 k16
  have F17 := fun_mk (st := top 24) l17 c17 k17
  have F18 := fun_mk (st := top 25) l18 c18 k18
  have F19 := fun_mk (st := top 26) l19 c19 k19
  refine ⟨PySem.W.fnOf "law" "law" (defArgs (top 26)) (defBody (top 26)) (defScope (top 26)) .none kV19 dc19 pm19 an19 cd19 ct19, fun s v => .of_eq rfl, fun base _ _ => ?_⟩
  have Z : Con l.prog w K mg := ⟨gc_words (ws := shapes3) (PySem.W.mg_of X G bS) lS rfl rfl (by rw [sizeLine_eq]; show (3 : Nat) <= _; decide) (.cons ⟨_, rfl⟩ (.cons ⟨_, rfl⟩ (.cons ⟨_, rfl⟩ .nil))), gc_words (ws := ["nil", "leaf"]) (PySem.W.mg_of X G bN) lN rfl rfl (by rw [sizeLine_eq]; show (2 : Nat) <= _; decide) (.cons ⟨_, rfl⟩ (.cons ⟨_, rfl⟩ .nil)), ⟨.str _ tL, .str _, PySem.W.mg_of X G bL, ⟨tL, rfl⟩, fun _ _ => rfl⟩, gt_of [("nil", tf0, .ref a_b0), ("cons", tf1, .ref a_b1), ("leaf", tf2, .ref a_b2), ("node", tf3, .ref a_b3), ("add", tf4, .ref a_b4), ("sub", tf5, .ref a_b5)] (PySem.W.mg_of X G bF) nF lF ⟨_, _, rfl, ⟨.ref a_b0, rfl, cr_form lb0 rfl rfl (cr_words [] lc0 rfl rfl (by show (0 : Nat) <= 100; decide) .nil)⟩, ⟨_, _, rfl, ⟨.ref a_b1, rfl, cr_form lb1 rfl rfl (cr_words [("num" : Str), ("list" : Str)] lc1 rfl rfl (by show (2 : Nat) <= 100; decide) (.cons ⟨_, rfl⟩ (.cons ⟨_, rfl⟩ .nil)))⟩, ⟨_, _, rfl, ⟨.ref a_b2, rfl, cr_form lb2 rfl rfl (cr_words [] lc2 rfl rfl (by show (0 : Nat) <= 100; decide) .nil)⟩, ⟨_, _, rfl, ⟨.ref a_b3, rfl, cr_form lb3 rfl rfl (cr_words [("tree" : Str), ("num" : Str), ("tree" : Str)] lc3 rfl rfl (by show (3 : Nat) <= 100; decide) (.cons ⟨_, rfl⟩ (.cons ⟨_, rfl⟩ (.cons ⟨_, rfl⟩ .nil))))⟩, ⟨_, _, rfl, ⟨.ref a_b4, rfl, cr_form lb4 rfl rfl (cr_words [("num" : Str), ("num" : Str)] lc4 rfl rfl (by show (2 : Nat) <= 100; decide) (.cons ⟨_, rfl⟩ (.cons ⟨_, rfl⟩ .nil)))⟩, ⟨_, _, rfl, ⟨.ref a_b5, rfl, cr_form lb5 rfl rfl (cr_words [("num" : Str), ("num" : Str)] lc5 rfl rfl (by show (2 : Nat) <= 100; decide) (.cons ⟨_, rfl⟩ (.cons ⟨_, rfl⟩ .nil)))⟩, rfl⟩⟩⟩⟩⟩⟩, gt_of [("list", tg0, .ref a_d0), ("tree", tg1, .ref a_d1)] (PySem.W.mg_of X G bB) nB lB ⟨_, _, rfl, ⟨.ref a_d0, rfl, (cr_words [("num" : Str), ("list" : Str)] ld0 rfl rfl (by show (2 : Nat) <= 100; decide) (.cons ⟨_, rfl⟩ (.cons ⟨_, rfl⟩ .nil)))⟩, ⟨_, _, rfl, ⟨.ref a_d1, rfl, (cr_words [("tree" : Str), ("num" : Str), ("tree" : Str)] ld1 rfl rfl (by show (3 : Nat) <= 100; decide) (.cons ⟨_, rfl⟩ (.cons ⟨_, rfl⟩ (.cons ⟨_, rfl⟩ .nil))))⟩, rfl⟩⟩⟩
  have D_is_whole := fd_is_whole (P := l.prog) (w := w) (base := base) T  F1 (PySem.W.mg_of X G a1)
  have D_is_name := fd_is_name (P := l.prog) (w := w) (base := base) T Z F2 (PySem.W.mg_of X G a2)
  have D_unlike := fd_unlike (P := l.prog) (w := w) (base := base) T  F3 (PySem.W.mg_of X G a3)
  have D_gives_right := fd_gives_right (P := l.prog) (w := w) (base := base) T Z D_is_whole F4 (PySem.W.mg_of X G a4)
  have D_head_right := fd_head_right (P := l.prog) (w := w) (base := base) T D_unlike D_is_name D_gives_right F5 (PySem.W.mg_of X G a5)
  have D_shape_if := fun_of (P := l.prog) (w := w) (base := base) T  F6 (PySem.W.mg_of X G a6)
  have D_call_shape := fun_of (P := l.prog) (w := w) (base := base) T  F7 (PySem.W.mg_of X G a7)
  have D_shape_of := fd_shapeOf (P := l.prog) (w := w) (base := base) T Z D_is_whole D_shape_if.1 D_shape_if.2 D_call_shape.1 D_call_shape.2 F8 (PySem.W.mg_of X G a8)
  have D_body_right := fd_body_right (n := 2) (P := l.prog) (w := w) (base := base) T Z (D_shape_of 2) F9 (PySem.W.mg_of X G a9)
  have D_right := fd_right (n := 2) (P := l.prog) (w := w) (base := base) T Z D_head_right D_unlike D_body_right F10 (PySem.W.mg_of X G a10)
  have D__law_cell_at := fd_law_cell_at (P := l.prog) (w := w) (base := base) T  F11 (PySem.W.mg_of X G a11)
  have D__law_name := fd_law_name (P := l.prog) (w := w) (base := base) T  F12 (PySem.W.mg_of X G a12)
  have D__law_kinds := fd_law_kinds (P := l.prog) (w := w) (base := base) T  F13 (PySem.W.mg_of X G a13)
  have D__law_arg := fd_law_arg (P := l.prog) (w := w) (base := base) T D__law_name F14 (PySem.W.mg_of X G a14)
  have D__law_parts := fz_parts (P := l.prog) (w := w) (base := base) T D__law_cell_at D__law_kinds F15 (PySem.W.mg_of X G a15)
  have D__law_spoiled := fr_spoiled (P := l.prog) (w := w) (base := base) T  F16 (PySem.W.mg_of X G a16)
  have D__law_due := fd_law_due (P := l.prog) (w := w) (base := base) T  F17 (PySem.W.mg_of X G a17)
  have D__law_function := fd_law_function (P := l.prog) (w := w) (base := base) T D__law_name D__law_arg F18 (PySem.W.mg_of X G a18)
  exact ok_law T D__law_cell_at D__law_parts D__law_spoiled D__law_function D__law_due D_right F19
end
end K04
open PySem PySem.W PyProof.Rows
set_option maxRecDepth 100000 in
set_option maxHeartbeats 0 in
theorem PySem.Challenge.cw_toll_k04_functions_holds : PySem.Challenge.rw_toll_k04_functions.Holds := by
  w_on; o_law; k_head; (case hw => w_witness2)
  k_fill
  refine DL.walkD (l := PySem.Challenge.rw_toll_k04_functions) (k := 60) (x := "_law_script") rfl rfl ⟨rfl, by decide, by decide⟩ (fun w h Y => PySem.W.kIn_of Y) ?F
  case F =>
    intro w mg fa h KX G hmg
    refine' K04.all_mk KX G hmg ?a1 ?l1 ?c1 ?k1 ?a2 ?l2 ?c2 ?k2 ?a3 ?l3 ?c3 ?k3 ?a4 ?l4 ?c4 ?k4 ?a5 ?l5 ?c5 ?k5 ?a6 ?l6 ?c6 ?k6 ?a7 ?l7 ?c7 ?k7 ?a8 ?l8 ?c8 ?k8 ?a9 ?l9 ?c9 ?k9 ?a10 ?l10 ?c10 ?k10 ?a11 ?l11 ?c11 ?k11 ?a12 ?l12 ?c12 ?k12 ?a13 ?l13 ?c13 ?k13 ?a14 ?l14 ?c14 ?k14 ?a15 ?l15 ?c15 ?k15 ?a16 ?l16 ?c16 ?k16 ?a17 ?l17 ?c17 ?k17 ?a18 ?l18 ?c18 ?k18 ?a19 ?l19 ?c19 ?k19 ?bL ?bS ?lS ?bN ?lN ?bF ?lF ?lb0 ?lc0 ?lb1 ?lc1 ?lb2 ?lc2 ?lb3 ?lc3 ?lb4 ?lc4 ?lb5 ?lc5 ?bB ?lB ?ld0 ?ld1 ?nF ?nB ?z_all ?z_any ?z_bool ?z_dict ?z_int ?z_isinstance ?z_len ?z_list ?z_max ?z_range ?z_reversed ?z_set ?z_str ?z_tuple ?z_zip
    (case a1 => k_is)
    (case l1 => k_is)
    (case c1 => k_is)
    (case k1 => k_is)
    (case a2 => k_is)
    (case l2 => k_is)
    (case c2 => k_is)
    (case k2 => k_is)
    (case a3 => k_is)
    (case l3 => k_is)
    (case c3 => k_is)
    (case k3 => k_is)
    (case a4 => k_is)
    (case l4 => k_is)
    (case c4 => k_is)
    (case k4 => k_is)
    (case a5 => k_is)
    (case l5 => k_is)
    (case c5 => k_is)
    (case k5 => k_is)
    (case a6 => k_is)
    (case l6 => k_is)
    (case c6 => k_is)
    (case k6 => k_is)
    (case a7 => k_is)
    (case l7 => k_is)
    (case c7 => k_is)
    (case k7 => k_is)
    (case a8 => k_is)
    (case l8 => k_is)
    (case c8 => k_is)
    (case k8 => k_is)
    (case a9 => k_is)
    (case l9 => k_is)
    (case c9 => k_is)
    (case k9 => k_is)
    (case a10 => k_is)
    (case l10 => k_is)
    (case c10 => k_is)
    (case k10 => k_is)
    (case a11 => k_is)
    (case l11 => k_is)
    (case c11 => k_is)
    (case k11 => k_is)
    (case a12 => k_is)
    (case l12 => k_is)
    (case c12 => k_is)
    (case k12 => k_is)
    (case a13 => k_is)
    (case l13 => k_is)
    (case c13 => k_is)
    (case k13 => k_is)
    (case a14 => k_is)
    (case l14 => k_is)
    (case c14 => k_is)
    (case k14 => k_is)
    (case a15 => k_is)
    (case l15 => k_is)
    (case c15 => k_is)
    (case k15 => k_is)
    (case a16 => k_is)
    (case l16 => k_is)
    (case c16 => k_is)
    (case k16 => k_is)
    (case a17 => k_is)
    (case l17 => k_is)
    (case c17 => k_is)
    (case k17 => k_is)
    (case a18 => k_is)
    (case l18 => k_is)
    (case c18 => k_is)
    (case k18 => k_is)
    (case a19 => k_is)
    (case l19 => k_is)
    (case c19 => k_is)
    (case k19 => k_is)
    (case bL => k_is)
    (case bS => k_is)
    (case lS => k_is)
    (case bN => k_is)
    (case lN => k_is)
    (case bF => k_is)
    (case lF => k_is)
    (case lb0 => k_is)
    (case lc0 => k_is)
    (case lb1 => k_is)
    (case lc1 => k_is)
    (case lb2 => k_is)
    (case lc2 => k_is)
    (case lb3 => k_is)
    (case lc3 => k_is)
    (case lb4 => k_is)
    (case lc4 => k_is)
    (case lb5 => k_is)
    (case lc5 => k_is)
    (case bB => k_is)
    (case lB => k_is)
    (case ld0 => k_is)
    (case ld1 => k_is)
    (case nF => rfl)
    (case nB => rfl)
    (case z_all => k_is)
    (case z_any => k_is)
    (case z_bool => k_is)
    (case z_dict => k_is)
    (case z_int => k_is)
    (case z_isinstance => k_is)
    (case z_len => k_is)
    (case z_list => k_is)
    (case z_max => k_is)
    (case z_range => k_is)
    (case z_reversed => k_is)
    (case z_set => k_is)
    (case z_str => k_is)
    (case z_tuple => k_is)
    (case z_zip => k_is)
