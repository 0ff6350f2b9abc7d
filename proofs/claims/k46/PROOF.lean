import PyProof.Rows.All
import Wide.All
import OpenK.AllK
import Wide.FinOn
import Lean
import PyProof.EqAt
import PyProof.EqKinds
import PyProof.TupleCall
import PyProof.NeKinds
import PyProof.Rows.Range3
import KE.KDictOf
import KE.KMinBuiltin
import PyProof.Rows.CallKwBuiltin
import KE.KRevIter
import KE.KDictList
import PyProof.DictWalks
import KE.KSortTup
import KE.KDictSum
import KE.KItemsList
import PyProof.StrLaws
import PyProof.StrCalls
import PyProof.StrBlockH
import KE.KIntText
import KE.IntTextLaws
import PyProof.StrOps2
import PyProof.SliceStr2
import PyProof.StrBlockI
import PyProof.Rows.StrNews2
import PyProof.Rows.RegReprOcc
import PyProof.StrLawsFirst
import PyProof.StrLawsFrom
import PySem.Challenge.RW_toll_k46_whole_chain
set_option Elab.async false
set_option linter.all false
set_option maxRecDepth 100000
set_option maxHeartbeats 8000000
set_option exponentiation.threshold 5000
set_option compiler.extract_closed false
set_option bootstrap.genMatcherCode false
namespace L2
open PySem PySem.Spec PyProof.Rows
noncomputable abbrev Key:=Sum Int Str
noncomputable def U0:Key->Value->Bool
 | .inl k,v=>Value.isInt k v
 | .inr x,v=>Value.isStrOf x v
noncomputable def keyH (w:World):Key->Int
 | .inl k=>hashInt k
 | .inr x=>hashStr w x
theorem yr:∀ {k:Key} {v:Value},U0 k v = true->(∃ i t,k = Sum.inl i /\ v = Value.int i t) \/ (∃ x t,k = Sum.inr x /\ v = Value.str x t)
 | .inl i,v,h=>by
  obtain ⟨t,e⟩:=Value.isInt_shape (k:=i) (v:=v) h
  exact .inl ⟨i,t,rfl,e⟩
 | .inr x,v,h=>by
  obtain ⟨t,e⟩:=Value.isStrOf_shape (x:=x) (v:=v) h
  exact .inr ⟨x,t,rfl,e⟩
theorem Sd (i:Int) (t:Tok):U0 (.inl i) (.int i t) = true:=by simp [U0,Value.isInt]
theorem Sb (x:Str) (t:Tok):U0 (.inr x) (.str x t) = true:=by simp [U0,Value.isStrOf]
theorem Fb (a b:Int):decide ((Sum.inl a:Key) = Sum.inl b) = (a == b):=by
 by_cases e:a = b
 ·subst e; simp
 ·have h:¬ (Sum.inl a:Key) = Sum.inl b:=fun q=>e (Sum.inl.inj q)
  rw [decide_eq_false h]
  exact (beq_eq_false_iff_ne.mpr e).symm
theorem Gy (a b:Str):decide ((Sum.inr a:Key) = Sum.inr b) = decide (a = b):=by
 by_cases e:a = b
 ·subst e; simp
 ·have h:¬ (Sum.inr a:Key) = Sum.inr b:=fun q=>e (Sum.inr.inj q)
  rw [decide_eq_false h,decide_eq_false e]
theorem Fa (a:Int) (b:Str):decide ((Sum.inl a:Key) = Sum.inr b) = false:=decide_eq_false (fun q=>nomatch q)
theorem Gz (a:Str) (b:Int):decide ((Sum.inr a:Key) = Sum.inl b) = false:=decide_eq_false (fun q=>nomatch q)
noncomputable def yw (prog:Program) (w:World):PySem.KeyKind prog w Key where
 is:=U0
 hash:=keyH w
 inj:=fun v a b ha hb=>by
  rcases yr ha with ⟨i,t,rfl,rfl⟩ | ⟨x,t,rfl,rfl⟩
  ·rcases yr hb with ⟨j,u,rfl,e⟩ | ⟨y,u,rfl,e⟩
   ·injection e with e1 _; rw [e1]
   ·exact nomatch e
  ·rcases yr hb with ⟨j,u,rfl,e⟩ | ⟨y,u,rfl,e⟩
   ·exact nomatch e
   ·injection e with e1 _; rw [e1]
 byValue:=fun k v h=>by
  rcases yr h with ⟨i,t,rfl,rfl⟩ | ⟨x,t,rfl,rfl⟩ <;> rfl
 pyHash:=fun hv h=>by
  rcases yr hv with ⟨i,t,rfl,rfl⟩ | ⟨x,t,rfl,rfl⟩
  ·exact wpAny_pyHash_int h
  ·exact wpAny_pyHash_str h
 eqBool:=fun hu hv h=>by
  rcases yr hu with ⟨i,t,rfl,rfl⟩ | ⟨x,t,rfl,rfl⟩
  ·rcases yr hv with ⟨j,u,rfl,rfl⟩ | ⟨y,u,rfl,rfl⟩
   ·rw [Fb] at h; exact wpAny_eqBool_int h
   ·rw [Fa] at h; exact SeqAt.EqAt.int_str i t y u _ _ _ _ h
  ·rcases yr hv with ⟨j,u,rfl,rfl⟩ | ⟨y,u,rfl,rfl⟩
   ·rw [Gz] at h; exact SeqAt.EqAt.str_int x t j u _ _ _ _ h
   ·rw [Gy] at h; exact wpAny_eqBool_str h
 «strs»:=fun k x t v h=>by
  rcases yr h with ⟨i,u,rfl,e⟩ | ⟨y,u,rfl,e⟩
  ·exact nomatch e
  ·injection e with e1 _
   subst e1
   cases v <;> rfl
theorem Yu (prog:Program) (w:World) (i:Int) (t:Tok):(yw prog w).is (.inl i) (.int i t) = true:=Sd i t
theorem Yt (prog:Program) (w:World) (x:Str) (t:Tok):(yw prog w).is (.inr x) (.str x t) = true:=Sb x t
inductive V where
 | non | bl (b:Bool) | int (i:Int) | str (x:Str) | byt (b:Array UInt8) | flt (b:UInt64) | ref (a:Addr) | ty (n:String)
 deriving DecidableEq
noncomputable def RelV:V->Value->Prop
 | .non,u=>u = Value.none
 | .bl b,u=>u = Value.bool b
 | .int i,u=>∃ t,u = Value.int i t
 | .str x,u=>∃ t,u = Value.str x t
 | .byt b,u=>∃ t,u = Value.bytes b t
 | .flt b,u=>∃ t,u = Value.float b t
 | .ref a,u=>u = Value.ref a
 | .ty n,u=>u = Value.type n
noncomputable abbrev Vals:List V->List Value->Prop:=Paired RelV
theorem Vals.length {xs:List V} {us:List Value} (r:Vals xs us):xs.length = us.length:=Paired.length r
theorem Vals.get:∀ {xs:List V} {us:List Value} {i:Nat} {x:V},Vals xs us->xs[i]? = some x->∃ u,us[i]? = some u /\ RelV x u
 | _,_,_,_,.nil,e=>by simp at e
 | _,_,0,_,.cons r _,e=>by simp at e; subst e; exact ⟨_,rfl,r⟩
 | _,_,i + 1,x,.cons _ t,e=>by
  obtain ⟨u,h1,h2⟩:=Vals.get (i:=i) (x:=x) t (by simpa using e)
  exact ⟨u,by simpa using h1,h2⟩
theorem Vals.set {x:V} {u:Value} (r:RelV x u):∀ {xs:List V} {us:List Value} (i:Nat),Vals xs us->Vals (xs.set i x) (us.set i u)
 | _,_,_,.nil=>.nil
 | _,_,0,.cons _ t=>.cons r t
 | _,_,i + 1,.cons q t=>.cons q (Vals.set r i t)
theorem Vals.append:∀ {xs ys:List V} {us ws:List Value},Vals xs us->Vals ys ws->Vals (xs ++ ys) (us ++ ws)
 | _,_,_,_,.nil,s=>s
 | _,_,_,_,.cons r t,s=>.cons r (Vals.append t s)
theorem Vals.take:∀ {xs:List V} {us:List Value} (n:Nat),Vals xs us->Vals (xs.take n) (us.take n)
 | _,_,0,_=>.nil
 | _,_,_ + 1,.nil=>.nil
 | _,_,n + 1,.cons r t=>.cons r (Vals.take n t)
theorem Vals.drop:∀ {xs:List V} {us:List Value} (n:Nat),Vals xs us->Vals (xs.drop n) (us.drop n)
 | _,_,0,r=>r
 | _,_,_ + 1,.nil=>.nil
 | _,_,n + 1,.cons _ t=>Vals.drop n t
theorem Vals.none_of:∀ {xs:List V} {us:List Value} {i:Nat},Vals xs us->xs[i]? = none->us[i]? = none:=fun {xs us i} r e=>by
 have h1:=r.length
 have h2:xs.length <= i:=List.getElem?_eq_none_iff.mp e
 exact List.getElem?_eq_none_iff.mpr (by omega)
noncomputable def RelO:Option V->Option Value->Prop
 | some v,some u=>RelV v u
 | none,none=>True
 | _,_=>False
noncomputable def KV {κ:Type}:List (κ × V)->List (κ × Value)->Prop:=Paired fun (p:κ × V) (q:κ × Value)=>p.1 = q.1 /\ RelV p.2 q.2
noncomputable def kV:Key->V
 | .inl i=>.int i
 | .inr x=>.str x
inductive HO where
  | lst (xs:List V)
  | tup (xs:List V)
  | dK (kvs:List (Key × V)) | dT (kvs:List (List Key × V))
  | set (S:Int->Bool) (n:Nat)
  | ins (C dx:Addr) (fs:List (Str × V))
  | own (x:Addr)
  | xd (fs:List (Str × V))
  | met (f x:Addr)
  | rng (lo hi:Int)
  | frz (o:Obj) (u:HO)
  | tbl (ps:Array Value)
  | ext (φ:Heap->Prop)
noncomputable abbrev Hp:=Addr->Option HO
noncomputable def upd (H:Hp) (a:Addr) (o:HO):Hp:=fun b=>if b = a then some o else H b
theorem zk {H:Hp} {a:Addr} {o:HO}:upd H a o a = some o:=by unfold upd; rw [if_pos rfl]
theorem zj {H:Hp} {a b:Addr} {o:HO} (h:b ≠ a):upd H a o b = H b:=by unfold upd; rw [if_neg h]
theorem Ex {H:Hp} {a b:Addr} {o u:HO} (h:H a = some o) (h':H b = some u) (d:o ≠ u):a ≠ b:=by
 intro e; subst e; rw [h] at h'; exact d (Option.some.inj h')
theorem ze {H:Hp} {a b:Addr} {o:HO} (h:H a = some o) (h':H b = none):a ≠ b:=by
 intro e; subst e; rw [h] at h'; cases h'
section
variable (P:Program) (w:World)
noncomputable def w6 (H:Hp) (h:Heap) (a:Addr):HO->Prop
 | .lst xs=>xs.length <= sizeLine /\ ∃ (its:List Value) (n:Nat),Vals xs its /\ h.get? a = some { cls:=.type "list", data:=.seq its.toArray n }
 | .tup xs=>xs.length <= sizeLine /\ ∃ its:List Value,Vals xs its /\ IsTup h a its.toArray /\ ∃ o,h.get? a = some o /\ o.dict = none
 | .dK kvs=>kvs.length <= sizeLine /\ (a == sysModules) = false /\ ∃ vs,KV kvs vs /\ h.DictOf (yw P w) a vs
 | .dT kvs=>kvs.length <= sizeLine /\ (a == sysModules) = false /\ ∃ xs:List (List Key × Addr × Value),
   Paired (fun (p:List Key × V) (q:List Key × Addr × Value)=>p.1 = q.1 /\ H q.2.1 = some (.tup (p.1.map kV)) /\ RelV p.2 q.2.2) kvs xs /\
   ∃ o es ep,h.get? a = some o /\ o.ExactDict /\ o.data = .dict es ep /\ es.toList = xs.map (entryOfKey (tupleKind (yw P w))) /\ (xs.map (·.1)).Nodup
 | .set S n=>h.SetOf (intKind P w) a S n
 | .ins C dx fs=>H dx = some (.own a) /\ fs.length <= 1000 /\ dx ≠ a /\ h.get? a = some (W.instObj C dx) /\
   ∃ mA,h.Ns1 dx mA /\ (∀ f,RelO (fs.lookup f) (mA f)) /\ PySem.Within mA (fs.map (·.1))
 | .own _=>∃ o,h.get? a = some o
 | .xd fs=>∃ mA,h.Ns1 a mA /\ ∀ f,RelO (fs.lookup f) (mA f)
 | .rng lo hi=>∃ t u v,h.get? a = some { cls:=.type "range", data:=.fields #[.int lo t,.int hi u,.int 1 v] }
 | .frz o u=>h.get? a = some o /\ w6 H h a u
 | .tbl ps=>h.get? a = some { cls:=.none,data:=.fields ps }
 | .met f x=>h.get? a = some (W.methodObj (.ref f) (.ref x))
 | .ext φ=>φ h /\ (∃ o,h.get? a = some o) /\ ∀ h1 h2:Heap,φ h1->(∀ o,h1.get? a = some o->h2.get? a = some o)->φ h2
noncomputable def HOk (H:Hp) (h:Heap):Prop:=∀ a o,H a = some o->w6 P w H h a o
end
section
variable {P:Program} {w:World} {H H':Hp} {h h':Heap} {a:Addr} {o:HO}
theorem w6.lt (x:w6 P w H h a o):a < h.objs.size:=by
 cases o with
 | lst xs=>obtain ⟨_,_,_,_,e⟩:=x; exact Heap.lt_size e
 | tup xs=>obtain ⟨_,_,_,p⟩:=x; exact p.1.lt
 | dK kvs=>obtain ⟨_,_,_,_,o,_,_,e,_⟩:=x; exact Heap.lt_size e
 | dT kvs=>obtain ⟨_,_,_,_,o,_,_,e,_⟩:=x; exact Heap.lt_size e
 | set S n=>obtain ⟨o,_,_,_,e,_⟩:=x; exact Heap.lt_size e
 | ins C dx fs=>obtain ⟨_,_,_,e,_⟩:=x; exact Heap.lt_size e
 | own y=>obtain ⟨_,e⟩:=x; exact Heap.lt_size e
 | xd fs=>obtain ⟨_,⟨_,_,_,e,_⟩,_⟩:=x; exact Heap.lt_size e
 | rng lo hi=>obtain ⟨_,_,_,e⟩:=x; exact Heap.lt_size e
 | frz ob u=>obtain ⟨e,_⟩:=x; exact Heap.lt_size e
 | tbl ps=>exact Heap.lt_size (show h.get? a = some _ from x)
 | met f y=>exact Heap.lt_size (show h.get? a = some _ from x)
 | ext φ=>obtain ⟨_,⟨_,e⟩,_⟩:=x; exact Heap.lt_size e
theorem Paired.mapP {α β:Type} {F G:α->β->Prop}:∀ {l₁:List α} {l₂:List β},Paired F l₁ l₂->(∀ a b,F a b->G a b)->Paired G l₁ l₂
 | _,_,.nil,_=>.nil
 | _,_,.cons r t,f=>.cons (f _ _ r) (Paired.mapP t f)
theorem w6.stay (x:w6 P w H h a o) (k:∀ b u,(b = a \/ H b = some (.own a))->h.get? b = some u->h'.get? b = some u)
  (ho:∀ b,H b = some (.own a)->H' b = some (.own a)) (ht:∀ b xs,H b = some (.tup xs)->H' b = some (.tup xs)):w6 P w H' h' a o:=by
 induction o with
 | lst xs=>obtain ⟨z,its,n,r,e⟩:=x; exact ⟨z,its,n,r,k _ _ (.inl rfl) e⟩
 | tup xs=>obtain ⟨z,its,r,⟨ob,e,c⟩,od,ed,cd⟩:=x; exact ⟨z,its,r,⟨ob,k _ _ (.inl rfl) e,c⟩,od,k _ _ (.inl rfl) ed,cd⟩
 | dK kvs=>obtain ⟨z,y,vs,r,ob,es,ep,e,c⟩:=x; exact ⟨z,y,vs,r,ob,es,ep,k _ _ (.inl rfl) e,c⟩
 | dT kvs =>
  obtain ⟨z,y,xs,r,ob,es,ep,e,c⟩:=x
  exact ⟨z,y,xs,Paired.mapP r fun p q z=>⟨z.1,ht _ _ z.2.1,z.2.2⟩,ob,es,ep,k _ _ (.inl rfl) e,c⟩
 | set S n=>obtain ⟨ob,es,ep,t,e,c⟩:=x; exact ⟨ob,es,ep,t,k _ _ (.inl rfl) e,c⟩
 | ins C dx fs =>
  obtain ⟨d,z,ne,e,mA,⟨od,es,ep,e2,c⟩,r⟩:=x
  exact ⟨ho _ d,z,ne,k _ _ (.inl rfl) e,mA,⟨od,es,ep,k _ _ (.inr d) e2,c⟩,r⟩
 | own y=>obtain ⟨ob,e⟩:=x; exact ⟨ob,k _ _ (.inl rfl) e⟩
 | xd fs=>obtain ⟨mA,⟨od,es,ep,e,c⟩,r⟩:=x; exact ⟨mA,⟨od,es,ep,k _ _ (.inl rfl) e,c⟩,r⟩
 | rng lo hi=>obtain ⟨t,u,v,e⟩:=x; exact ⟨t,u,v,k _ _ (.inl rfl) e⟩
 | frz ob u ih=>obtain ⟨e,q⟩:=x; exact ⟨k _ _ (.inl rfl) e,ih q⟩
 | tbl ps =>
  have e:h.get? a = some { cls:=.none,data:=.fields ps }:=x
  show h'.get? a = some { cls:=.none,data:=.fields ps }
  exact k a _ (.inl rfl) e
 | met f y =>
  have e:h.get? a = some (W.methodObj (.ref f) (.ref y)):=x
  show h'.get? a = some (W.methodObj (.ref f) (.ref y))
  exact k a _ (.inl rfl) e
 | ext φ=>obtain ⟨p,⟨o,e⟩,st⟩:=x; exact ⟨st _ _ p fun o q=>k _ _ (.inl rfl) q,⟨o,k _ _ (.inl rfl) e⟩,st⟩
theorem HOk.lt (x:HOk P w H h) (e:H a = some o):a < h.objs.size:=(x a o e).lt
theorem HOk.fresh (x:HOk P w H h) (e:h.objs.size <= a):H a = none:=by
 cases q:H a with
 | none=>rfl
 | some u=>exact absurd (Nat.lt_of_lt_of_le (x.lt q) e) (Nat.lt_irrefl _)
theorem HOk.kept (x:HOk P w H h) (k:∀ b u,h.get? b = some u->h'.get? b = some u):HOk P w H h':=fun a o e =>
 (x a o e).stay (fun b u _ q=>k b u q) (fun _ q=>q) fun _ _ q=>q
theorem HOk.laid (x:HOk P w H h) (k:∀ b u,h.get? b = some u->h'.get? b = some u) (hp:h.objs.size <= a) (new:w6 P w (upd H a o) h' a o):HOk P w (upd H a o) h':=fun b u e=>by
 have hn:=x.fresh hp
 by_cases hb:b = a
 ·subst hb; rw [zk] at e; cases e; exact new
 ·rw [zj hb] at e
  exact (x b u e).stay (fun c v _ q=>k c v q) (fun c q=>by rw [zj (ze q hn)]; exact q) fun c xs q=>by rw [zj (ze q hn)]; exact q
end
noncomputable def Rd (H:Hp) (a:Addr) (u:HO):Prop:=H a = some u \/ ∃ o,H a = some (.frz o u)
theorem Rd.ok {P:Program} {w:World} {H:Hp} {h:Heap} {a:Addr} {u:HO} (r:Rd H a u) (x:HOk P w H h):w6 P w H h a u:=by
 rcases r with r | ⟨o,r⟩
 ·exact x a u r
 ·obtain ⟨_,q⟩:=x a _ r
  exact q
noncomputable def Mut:Option HO->Prop
 | some (.lst _)=>True
 | some (.dK _)=>True
 | some (.dT _)=>True
 | some (.set _ _)=>True
 | some (.ins _ _ _)=>True
 | some (.ext _)=>True
 | _=>False
section
variable {P:Program} {w:World} {H:Hp} {h h':Heap} {x e:Addr} {o':HO}
theorem HOk.write (ok:HOk P w H h) (mu:Mut (H x)) (he:e = x \/ H e = some (.own x)) (k:∀ b u,b ≠ e->h.get? b = some u->h'.get? b = some u) (heo:∃ u,h'.get? e = some u)
  (new:w6 P w (upd H x o') h' x o'):HOk P w (upd H x o') h':=fun b u q=>by
 have nown:∀ c y,H c = some (.own y)->c ≠ x:=fun c y r z=>by subst z; rw [r] at mu; exact mu
 have ntup:∀ c xs,H c = some (.tup xs)->c ≠ x:=fun c xs r z=>by subst z; rw [r] at mu; exact mu
 by_cases hb:b = x
 ·subst hb; rw [zk] at q; cases q; exact new
 ·rw [zj hb] at q
  by_cases hbe:b = e
  ·have q':H b = some (.own x):=by
    rcases he with z | z
    ·exact absurd (hbe.trans z) hb
    ·rw [hbe]; exact z
   rw [q] at q'; cases q'
   obtain ⟨v,hv⟩:=heo
   exact ⟨v,by rw [hbe]; exact hv⟩
  ·refine (ok b u q).stay (fun c v hc r=>k c v ?_ r) (fun c r=>by rw [zj (nown c b r)]; exact r) fun c xs r=>by rw [zj (ntup c xs r)]; exact r
   rcases hc with rfl | hc
   ·exact hbe
   ·rintro rfl
    rcases he with z | z
    ·exact nown c b hc z
    ·rw [hc] at z; cases z; exact hb rfl
end
structure Un (fs ex:List Addr) (H H':Hp) (h h':Heap):Prop where
 keep:∀ b o,h.get? b = some o->H b = none->b ∉ fs->b ∉ ex->h'.get? b = some o
 slot:∀ b o,h.get? b = some o->H b = none->b ∈ fs->b ∉ ex->∃ sl,h'.get? b = some { o with slots:=sl }
 free:∀ b o,h.get? b = some o->H b = none->b ∉ ex->H' b = none
 there:∀ b o,h.get? b = some o->b ∉ ex->∃ o',h'.get? b = some o'
 tups:∀ b xs,H b = some (.tup xs)->H' b = some (.tup xs)
 frzs:∀ b o u,H b = some (.frz o u)->H' b = some (.frz o u)
 tbls:∀ b ps,H b = some (.tbl ps)->∃ more,H' b = some (.tbl (ps ++ more))
section
variable {fs fs' ex ex':List Addr} {H H1 H2:Hp} {h h1 h2 h':Heap} {a x e:Addr} {o:HO}
theorem Un.any (u:Un fs ex H H1 h h1) {b:Addr} {ob:Obj} (q:h.get? b = some ob) (n:H b = none) (hx:b ∉ ex):∃ sl,h1.get? b = some { ob with slots:=sl }:=by
 by_cases hb:b ∈ fs
 ·exact u.slot b ob q n hb hx
 ·exact ⟨ob.slots,u.keep b ob q n hb hx⟩
theorem Un.trans (a:Un fs ex H H1 h h1) (b:Un fs ex H1 H2 h1 h2):Un fs ex H H2 h h2 where
 keep:=fun c ob q n hc hx=>b.keep c ob (a.keep c ob q n hc hx) (a.free c ob q n hx) hc hx
 slot:=fun c ob q n hc hx=>by
  obtain ⟨sl,e1⟩:=a.slot c ob q n hc hx
  obtain ⟨sl',e2⟩:=b.slot c _ e1 (a.free c ob q n hx) hc hx
  exact ⟨sl',e2⟩
 free:=fun c ob q n hx=>by
  obtain ⟨o',e1⟩:=a.there c ob q hx
  exact b.free c o' e1 (a.free c ob q n hx) hx
 there:=fun c ob q hx=>by
  obtain ⟨o',e1⟩:=a.there c ob q hx
  exact b.there c o' e1 hx
 tups:=fun c xs q=>b.tups c xs (a.tups c xs q)
 frzs:=fun c ob xs q=>b.frzs c ob xs (a.frzs c ob xs q)
 tbls:=fun c ps q=>by
  obtain ⟨m1,e1⟩:=a.tbls c ps q
  obtain ⟨m2,e2⟩:=b.tbls c _ e1
  exact ⟨m1 ++ m2,by rw [e2,Array.append_assoc]⟩
theorem Un.kept (k:∀ b u,h.get? b = some u->h'.get? b = some u):Un fs ex H H h h' :=
 ⟨fun b ob q _ _ _=>k b ob q,fun b ob q _ _ _=>⟨ob.slots,k b ob q⟩,fun _ _ _ n _=>n,fun b ob q _=>⟨ob,k b ob q⟩,fun _ _ q=>q,fun _ _ _ q=>q,fun _ ps q=>⟨#[],by rw [q]; simp⟩⟩
theorem Un.refl:Un fs ex H H h h:=Un.kept fun _ _ q=>q
theorem Un.laid (k:∀ b u,h.get? b = some u->h'.get? b = some u) (hp:h.objs.size <= a) (hn:H a = none):Un fs ex H (upd H a o) h h' where
 keep:=fun b u q _ _ _=>k b u q
 slot:=fun b u q _ _ _=>⟨u.slots,k b u q⟩
 free:=fun b u q n _=>by rw [zj (Nat.ne_of_lt (Nat.lt_of_lt_of_le (Heap.lt_size q) hp))]; exact n
 there:=fun b u q _=>⟨u,k b u q⟩
 tups:=fun b xs q=>by rw [zj (ze q hn)]; exact q
 frzs:=fun b u xs q=>by rw [zj (ze q hn)]; exact q
 tbls:=fun b ps q=>⟨#[],by rw [zj (ze q hn),q]; simp⟩
theorem Un.write (mu:Mut (H x)) (he:e = x \/ H e = some (.own x)) (k:∀ b u,b ≠ e->h.get? b = some u->h'.get? b = some u) (heo:∃ u,h'.get? e = some u):Un fs ex H (upd H x o) h h':=by
 have hx:∀ b,H b = none->b ≠ x:=fun b n z=>by subst z; rw [n] at mu; exact mu
 have hb:∀ b,H b = none->b ≠ e:=fun b n z=>by
  subst z
  rcases he with r | r
  ·exact hx b n r
  ·rw [n] at r; cases r
 have hm:∀ b u,H b = some u->¬ Mut (some u)->b ≠ x:=fun b u q nm z=>by subst z; rw [q] at mu; exact nm mu
 refine ⟨fun b u q n _ _=>k b u (hb b n) q,fun b u q n _ _=>⟨u.slots,k b u (hb b n) q⟩,fun b u q n _=>by rw [zj (hx b n)]; exact n,fun b u q _=>?_,
  fun b xs q=>by rw [zj (hm b _ q fun z=>z)]; exact q,fun b u xs q=>by rw [zj (hm b _ q fun z=>z)]; exact q,fun b ps q=>⟨#[],by rw [zj (hm b _ q fun z=>z),q]; simp⟩⟩
 by_cases hbe:b = e
 ·subst hbe; exact heo
 ·exact ⟨u,k b u hbe q⟩
end
noncomputable def trk (h:Heap) (H:Hp):List Addr:=(List.range h.objs.size).filter fun a=>(H a).isSome
noncomputable def hidT (h:Heap) (H:Hp):Heap:=W.hideAll h (trk h H)
theorem Sm (h:Heap) (H:Hp):(hidT h H).objs.size = h.objs.size:=W.hideAll_size _ _
theorem O2 {h:Heap} {H:Hp} {b:Addr} {o:Obj} (e:h.get? b = some o) (n:H b = none):(hidT h H).get? b = some o :=
 W.hideAll_get _ e fun hm=>by
  have q:(H b).isSome = true:=(List.mem_filter.mp hm).2
  rw [n] at q; simp at q
theorem Lm {h:Heap} {H:Hp} {b:Addr} {o:Obj} (e:(hidT h H).get? b = some o):h.get? b = some o /\ H b = none:=by
 have e':h.get? b = some o:=W.of_hideAll (trk h H) e
 refine ⟨e',?_⟩
 cases q:H b with
 | none=>rfl
 | some x =>
  have hm:b ∈ trk h H:=List.mem_filter.mpr ⟨List.mem_range.mpr (Heap.lt_size e'),by simp [q]⟩
  have z:(hidT h H).get? b = none:=W.hideAll_none (trk h H) hm
  rw [z] at e; cases e
noncomputable def Ku (g h:Heap) (L:Addr):List (Addr × Obj):=(List.range h.objs.size).filterMap fun a=>if a = L \/ (g.get? a).isSome = true then none else (h.get? a).map fun o=>(a,o)
noncomputable def rest (g h:Heap) (L d:Addr):List (Addr × Obj):=(Ku g h L).filter fun p=>decide (p.1 ≠ d)
structure Mod (K:W.Frag) (mg:Str->Option Value) (base:Heap):Prop where
 kin:K.In base
 glob:base.Ns mainGlobals mg
 blt:∃ mb,base.Ns builtinsNs mb /\ ∀ x:Str,x ≠ "__name__"->mb x = bootBuiltins x
 nolimit:base.NoLimit
structure Cx where
 prog:Program
 w:World
 K:W.Frag
 mg:Str->Option Value
 base:Heap
 A:Around
 N:List Str
 s₀:Shared
 H₀:Hp
 env:Env
 outer:List Env
 stack:List Env
 ex:List Addr
 fn:Str->Bool
 calm:Bool
 pn:List (Addr × Obj)
 xe:Value->Shared->Prop
noncomputable def frs (l:List Env):List Addr:=l.filterMap (·.frame)
noncomputable abbrev Cx.fs (X:Cx):List Addr:=frs X.outer
noncomputable def Vis (sc:Scope) (x:Str):Prop:=sc.names.lookup x = some .local \/ sc.names.lookup x = some .cell \/ sc.names.lookup x = some .free
noncomputable def Loc (sc:Scope) (x:Str):Prop:=sc.names.lookup x = some .local \/ sc.names.lookup x = some .cell
noncomputable def Look (env:Env) (h:Heap) (m:Str->Option Value) (x:Str) (u:Value):Prop :=
 (env.kindOf x = some .local /\ m x = some u) \/ ((env.kindOf x = some .cell \/ env.kindOf x = some .free) /\ ∃ c,env.cells.lookup x = some c /\ h.IsCell c (some u))
structure Cx.Ok (X:Cx):Prop where
 mod:Mod X.K X.mg X.base
 kind:X.env.scope.kind = .function
 glob:X.env.globals = mainGlobals
 blt:X.env.builtins = builtinsNs
 above:X.s₀.heap.objs.size <= X.env.locals
 inj:∀ x y c,X.env.cells.lookup x = some c->X.env.cells.lookup y = some c->x = y
 has:∀ x,(X.env.kindOf x = some .cell \/ X.env.kindOf x = some .free)->∃ c,X.env.cells.lookup x = some c
 cab:∀ x c,X.fn x = true->X.env.cells.lookup x = some c->X.s₀.heap.objs.size <= c
 hd:X.calm = true->X.A.handled = none
 frames:X.A.frames = some X.stack
 stk:X.stack = X.outer \/ (X.stack = X.env :: X.outer /\ X.env.frame = some X.env.locals)
 exf:∀ b ∈ X.ex,b ≠ X.env.locals /\ ∀ x c,X.env.cells.lookup x = some c->c ≠ b
 bs:∀ b o,X.base.get? b = some o->X.s₀.heap.get? b = some o /\ X.H₀ b = none
 bsz:X.base.objs.size <= X.s₀.heap.objs.size
 noex:∀ b o,X.base.get? b = some o->b ∉ X.ex
 exfs:∀ b ∈ X.ex,b ∉ X.fs
 funs:X.s₀.heap.FunFrames X.base X.outer
 frf:∀ b ∈ X.fs,X.H₀ b = none
structure Inv (X:Cx) (pn:List (Addr × Obj)) (σ:List (Option V)) (H:Hp) (s:Shared):Prop where
 ok:X.Ok
 os:s.os = X.s₀.os
 bare:AllBare s.gens
 base:Un X.fs X.ex X.H₀ H X.s₀.heap s.heap
 loc:∃ m,s.heap.Ns X.env.locals m /\ ∀ (i:Nat) (x:Str) (v:V),X.N[i]? = some x->σ[i]? = some (some v)->Vis X.env.scope x->∃ u,RelV v u /\ Look X.env s.heap m x u
 cell:∀ x c,X.env.cells.lookup x = some c->∃ v,s.heap.IsCell c v
 free:H X.env.locals = none
 freeC:∀ x c,X.env.cells.lookup x = some c->H c = none
 pin:∀ p ∈ X.pn ++ pn,s.heap.get? p.1 = some p.2 /\ H p.1 = none /\ p.1 ≠ X.env.locals /\ p.1 ∉ X.fs /\ ∀ v,p.2.data ≠ .cell v
 hok:HOk X.prog X.w H s.heap
 len:σ.length = X.N.length
section
variable {X:Cx} {pn:List (Addr × Obj)} {σ:List (Option V)} {H H':Hp} {s:Shared} {h':Heap}
theorem Cx.Ok.nofr (ok:X.Ok) {b:Addr} {o:Obj} (e:X.base.get? b = some o):b ∉ X.fs:=fun hb=>by
 have:=(ok.funs.mem hb).1
 rw [e] at this; cases this
theorem Inv.bs (I:Inv X pn σ H s):∀ b o,X.base.get? b = some o->s.heap.get? b = some o /\ H b = none:=fun b o e =>
 ⟨I.base.keep b o (I.ok.bs b o e).1 (I.ok.bs b o e).2 (I.ok.nofr e) (I.ok.noex b o e),I.base.free b o (I.ok.bs b o e).1 (I.ok.bs b o e).2 (I.ok.noex b o e)⟩
theorem Inv.bk (I:Inv X pn σ H s):∀ b o,X.base.get? b = some o->s.heap.get? b = some o:=fun b o e=>(I.bs b o e).1
theorem Inv.mod (I:Inv X pn σ H s):Mod X.K X.mg X.base:=I.ok.mod
theorem Inv.kIn (I:Inv X pn σ H s):X.K.In s.heap:=I.ok.mod.kin.keeps I.bk
theorem Inv.lt (I:Inv X pn σ H s):X.env.locals < s.heap.objs.size:=let ⟨_,hn,_⟩:=I.loc; hn.lt
theorem Inv.sz (I:Inv X pn σ H s):X.s₀.heap.objs.size <= s.heap.objs.size:=Nat.le_trans I.ok.above (Nat.le_of_lt I.lt)
theorem Inv.nofs (I:Inv X pn σ H s) {a:Addr} (h:s.heap.objs.size <= a):a ∉ X.fs:=fun hb=>by
 obtain ⟨_,o,ho,_⟩:=I.ok.funs.mem hb
 exact absurd (Nat.lt_of_lt_of_le (Heap.lt_size ho) (Nat.le_trans I.sz h)) (Nat.lt_irrefl _)
theorem Inv.cne (I:Inv X pn σ H s):∀ x c,X.env.cells.lookup x = some c->c ≠ X.env.locals:=fun x c e z=>by
 obtain ⟨v,o,ho,hd⟩:=I.cell x c e
 obtain ⟨m,⟨o',es,ep,ho',hd',_⟩,_⟩:=I.loc
 rw [z,ho'] at ho; cases ho; rw [hd'] at hd; cases hd
theorem Inv.funs (I:Inv X pn σ H s):s.heap.FunFrames X.base X.outer:=by
 have all:∀ (l:List Env),(∀ b ∈ frs l,b ∈ X.fs)->X.s₀.heap.FunFrames X.base l->s.heap.FunFrames X.base l:=by
  intro l
  induction l with
  | nil=>intro _ _; trivial
  | cons env r ih =>
   intro hs hl
   obtain ⟨hk,⟨L,o,hf,hn,ho,hd⟩,hr⟩:=hl
   have hL:L ∈ X.fs:=hs L (by unfold frs; rw [List.filterMap_cons,hf]; exact List.mem_cons_self)
   obtain ⟨sl,e⟩:=I.base.slot L o ho (I.ok.frf L hL) hL fun z=>I.ok.exfs L z hL
   exact ⟨hk,⟨L,_,hf,hn,e,hd⟩,ih (fun b hb=>hs b (by unfold frs; rw [List.filterMap_cons,hf]; exact List.mem_cons_of_mem _ hb)) hr⟩
 exact all X.outer (fun _ hb=>hb) I.ok.funs
theorem Inv.stack (I:Inv X pn σ H s):s.heap.FunFrames X.base X.stack:=by
 rcases I.ok.stk with e | ⟨e,hf⟩
 ·rw [e]; exact I.funs
 ·rw [e]
  obtain ⟨m,hn,_⟩:=I.loc
  refine .cons (by rw [I.ok.kind]; decide) hf hn ?_ I.funs
  exact Heap.get?_none_of_le (Nat.le_trans I.ok.bsz I.ok.above)
theorem Inv.stkSub (I:Inv X pn σ H s):∀ b ∈ frs X.stack,b ∈ X.env.locals :: X.fs:=fun b hb=>by
 rcases I.ok.stk with e | ⟨e,hf⟩
 ·rw [e] at hb; exact List.mem_cons_of_mem _ hb
 ·rw [e] at hb
  unfold frs at hb
  rw [List.filterMap_cons,hf] at hb
  exact hb
theorem Inv.stkFree (I:Inv X pn σ H s):∀ b ∈ frs X.stack,H b = none:=fun b hb=>by
 rcases List.mem_cons.mp (I.stkSub b hb) with e | hb
 ·rw [e]; exact I.free
 ·obtain ⟨_,o,ho,_⟩:=I.ok.funs.mem hb
  exact I.base.free b o ho (I.ok.frf b hb) fun z=>I.ok.exfs b z hb
theorem Inv.step {g':Array GenState} {t':Nat} {d':Drawn} {ch:List Addr} (I:Inv X pn σ H s)
  (hch:∀ b ∈ ch,(b ∈ X.ex \/ X.s₀.heap.objs.size <= b) /\ b ≠ X.env.locals /\ (∀ x c,X.env.cells.lookup x = some c->c ≠ b) /\ ∀ p ∈ X.pn ++ pn,p.1 ≠ b)
  (keep:∀ b o,b ≠ X.env.locals->b ∉ X.fs->b ∉ ch->s.heap.get? b = some o->H b = none->h'.get? b = some o)
  (slot:∀ b o,b ≠ X.env.locals->b ∈ X.fs->b ∉ ch->s.heap.get? b = some o->H b = none->∃ sl,h'.get? b = some { o with slots:=sl }) (free:∀ b o,b ∉ ch->s.heap.get? b = some o->H b = none->H' b = none)
  (there:∀ b o,b ∉ ch->s.heap.get? b = some o->∃ o',h'.get? b = some o')
  (tups:∀ b xs,H b = some (.tup xs)->H' b = some (.tup xs)) (frzs:∀ b o u,H b = some (.frz o u)->H' b = some (.frz o u)) (tbls:∀ b ps,H b = some (.tbl ps)->∃ more,H' b = some (.tbl (ps ++ more)))
  (ns:∀ m,s.heap.Ns X.env.locals m->h'.Ns X.env.locals m) (hok:HOk X.prog X.w H' h') (hg:AllBare g') :
  Inv X pn σ H' { s with heap:=h',gens:=g',drawn:=d',toks:=t' }:=by
 have neL:∀ b o,X.s₀.heap.get? b = some o->b ≠ X.env.locals:=fun b o e=>Nat.ne_of_lt (Nat.lt_of_lt_of_le (Heap.lt_size e) I.ok.above)
 have neC:∀ b o,X.s₀.heap.get? b = some o->b ∉ X.ex->b ∉ ch:=fun b o e hx hb=>by
  rcases (hch b hb).1 with z | z
  ·exact hx z
  ·exact absurd (Nat.lt_of_lt_of_le (Heap.lt_size e) z) (Nat.lt_irrefl _)
 have cellK:∀ x c,X.env.cells.lookup x = some c->∀ v,s.heap.IsCell c v->h'.IsCell c v:=fun x c e v ⟨o,ho,hd⟩=>by
  have nch:c ∉ ch:=fun z=>(hch c z).2.2.1 x c e rfl
  by_cases hc:c ∈ X.fs
  ·obtain ⟨sl,q⟩:=slot c o (I.cne x c e) hc nch ho (I.freeC x c e)
   exact ⟨_,q,hd⟩
  ·exact ⟨o,keep c o (I.cne x c e) hc nch ho (I.freeC x c e),hd⟩
 refine ⟨I.ok,I.os,hg,⟨fun b o e n hb hx=>?_,fun b o e n hb hx=>?_,fun b o e n hx=>?_,fun b o e hx=>?_,fun b xs e=>tups b xs (I.base.tups b xs e),fun b o xs e=>frzs b o xs (I.base.frzs b o xs e),fun b ps e=>?_⟩,?_,fun x c e=>?_,?_,fun x c e=>?_,fun p hp=>?_,hok,I.len⟩
 ·exact keep b o (neL b o e) hb (neC b o e hx) (I.base.keep b o e n hb hx) (I.base.free b o e n hx)
 ·obtain ⟨sl,e1⟩:=I.base.slot b o e n hb hx
  obtain ⟨sl',e2⟩:=slot b _ (neL b o e) hb (neC b o e hx) e1 (I.base.free b o e n hx)
  exact ⟨sl',e2⟩
 ·obtain ⟨o',e1⟩:=I.base.there b o e hx
  exact free b o' (neC b o e hx) e1 (I.base.free b o e n hx)
 ·obtain ⟨o',e1⟩:=I.base.there b o e hx
  exact there b o' (neC b o e hx) e1
 ·obtain ⟨m1,e1⟩:=I.base.tbls b ps e
  obtain ⟨m2,e2⟩:=tbls b _ e1
  exact ⟨m1 ++ m2,by rw [e2,Array.append_assoc]⟩
 ·obtain ⟨m,hn,hl⟩:=I.loc
  refine ⟨m,ns m hn,fun i x v e1 e2 e3=>?_⟩
  obtain ⟨u,r,l⟩:=hl i x v e1 e2 e3
  refine ⟨u,r,?_⟩
  rcases l with l | ⟨k,c,e,z⟩
  ·exact .inl l
  ·exact .inr ⟨k,c,e,cellK x c e _ z⟩
 ·obtain ⟨v,z⟩:=I.cell x c e
  exact ⟨v,cellK x c e v z⟩
 ·obtain ⟨m,⟨o,_,_,ho,_⟩,_⟩:=I.loc
  exact free _ o (fun z=>(hch _ z).2.1 rfl) ho I.free
 ·obtain ⟨v,o,ho,hd⟩:=I.cell x c e
  exact free c o (fun z=>(hch c z).2.2.1 x c e rfl) ho (I.freeC x c e)
 ·obtain ⟨e,n,ne,nf,d⟩:=I.pin p hp
  have nch:p.1 ∉ ch:=fun z=>(hch p.1 z).2.2.2 p hp rfl
  exact ⟨keep p.1 p.2 ne nf nch e n,free p.1 p.2 nch e n,ne,nf,d⟩
theorem Inv.un {t':Nat} (I:Inv X pn σ H s) (u:Un X.fs [] H H' s.heap h') (hok:HOk X.prog X.w H' h'):Inv X pn σ H' { s with heap:=h',toks:=t' }:=by
 obtain ⟨m,⟨o,es,ep,ho,r⟩,_⟩:=id I.loc
 obtain ⟨sl,hL⟩:=u.any ho I.free (by simp)
 exact I.step (g':=s.gens) (d':=s.drawn) (ch:=[]) (fun _ z=>nomatch z) (fun b o _ hb _ e n=>u.keep b o e n hb (by simp)) (fun b o _ hb _ e n=>u.slot b o e n hb (by simp)) (fun b o _ e n=>u.free b o e n (by simp)) (fun b o _ e=>u.there b o e (by simp)) u.tups u.frzs u.tbls (fun m' hm=>by
  obtain ⟨o',es',ep',ho',r'⟩:=hm
  rw [ho] at ho'; cases ho'
  exact ⟨_,es',ep',hL,r'⟩) hok I.bare
theorem Inv.call {g':Array GenState} {t':Nat} {d':Drawn} {ch:List Addr} (I:Inv X pn σ H s) (u:Un (frs X.stack) ch H H' s.heap h') (hok:HOk X.prog X.w H' h') (hg:AllBare g')
  (hch:∀ b ∈ ch,(b ∈ X.ex \/ X.s₀.heap.objs.size <= b) /\ b ≠ X.env.locals /\ (∀ x c,X.env.cells.lookup x = some c->c ≠ b) /\ ∀ p ∈ X.pn ++ pn,p.1 ≠ b) :
  Inv X pn σ H' { s with heap:=h',gens:=g',drawn:=d',toks:=t' }:=by
 obtain ⟨m,⟨o,es,ep,ho,r⟩,_⟩:=id I.loc
 obtain ⟨sl,hL⟩:=u.any ho I.free fun z=>(hch _ z).2.1 rfl
 exact I.step (ch:=ch) hch (fun b o hL hb hc e n=>u.keep b o e n (fun z=>(List.mem_cons.mp (I.stkSub b z)).elim hL hb) hc) (fun b o _ _ hc e n=>u.any e n hc) (fun b o hc e n=>u.free b o e n hc) (fun b o hc e=>u.there b o e hc) u.tups u.frzs u.tbls (fun m' hm=>by
  obtain ⟨o',es',ep',ho',r'⟩:=hm
  rw [ho] at ho'; cases ho'
  exact ⟨_,es',ep',hL,r'⟩) hok hg
theorem Inv.turned {t':Nat} {it:Addr} (I:Inv X pn σ H s) (k:∀ b o,b ≠ it->s.heap.get? b = some o->h'.get? b = some o) (hn:H it = none) (hL:it ≠ X.env.locals)
  (h1:it ∈ X.ex \/ X.s₀.heap.objs.size <= it) (h2:∀ x c,X.env.cells.lookup x = some c->c ≠ it) (h3:∀ p ∈ X.pn ++ pn,p.1 ≠ it):Inv X pn σ H { s with heap:=h',toks:=t' }:=by
 have nit:∀ b u,H b = some u->b ≠ it:=fun b u e z=>by rw [z,hn] at e; cases e
 refine I.step (g':=s.gens) (d':=s.drawn) (ch:=[it]) (fun b hb=>?_) (fun b o _ _ hc e _=>k b o (fun z=>hc (by simp [z])) e) (fun b o _ _ hc e _=>⟨o.slots,k b o (fun z=>hc (by simp [z])) e⟩) (fun _ _ _ _ n=>n)
  (fun b o hc e=>⟨o,k b o (fun z=>hc (by simp [z])) e⟩) (fun _ _ e=>e) (fun _ _ _ e=>e) (fun b ps e=>⟨#[],by rw [e]; simp⟩) (fun m hm=>?_) (fun b u e=>?_) I.bare
 ·have e:b = it:=by simpa using hb
  subst e
  exact ⟨h1,hL,h2,h3⟩
 ·obtain ⟨o,es,ep,ho,r⟩:=hm
  exact ⟨o,es,ep,k _ o (Ne.symm hL) ho,r⟩
 ·refine (I.hok b u e).stay (fun c v hc q=>k c v ?_ q) (fun _ q=>q) fun _ _ q=>q
  rcases hc with z | z
  ·rw [z]; exact nit b u e
  ·exact nit c _ z
theorem Inv.tok (I:Inv X pn σ H s) (t:Nat):Inv X pn σ H { s with toks:=t }:=I.un (h':=s.heap) (t':=t) Un.refl I.hok
theorem Inv.kept {t':Nat} (I:Inv X pn σ H s) (k:∀ b u,s.heap.get? b = some u->h'.get? b = some u):Inv X pn σ H { s with heap:=h',toks:=t' }:=I.un (Un.kept k) (I.hok.kept k)
theorem Inv.laid {a:Addr} {o:HO} {t':Nat} (I:Inv X pn σ H s) (k:∀ b u,s.heap.get? b = some u->h'.get? b = some u) (hp:s.heap.objs.size <= a) (new:w6 X.prog X.w (upd H a o) h' a o) :
  Inv X pn σ (upd H a o) { s with heap:=h',toks:=t' }:=I.un (Un.laid k hp (I.hok.fresh hp)) (I.hok.laid k hp new)
theorem Inv.write {x e:Addr} {o:HO} {t':Nat} (I:Inv X pn σ H s) (mu:Mut (H x)) (he:e = x \/ H e = some (.own x)) (k:∀ b u,b ≠ e->s.heap.get? b = some u->h'.get? b = some u) (heo:∃ u,h'.get? e = some u)
  (new:w6 X.prog X.w (upd H x o) h' x o):Inv X pn σ (upd H x o) { s with heap:=h',toks:=t' }:=I.un (Un.write mu he k heo) (I.hok.write mu he k heo new)
theorem Inv.weak {σ':List (Option V)} (I:Inv X pn σ H s) (hl:σ'.length = σ.length) (w:∀ (i:Nat) v,σ'[i]? = some (some v)->σ[i]? = some (some v)):Inv X pn σ' H s :=
 ⟨I.ok,I.os,I.bare,I.base,let ⟨m,hn,hl'⟩:=I.loc; ⟨m,hn,fun i x v e1 e2 e3=>hl' i x v e1 (w i v e2) e3⟩,I.cell,I.free,I.freeC,I.pin,I.hok,hl.trans I.len⟩
theorem Inv.pins_of {pins':List (Addr × Obj)} (I:Inv X pn σ H s) (h:∀ p ∈ pins',s.heap.get? p.1 = some p.2 /\ H p.1 = none /\ p.1 ≠ X.env.locals /\ p.1 ∉ X.fs /\ ∀ v,p.2.data ≠ .cell v):Inv X pins' σ H s :=
 ⟨I.ok,I.os,I.bare,I.base,I.loc,I.cell,I.free,I.freeC,fun p hp=>(List.mem_append.mp hp).elim (fun z=>I.pin p (List.mem_append_left _ z)) (h p),I.hok,I.len⟩
theorem c6 {N:List Str} (hN:N.Nodup) {i j:Nat} {x:Str} (a:N[i]? = some x) (b:N[j]? = some x):i = j:=by
 obtain ⟨h1,e1⟩:=List.getElem?_eq_some_iff.mp a
 obtain ⟨h2,e2⟩:=List.getElem?_eq_some_iff.mp b
 exact (List.getElem_inj hN).mp (e1.trans e2.symm)
theorem Z1 {M:Model} {A:Around} {E:Value->Shared->Prop} {i:Nat} {x:Str} {v:V} {u:Value} {Q:Unit->Shared->Prop} (I:Inv X pn σ H s) (hN:X.N.Nodup) (hi:X.N[i]? = some x) (hx:Loc X.env.scope x) (r:RelV v u)
  (h:∀ s',Inv X pn (σ.set i (some v)) H s'->(∃ a,Heap.SameBut a s.heap s'.heap /\ (a = X.env.locals \/ X.env.cells.lookup x = some a))->Q () s') (hf:X.fn x = true \/ X.env.scope.names.lookup x = some .local:=by first | exact .inl rfl | exact .inr rfl | assumption):wpAny M A (storeName X.env x u) Q E s:=by
 obtain ⟨m,hn,hl⟩:=id I.loc
 have hcls:(X.env.scope.kind == .class || (X.env.scope.kind == .module && X.env.locals != X.env.globals)) = false:=by rw [I.ok.kind]; rfl
 have hiσ:i < σ.length:=by rw [I.len]; exact (List.getElem?_eq_some_iff.mp hi).1
 have cne:=I.cne
 have tracked:∀ {a:Addr} {h':Heap},(∃ o,s.heap.get? a = some o /\ H a = none)->Heap.SameBut a s.heap h'->HOk X.prog X.w H h':=fun {a h'} ha hs b ob e=>by
  obtain ⟨_,_,hfree⟩:=ha
  refine (I.hok b ob e).stay (fun c w' hc q=>(hs.2 c ?_).trans q) (fun _ q=>q) fun _ _ q=>q
  rintro rfl
  rcases hc with rfl | hc
  ·rw [hfree] at e; cases e
  ·rw [hfree] at hc; cases hc
 rcases hx with hk | hk
 ·refine wpAny_storeName_local hk hn (fun h' hn' hs=>?_) hcls
  obtain ⟨oL,_,_,hoL,_⟩:=id hn
  refine h _ ⟨I.ok,I.os,I.bare,⟨fun b o e n hb hx=>?_,fun b o e n hb hx=>?_,I.base.free,fun b o e hx=>?_,I.base.tups,I.base.frzs,I.base.tbls⟩,⟨_,hn',fun j y v' e1 e2 e3=>?_⟩,fun y c e=>?_,I.free,I.freeC,fun p hp=>?_,tracked ⟨oL,hoL,I.free⟩ hs,by simpa using I.len⟩ ⟨_,hs,.inl rfl⟩
  ·exact (hs.2 b (Nat.ne_of_lt (Nat.lt_of_lt_of_le (Heap.lt_size e) I.ok.above))).trans (I.base.keep b o e n hb hx)
  ·obtain ⟨sl,e1⟩:=I.base.slot b o e n hb hx
   exact ⟨sl,(hs.2 b (Nat.ne_of_lt (Nat.lt_of_lt_of_le (Heap.lt_size e) I.ok.above))).trans e1⟩
  ·obtain ⟨o',e1⟩:=I.base.there b o e hx
   exact ⟨o',(hs.2 b (Nat.ne_of_lt (Nat.lt_of_lt_of_le (Heap.lt_size e) I.ok.above))).trans e1⟩
  ·by_cases hj:j = i
   ·subst hj
    rw [hi] at e1; cases e1
    rw [List.getElem?_set_self hiσ] at e2
    cases e2
    exact ⟨u,r,.inl ⟨hk,by simp⟩⟩
   ·rw [List.getElem?_set_ne (Ne.symm hj)] at e2
    obtain ⟨u',r',q⟩:=hl j y v' e1 e2 e3
    refine ⟨u',r',?_⟩
    rcases q with ⟨k,e⟩ | ⟨k,c,e,z⟩
    ·refine .inl ⟨k,?_⟩
     have:y ≠ x:=fun e=>hj (c6 hN e1 (e ▸ hi))
     simp [this,e]
    ·exact .inr ⟨k,c,e,z.sameBut hs (cne y c e)⟩
  ·obtain ⟨w',z⟩:=I.cell y c e
   exact ⟨w',z.sameBut hs (cne y c e)⟩
  ·obtain ⟨e,n,ne,nf,d⟩:=I.pin p hp
   exact ⟨(hs.2 p.1 ne).trans e,n,ne,nf,d⟩
 ·have hfn:X.fn x = true:=by
   rcases hf with z | z
   ·exact z
   ·rw [z] at hk; cases hk
  obtain ⟨c,hc⟩:=I.ok.has x (.inl hk)
  obtain ⟨w',z⟩:=I.cell x c hc
  refine wpAny_storeName_cell I.ok.kind hk hc z (fun h' hc' hs=>?_)
  obtain ⟨oc,hoc,hocd⟩:=id z
  refine h { s with heap:=h' } ⟨I.ok,I.os,I.bare,⟨fun b o e n hb hx=>?_,fun b o e n hb hx=>?_,I.base.free,fun b o e hx=>?_,I.base.tups,I.base.frzs,I.base.tbls⟩,⟨m,hn.sameBut hs (Ne.symm (cne x c hc)),fun j y v' e1 e2 e3=>?_⟩,fun y c' e=>?_,I.free,I.freeC,fun p hp=>?_,tracked ⟨oc,hoc,I.freeC x c hc⟩ hs,by simpa using I.len⟩ ⟨c,hs,.inr hc⟩
  ·exact (hs.2 b (Nat.ne_of_lt (Nat.lt_of_lt_of_le (Heap.lt_size e) (I.ok.cab x c hfn hc)))).trans (I.base.keep b o e n hb hx)
  ·obtain ⟨sl,e1⟩:=I.base.slot b o e n hb hx
   exact ⟨sl,(hs.2 b (Nat.ne_of_lt (Nat.lt_of_lt_of_le (Heap.lt_size e) (I.ok.cab x c hfn hc)))).trans e1⟩
  ·obtain ⟨o',e1⟩:=I.base.there b o e hx
   exact ⟨o',(hs.2 b (Nat.ne_of_lt (Nat.lt_of_lt_of_le (Heap.lt_size e) (I.ok.cab x c hfn hc)))).trans e1⟩
  ·by_cases hj:j = i
   ·subst hj
    rw [hi] at e1; cases e1
    rw [List.getElem?_set_self hiσ] at e2
    cases e2
    exact ⟨u,r,.inr ⟨.inl hk,c,hc,hc'⟩⟩
   ·rw [List.getElem?_set_ne (Ne.symm hj)] at e2
    obtain ⟨u',r',q⟩:=hl j y v' e1 e2 e3
    refine ⟨u',r',?_⟩
    rcases q with q | ⟨k,c',e,z'⟩
    ·exact .inl q
    ·refine .inr ⟨k,c',e,z'.sameBut hs ?_⟩
     rintro rfl
     exact hj (c6 hN e1 (I.ok.inj _ _ _ e hc ▸ hi))
  ·by_cases hcc:c' = c
   ·subst hcc; exact ⟨_,hc'⟩
   ·obtain ⟨w2,z2⟩:=I.cell y c' e
    exact ⟨w2,z2.sameBut hs hcc⟩
  ·obtain ⟨e,n,ne,nf,d⟩:=I.pin p hp
   refine ⟨(hs.2 p.1 ?_).trans e,n,ne,nf,d⟩
   intro q
   rw [q,hoc] at e
   have q':oc = p.2:=Option.some.inj e
   exact d w' (by rw [<- q']; exact hocd)
theorem uv {M:Model} {A:Around} {E:Value->Shared->Prop} {i:Nat} {x:Str} {v:V} {u:Value} {Q:Unit->Shared->Prop} (I:Inv X pn σ H s) (hN:X.N.Nodup) (hi:X.N[i]? = some x) (hx:Loc X.env.scope x) (r:RelV v u)
  (h:∀ s',Inv X pn (σ.set i (some v)) H s'->Q () s') (hf:X.fn x = true \/ X.env.scope.names.lookup x = some .local:=by first | exact .inl rfl | exact .inr rfl | assumption):wpAny M A (storeName X.env x u) Q E s :=
 Z1 I hN hi hx r (fun s' I' _=>h s' I') hf
theorem Inv.call' {s':Shared} {ch:List Addr} (I:Inv X pn σ H s) (ho:s'.os = s.os) (u:Un (frs X.stack) ch H H' s.heap s'.heap) (hok:HOk X.prog X.w H' s'.heap) (hg:AllBare s'.gens)
  (hch:∀ b ∈ ch,(b ∈ X.ex \/ X.s₀.heap.objs.size <= b) /\ b ≠ X.env.locals /\ (∀ x c,X.env.cells.lookup x = some c->c ≠ b) /\ ∀ p ∈ X.pn ++ pn,p.1 ≠ b):Inv X pn σ H' s':=by
 obtain ⟨h',g',d',t',o'⟩:=s'
 have e:o' = s.os:=ho
 subst e
 exact I.call (g':=g') (t':=t') (d':=d') u hok hg hch
end
noncomputable abbrev XK:=Value->Option Addr->Hp->Prop
noncomputable abbrev St:=List (Option V)
noncomputable abbrev VK:=V->Hp->Prop
noncomputable abbrev TE:=St->Hp->VK->Prop
noncomputable abbrev TT:=St->Hp->(Bool->Hp->Prop)->Prop
noncomputable abbrev TA:=St->Hp->(List V->Hp->Prop)->Prop
structure Ends where
 nx:St->Hp->Prop
 rt:VK
 bk:St->Hp->Prop:=fun _ _=>False
 ct:St->Hp->Prop:=fun _ _=>False
noncomputable abbrev TS:=Ends->St->Hp->Prop
noncomputable def EP (X:Cx) (pn:List (Addr × Obj)) (σ:St) (Q:VK) (u:Value) (s':Shared):Prop:=∃ v H',Inv X pn σ H' s' /\ RelV v u /\ Q v H'
noncomputable def TP (X:Cx) (pn:List (Addr × Obj)) (σ:St) (Q:Bool->Hp->Prop) (b:Bool) (s':Shared):Prop:=∃ H',Inv X pn σ H' s' /\ Q b H'
noncomputable def AP (X:Cx) (pn:List (Addr × Obj)) (σ:St) (Q:List V->Hp->Prop) (us:List Value) (s':Shared):Prop:=∃ vs H',Inv X pn σ H' s' /\ Vals vs us /\ Q vs H'
noncomputable def SP (X:Cx) (pn:List (Addr × Obj)) (D:Ends) (f:Flow) (s':Shared):Prop :=
 match f with
 | .next=>∃ σ' H',Inv X pn σ' H' s' /\ D.nx σ' H'
 | .brk=>∃ σ' H',Inv X pn σ' H' s' /\ D.bk σ' H'
 | .cont=>∃ σ' H',Inv X pn σ' H' s' /\ D.ct σ' H'
 | .ret u=>∃ v σ' H',Inv X pn σ' H' s' /\ RelV v u /\ D.rt v H'
noncomputable def PE (X:Cx) (e:Expr) (t:TE):Prop :=
 ∀ (pn:List (Addr × Obj)) (s:Shared) (σ:St) (H:Hp) (Q:VK),Inv X pn σ H s->t σ H Q->wpAny (model X.prog X.w) X.A (eval e X.env) (EP X pn σ Q) X.xe s
noncomputable def PT (X:Cx) (e:Expr) (t:TT):Prop :=
 ∀ (pn:List (Addr × Obj)) (s:Shared) (σ:St) (H:Hp) (Q:Bool->Hp->Prop),Inv X pn σ H s->t σ H Q->wpAny (model X.prog X.w) X.A (isTrue e X.env (eval e X.env)) (TP X pn σ Q) X.xe s
noncomputable def PW (X:Cx) (e:Expr) (t:TT):Prop :=
 ∀ (whole:Sem Value) (pn:List (Addr × Obj)) (s:Shared) (σ:St) (H:Hp) (Q:Bool->Hp->Prop),Inv X pn σ H s->t σ H Q->wpAny (model X.prog X.w) X.A (isTrue e X.env whole) (TP X pn σ Q) X.xe s
theorem PW.pt {X:Cx} {e:Expr} {t:TT} (h:PW X e t):PT X e t:=h _
noncomputable def PA (X:Cx) (es:List Expr) (t:TA):Prop :=
 ∀ (pos:Pos) (pn:List (Addr × Obj)) (s:Shared) (σ:St) (H:Hp) (Q:List V->Hp->Prop),Inv X pn σ H s->t σ H Q->wpAny (model X.prog X.w) X.A (spliced (backTo pos (starEach es X.env))) (AP X pn σ Q) X.xe s
noncomputable def PS (X:Cx) (st:Stmt) (t:TS):Prop :=
 ∀ (pn:List (Addr × Obj)) (s:Shared) (σ:St) (H:Hp) (D:Ends),Inv X pn σ H s->t D σ H->wpAny (model X.prog X.w) X.A (exec st X.env) (SP X pn D) X.xe s
noncomputable def PSs (X:Cx) (st:List Stmt) (t:TS):Prop :=
 ∀ (pn:List (Addr × Obj)) (s:Shared) (σ:St) (H:Hp) (D:Ends),Inv X pn σ H s->t D σ H->wpAny (model X.prog X.w) X.A (execs st X.env) (SP X pn D) X.xe s
theorem thn {α:Type} {t:Sem α} {Q Q':α->Shared->Prop} {M:Model} {A:Around} {E:Value->Shared->Prop} {s:Shared} (h:wpAny M A t Q E s) (hQ:∀ a s,Q a s->Q' a s):wpAny M A t Q' E s:=wpAny_mono h hQ fun _ _ x=>x
section
variable {X:Cx}
noncomputable def tVar (i:Nat):TE:=fun σ H Q=>∃ v,σ[i]? = some (some v) /\ Q v H
noncomputable def tC (v:V):TE:=fun _ H Q=>Q v H
theorem Zb {i:Nat} {x:Str} {pos:Pos} (hN:X.N[i]? = some x) (hv:Vis X.env.scope x) (hd:(x == ("__debug__" : Str)) = false:=by decide) (hcd:(x == ("__classdict__" : Str)) = false:=by decide):PE X (.Name x pos) (tVar i):=by
 intro pn s σ H Q I h
 obtain ⟨v,e,h⟩:=h
 obtain ⟨m,hn,hl⟩:=I.loc
 obtain ⟨u,r,l⟩:=hl i x v hN e hv
 have fin:EP X pn σ Q u s:=⟨v,H,I,r,h⟩
 rcases l with ⟨hk,hm⟩ | ⟨hk,c,hc,hcell⟩
 ·exact wpAny_Name (wpAny_loadName_local I.ok.kind hk hn hm fin) hd
 ·rcases hk with hk | hk
  ·exact wpAny_Name (wpAny_loadName_cell I.ok.kind hk hc hcell fin) hd
  ·exact wpAny_Name (wpAny_loadName_free I.ok.kind hk hc hcell fin hcd) hd
theorem Hx {i j pos}:PE X (.Constant (.int i) j pos) (tC (.int i)):=fun _ _ _ H _ I h=>wpAny_Constant_int ⟨.int i,H,I.tok _,⟨_,rfl⟩,h⟩
theorem Er {b j pos}:PE X (.Constant (.bool b) j pos) (tC (.bl b)):=fun _ _ _ H _ I h=>Constant_bool ⟨.bl b,H,I,rfl,h⟩
theorem Hv {j pos}:PE X (.Constant .none j pos) (tC .non):=fun _ _ _ H _ I h=>Constant_none ⟨.non,H,I,rfl,h⟩
theorem Nf {x j pos}:PE X (.Constant (.str x) j pos) (tC (.str x)):=fun _ _ _ H _ I h=>Calls.Constant_str ⟨.str x,H,I.tok _,⟨_,rfl⟩,h⟩
noncomputable def Gl (X:Cx) (x:Str):Prop:=X.env.kindOf x = some .globalImplicit
theorem um {E:Value->Shared->Prop} {pn:List (Addr × Obj)} {s:Shared} {σ:St} {H:Hp} {x:Str} {u:Value} {pos:Pos} {Q:Value->Shared->Prop} (I:Inv X pn σ H s) (hg:Gl X x) (hm:X.mg x = some u) (h:Q u s)
  (hd:(x == ("__debug__" : Str)) = false:=by decide):wpAny (model X.prog X.w) X.A (eval (.Name x pos) X.env) Q E s :=
 Calls.Name_function_global I.ok.kind hg (Calls.loadGlobal_global (by rw [I.ok.glob]; exact I.mod.glob.keeps I.bk) hm h) hd
theorem j4 {E:Value->Shared->Prop} {pn:List (Addr × Obj)} {s:Shared} {σ:St} {H:Hp} {x:Str} {u:Value} {pos:Pos} {Q:Value->Shared->Prop} (I:Inv X pn σ H s) (hg:Gl X x) (hm:X.mg x = none) (hv:bootBuiltins x = some u) (h:Q u s)
  (hn:x ≠ "__name__":=by decide) (hd:(x == ("__debug__" : Str)) = false:=by decide):wpAny (model X.prog X.w) X.A (eval (.Name x pos) X.env) Q E s:=by
 obtain ⟨mb,h1,h2⟩:=I.mod.blt
 exact Calls.Name_function_global I.ok.kind hg (Calls.loadGlobal_builtin (by rw [I.ok.glob]; exact I.mod.glob.keeps I.bk) hm (by rw [I.ok.blt]; exact h1.keeps I.bk) ((h2 x hn).trans hv) h) hd
theorem La {x:Str} {v:V} {u:Value} {pos:Pos} (hg:Gl X x) (hm:X.mg x = some u) (r:RelV v u) (hd:(x == ("__debug__" : Str)) = false:=by decide):PE X (.Name x pos) (tC v) :=
 fun _ _ _ H _ I h=>um I hg hm ⟨v,H,I,r,h⟩ hd
theorem Ld {x:Str} {v:V} {u:Value} {pos:Pos} (hg:Gl X x) (hm:X.mg x = none) (hv:bootBuiltins x = some u) (r:RelV v u) (hn:x ≠ "__name__":=by decide) (hd:(x == ("__debug__" : Str)) = false:=by decide):PE X (.Name x pos) (tC v) :=
 fun _ _ _ H _ I h=>j4 I hg hm hv ⟨v,H,I,r,h⟩ hn hd
variable {a b:Expr} {ta tb:TE} {pos:Pos}
variable {tA tB':TT} {rest:List Expr}
noncomputable def tAnd (t u:TT):TT:=fun σ H Q=>t σ H fun c H1=>if c = true then u σ H1 Q else Q false H1
noncomputable def tOr (t u:TT):TT:=fun σ H Q=>t σ H fun c H1=>if c = true then Q true H1 else u σ H1 Q
noncomputable def tNot (t:TT):TT:=fun σ H Q=>t σ H fun c H1=>Q (!c) H1
theorem Mq (ha:PT X a tA):PW X (.BoolOp .And [a] pos) tA:=by
 intro wh pn s σ H Q I h
 refine isTrue_and (thn (ha pn s σ H Q I h) fun c s1 e=>?_)
 cases c with
 | true=>exact isTrue_and_nil e
 | false=>exact e
theorem Hi (ha:PT X a tA):PW X (.BoolOp .Or [a] pos) tA:=by
 intro wh pn s σ H Q I h
 refine isTrue_or (thn (ha pn s σ H Q I h) fun c s1 e=>?_)
 cases c with
 | false=>exact isTrue_or_nil e
 | true=>exact e
theorem Hj (ha:PT X a tA) (hb:PW X (.BoolOp .And (b :: rest) pos) tB'):PW X (.BoolOp .And (a :: b :: rest) pos) (tAnd tA tB'):=by
 intro wh pn s σ H Q I h
 refine isTrue_and (thn (ha pn s σ H _ I h) fun c s1 ⟨H1,I1,q1⟩=>?_)
 cases c with
 | true=>exact hb wh pn s1 σ H1 Q I1 q1
 | false=>exact ⟨H1,I1,q1⟩
theorem Ek (ha:PT X a tA) (hb:PW X (.BoolOp .Or (b :: rest) pos) tB'):PW X (.BoolOp .Or (a :: b :: rest) pos) (tOr tA tB'):=by
 intro wh pn s σ H Q I h
 refine isTrue_or (thn (ha pn s σ H _ I h) fun c s1 ⟨H1,I1,q1⟩=>?_)
 cases c with
 | true=>exact ⟨H1,I1,q1⟩
 | false=>exact hb wh pn s1 σ H1 Q I1 q1
theorem Hm (ha:PT X a tA):PT X (.UnaryOp .Not a pos) (tNot tA):=by
 intro pn s σ H Q I h
 exact isTrue_not (ha pn s σ H (fun c H1=>Q (!c) H1) I h)
noncomputable def Ef (ta tb:TE):TE:=fun σ H Q=>ta σ H fun x H1=>∃ c,x = .bl c /\ if c = true then tb σ H1 Q else Q (.bl false) H1
noncomputable def Ec (ta:TE):TE:=fun σ H Q=>ta σ H fun x H1=>∃ c,x = .bl c /\ Q (.bl (!c)) H1
theorem Ht {op} {t:TE} (h:PE X a t):PE X (.BoolOp op [a] pos) t:=fun pn s σ H Q I hw=>BoolOp_one (h pn s σ H Q I hw)
theorem Hy (ha:PE X a ta) (hb:PE X (.BoolOp .And (b :: rest) pos) tb):PE X (.BoolOp .And (a :: b :: rest) pos) (Ef ta tb):=by
 intro pn s σ H Q I h
 refine BoolOp_and (thn (ha pn s σ H _ I h) fun v s1 ⟨x,H1,I1,r1,q1⟩=>?_)
 obtain ⟨c,rfl,q1⟩:=q1
 cases r1
 refine wpAny_truthy_bool ?_
 cases c with
 | true=>exact hb pn s1 σ H1 Q I1 q1
 | false=>exact ⟨.bl false,H1,I1,rfl,q1⟩
theorem Hu (ha:PE X a ta):PE X (.UnaryOp .Not a pos) (Ec ta):=by
 intro pn s σ H Q I h
 refine UnaryOp_ (thn (ha pn s σ H _ I h) fun v s1 ⟨x,H1,I1,r1,q1⟩=>?_)
 obtain ⟨c,rfl,q1⟩:=q1
 cases r1
 exact not_of (wpAny_truthy_bool ⟨.bl (!c),H1,I1,rfl,q1⟩)
noncomputable def tIf (t:TT) (ta tb:TE):TE:=fun σ H Q=>t σ H fun c H1=>if c = true then ta σ H1 Q else tb σ H1 Q
theorem Pd {c:Expr} (hc:PT X c tA) (ha:PE X a ta) (hb:PE X b tb):PE X (.IfExp c a b pos) (tIf tA ta tb):=by
 intro pn s σ H Q I h
 refine wpAny_IfExp (thn (hc pn s σ H _ I h) fun d s1 ⟨H1,I1,q1⟩=>?_)
 cases d with
 | true=>exact ha pn s1 σ H1 Q I1 q1
 | false=>exact hb pn s1 σ H1 Q I1 q1
end
noncomputable def SqL (K:W.Frag) (H:Hp) (a:Addr) (xs:List V):Prop :=
 Rd H a (.lst xs) \/
  ∃ (o:Obj) (its:Array Value) (n:Nat),K.lookup a = some o /\ o.cls = .type "list" /\ o.dict = none /\ o.data = .seq its n /\ its.size <= sizeLine /\ Vals xs its.toList
noncomputable def SqT (K:W.Frag) (H:Hp) (a:Addr) (xs:List V):Prop :=
 Rd H a (.tup xs) \/
  ∃ (o:Obj) (its:Array Value) (n:Nat),K.lookup a = some o /\ o.cls = .type "tuple" /\ o.data = .seq its n /\ its.size <= sizeLine /\ Vals xs its.toList
noncomputable def absV:Value->Option V
 | .none=>some .non
 | .bool b=>some (.bl b)
 | .int i _=>some (.int i)
 | .str x _=>some (.str x)
 | .bytes b _=>some (.byt b)
 | .float b _=>some (.flt b)
 | .ref a=>some (.ref a)
 | .type n=>some (.ty n)
 | _=>none
theorem RelV.abs {x:V} {u:Value} (r:RelV x u):absV u = some x:=by
 cases x with
 | non=>cases r; rfl
 | bl _=>cases r; rfl
 | int _=>obtain ⟨t,rfl⟩:=r; rfl
 | str _=>obtain ⟨t,rfl⟩:=r; rfl
 | byt _=>obtain ⟨t,rfl⟩:=r; rfl
 | flt _=>obtain ⟨t,rfl⟩:=r; rfl
 | ref _=>cases r; rfl
 | ty _=>cases r; rfl
theorem RelV.inj {x y:V} {u:Value} (r:RelV x u) (q:RelV y u):x = y:=Option.some.inj (r.abs.symm.trans q.abs)
theorem Vals.inj:∀ {xs ys:List V} {us:List Value},Vals xs us->Vals ys us->xs = ys
 | _,_,_,.nil,.nil=>rfl
 | _,_,_,.cons r t,.cons r' t'=>by rw [r.inj r',Vals.inj t t']
section
variable {X:Cx} {pn:List (Addr × Obj)} {σ:St} {H:Hp} {s:Shared} {a:Addr} {xs ys:List V}
theorem SqL.of {K:W.Frag} (h:H a = some (.lst xs)):SqL K H a xs:=.inl (.inl h)
theorem SqT.of {K:W.Frag} (h:H a = some (.tup xs)):SqT K H a xs:=.inl (.inl h)
theorem Inv.list (I:Inv X pn σ H s) (h:SqL X.K H a xs):∃ its:List Value,Vals xs its /\ PlainL s.heap a its.toArray /\ xs.length <= sizeLine:=by
 rcases h with h | ⟨o,its,n,hk,hc,hd,hs,hz,r⟩
 ·obtain ⟨z,its,n,r,e⟩:=h.ok I.hok
  exact ⟨its,r,⟨_,n,e,rfl,rfl,rfl⟩,z⟩
 ·refine ⟨its.toList,r,⟨o,n,I.kIn a o hk,hc,hd,by simpa using hs⟩,?_⟩
  have e:=r.length
  simp only [Array.length_toList] at e
  omega
theorem Inv.tuple (I:Inv X pn σ H s) (h:SqT X.K H a xs):∃ its:List Value,Vals xs its /\ IsTup s.heap a its.toArray /\ xs.length <= sizeLine:=by
 rcases h with h | ⟨o,its,n,hk,hc,hs,hz,r⟩
 ·obtain ⟨z,its,r,p⟩:=h.ok I.hok
  exact ⟨its,r,p.1,z⟩
 ·refine ⟨its.toList,r,⟨o,I.kIn a o hk,hc,n,by simpa using hs⟩,?_⟩
  have e:=r.length
  simp only [Array.length_toList] at e
  omega
theorem Inv.list_inj (I:Inv X pn σ H s) (h:SqL X.K H a xs) (h':SqL X.K H a ys):xs = ys:=by
 obtain ⟨its,r,⟨o,n,e,_,_,d⟩,_⟩:=I.list h
 obtain ⟨its',r',⟨o',n',e',_,_,d'⟩,_⟩:=I.list h'
 rw [e] at e'; cases e'
 rw [d] at d'
 injection d' with d1 _
 have:its = its':=by simpa using congrArg Array.toList d1
 subst this
 exact r.inj r'
theorem Inv.tuple_inj (I:Inv X pn σ H s) (h:SqT X.K H a xs) (h':SqT X.K H a ys):xs = ys:=by
 obtain ⟨its,r,⟨o,e,_,n,d⟩,_⟩:=I.tuple h
 obtain ⟨its',r',⟨o',e',_,n',d'⟩,_⟩:=I.tuple h'
 rw [e] at e'; cases e'
 rw [d] at d'
 injection d' with d1 _
 have:its = its':=by simpa using congrArg Array.toList d1
 subst this
 exact r.inj r'
end
noncomputable abbrev Cx.wish (X:Cx) (E:Value->Shared->Prop):Cx:={ X with xe:=E }
noncomputable abbrev Cx.nox (X:Cx):Cx:=X.wish fun _ _=>False
theorem Cx.Ok.wish {X:Cx} (ok:X.Ok) (E:Value->Shared->Prop):(X.wish E).Ok :=
 ⟨ok.mod,ok.kind,ok.glob,ok.blt,ok.above,ok.inj,ok.has,ok.cab,ok.hd,ok.frames,ok.stk,ok.exf,ok.bs,ok.bsz,ok.noex,ok.exfs,ok.funs,ok.frf⟩
theorem Cx.Ok.unwish {X:Cx} {E:Value->Shared->Prop} (ok:(X.wish E).Ok):X.Ok :=
 ⟨ok.mod,ok.kind,ok.glob,ok.blt,ok.above,ok.inj,ok.has,ok.cab,ok.hd,ok.frames,ok.stk,ok.exf,ok.bs,ok.bsz,ok.noex,ok.exfs,ok.funs,ok.frf⟩
section
variable {X:Cx} {pn:List (Addr × Obj)} {σ:St} {H:Hp} {s:Shared} {E:Value->Shared->Prop}
theorem Inv.wish (I:Inv X pn σ H s) (E:Value->Shared->Prop):Inv (X.wish E) pn σ H s:=⟨I.ok.wish E,I.os,I.bare,I.base,I.loc,I.cell,I.free,I.freeC,I.pin,I.hok,I.len⟩
theorem Inv.unwish (I:Inv (X.wish E) pn σ H s):Inv X pn σ H s:=⟨I.ok.unwish,I.os,I.bare,I.base,I.loc,I.cell,I.free,I.freeC,I.pin,I.hok,I.len⟩
theorem SP.unwish {D:Ends} {f:Flow} {s':Shared} (h:SP (X.wish E) pn D f s'):SP X pn D f s':=by
 cases f with
 | next=>obtain ⟨σ',H',I,q⟩:=h; exact ⟨σ',H',I.unwish,q⟩
 | brk=>obtain ⟨σ',H',I,q⟩:=h; exact ⟨σ',H',I.unwish,q⟩
 | cont=>obtain ⟨σ',H',I,q⟩:=h; exact ⟨σ',H',I.unwish,q⟩
 | ret u=>obtain ⟨v,σ',H',I,r,q⟩:=h; exact ⟨v,σ',H',I.unwish,r,q⟩
theorem PSs.nox {st:List Stmt} {t:TS} (h:PSs X.nox st t):PSs X st t:=fun pn s σ H D I hw =>
 wpAny_mono (h pn s σ H D (I.wish _) hw) (fun _ _ q=>q.unwish) fun _ _ z=>False.elim z
end
section
variable {X:Cx} {st:Stmt} {rest:List Stmt} {t u:TS} {e:Expr} {te:TE} {pos:Pos}
noncomputable def Ed:TS:=fun D σ H=>D.nx σ H
noncomputable def tSeq (t u:TS):TS:=fun D σ H=>t { D with nx:=u D } σ H
theorem dy:PSs X [] Ed:=fun _ _ σ H _ I h=>wpAny_execs_nil ⟨σ,H,I,h⟩
theorem vi (h1:PS X st t) (h2:PSs X rest u):PSs X (st :: rest) (tSeq t u):=by
 intro pn s σ H D I h
 refine wpAny_execs_cons (thn (h1 pn s σ H { D with nx:=u D } I h) fun f s1 q=>?_)
 cases f with
 | next =>
  obtain ⟨σ',H',I',q⟩:=q
  exact h2 pn s1 σ' H' D I' q
 | ret v=>exact q
 | brk=>exact q
 | cont=>exact q
theorem kj (h1:PS X st t):PSs X [st] t:=by
 intro pn s σ H D I h
 refine wpAny_execs_cons (thn (h1 pn s σ H D I h) fun f s1 q=>?_)
 cases f with
 | next=>exact wpAny_execs_nil q
 | ret v=>exact q
 | brk=>exact q
 | cont=>exact q
theorem Inv.quiet {pn:List (Addr × Obj)} {σ:St} {H:Hp} {s:Shared} (I:Inv X pn σ H s):interactive X.env = false:=by simp [interactive,I.ok.kind]
noncomputable def Ji (te:TE):TS:=fun D σ H=>te σ H fun _ H1=>D.nx σ H1
theorem c3 (he:PE X e te) (hs:swapsWith e none pos.line X.env = pure false:=by rfl):PS X (.Expr e pos) (Ji te):=by
 intro pn s σ H D I h
 exact wpAny_Expr_any (thn (he pn s σ H _ I h) fun v s1 ⟨x,H1,I1,r1,q1⟩=>⟨σ,H1,I1,q1⟩) I.quiet hs
noncomputable def tRet (te:TE):TS:=fun D σ H=>te σ H D.rt
theorem Z9 (he:PE X e te):PS X (.Return (some e) pos) (tRet te):=by
 intro pn s σ H D I h
 exact wpAny_Return_some (thn (he pn s σ H _ I h) fun v s1 ⟨x,H1,I1,r1,q1⟩=>⟨x,σ,H1,I1,r1,q1⟩)
noncomputable def tIfS (c:TT) (t u:TS):TS:=fun D σ H=>c σ H fun b H1=>if b = true then t D σ H1 else u D σ H1
theorem Mt {c:Expr} {a b:List Stmt} {tc:TT} (hc:PT X c tc) (ha:PSs X a t) (hb:PSs X b u):PS X (.If c a b pos) (tIfS tc t u):=by
 intro pn s σ H D I h
 refine wpAny_If (thn (hc pn s σ H _ I h) fun d s1 ⟨H1,I1,q1⟩=>?_)
 cases d with
 | true=>exact ha pn s1 σ H1 D I1 q1
 | false=>exact hb pn s1 σ H1 D I1 q1
noncomputable def Jb:TS:=fun _ _ _=>False
theorem P8:PS X st Jb:=fun _ _ _ _ _ _ h=>h.elim
end
noncomputable abbrev TG:=V->St->Hp->(St->Hp->Prop)->Prop
noncomputable abbrev TGs:=List V->St->Hp->(St->Hp->Prop)->Prop
noncomputable def PG (X:Cx) (target:Expr) (t:TG):Prop :=
 ∀ (pn:List (Addr × Obj)) (s:Shared) (σ:St) (H:Hp) (v:V) (u:Value) (Q:St->Hp->Prop),Inv X pn σ H s->RelV v u->t v σ H Q ->
  wpAny (model X.prog X.w) X.A (assign target X.env u) (fun _ s'=>∃ σ' H',Inv X pn σ' H' s' /\ Q σ' H') X.xe s
noncomputable def PGs (X:Cx) (ts:List Expr) (t:TGs):Prop :=
 ∀ (pn:List (Addr × Obj)) (s:Shared) (σ:St) (H:Hp) (vs:List V) (us:List Value) (Q:St->Hp->Prop),Inv X pn σ H s->Vals vs us->t vs σ H Q ->
  wpAny (model X.prog X.w) X.A (assignInOrder ((assignEach ts X.env).map (·.2)) us) (fun _ s'=>∃ σ' H',Inv X pn σ' H' s' /\ Q σ' H') X.xe s
noncomputable abbrev TSet:=V->V->V->Hp->(Hp->Prop)->Prop
noncomputable def PSet (X:Cx) (t:TSet):Prop :=
 ∀ (pn:List (Addr × Obj)) (s:Shared) (σ:St) (H:Hp) (o i v:V) (ov iv u:Value) (Q:Hp->Prop),Inv X pn σ H s->RelV o ov->RelV i iv->RelV v u->t o i v H Q ->
  wpAny (model X.prog X.w) X.A (setItem ov iv u) (fun _ s'=>∃ H',Inv X pn σ H' s' /\ Q H') X.xe s
section
variable {X:Cx} {pos:Pos}
noncomputable def Zt (i:Nat):TG:=fun v σ H Q=>Q (σ.set i (some v)) H
theorem zr {i:Nat} {x:Str} (hN:X.N.Nodup) (hi:X.N[i]? = some x) (hx:Loc X.env.scope x) (hf:X.fn x = true \/ X.env.scope.names.lookup x = some .local:=by first | exact .inl rfl | exact .inr rfl | assumption):PG X (.Name x pos) (Zt i):=by
 intro pn s σ H v u Q I r h
 exact wpAny_assign_Name (uv I hN hi hx r (fun s' I'=>⟨_,H,I',h⟩) hf)
noncomputable def gNil:TGs:=fun vs σ H Q=>vs = [] /\ Q σ H
noncomputable def U6 (t:TG) (u:TGs):TGs:=fun vs σ H Q=>∃ v r,vs = v :: r /\ t v σ H fun σ' H'=>u r σ' H' Q
theorem xu:PGs X [] gNil:=by
 intro pn s σ H vs us Q I r h
 obtain ⟨e,h⟩:=h
 subst e
 cases r
 exact assignInOrder_nil ⟨σ,H,I,h⟩
theorem zw {e:Expr} {es:List Expr} {t:TG} {u:TGs} (h1:PG X e t) (h2:PGs X es u)
  (hs:(assignEach (e :: es) X.env).map (·.2) = assign e X.env :: (assignEach es X.env).map (·.2):=by rfl):PGs X (e :: es) (U6 t u):=by
 intro pn s σ H vs us Q I r h
 obtain ⟨v,vr,e1,h⟩:=h
 subst e1
 cases r with
 | cons r rr =>
  rw [hs]
  refine assignInOrder_cons (thn (h1 pn s σ H _ _ _ I r h) fun _ s1 ⟨σ1,H1,I1,q1⟩=>?_)
  exact h2 pn s1 σ1 H1 _ _ Q I1 rr q1
noncomputable def gTup (K:W.Frag) (n:Nat) (t:TGs):TG:=fun v σ H Q=>∃ a xs,v = .ref a /\ SqT K H a xs /\ xs.length = n /\ t xs σ H Q
theorem Hr {es:List Expr} {k:Nat} {t:TGs} {n:Nat} (hc:X.calm = true) (h:PGs X es t)
  (hn:(assignEach es X.env).length = n:=by rfl) (hst:(assignEach es X.env).findIdx? (·.1) = none:=by rfl):PG X (.Tuple es k pos) (gTup X.K n t):=by
 intro pn s σ H v u Q I r hw
 obtain ⟨a,xs,e1,hq,hl,hw⟩:=hw
 subst e1
 cases r
 obtain ⟨its,rv,ht,hz⟩:=I.tuple hq
 refine assign_Tuple_tuple (I.ok.hd hc) ht (by simp [hn,<- hl,rv.length]) hst fun h' hx=>?_
 have I1:Inv X pn σ H { s with heap:=h' }:=I.kept (t':=s.toks) fun b o e=>hx b o (Nat.ne_of_lt (Heap.lt_size e)) e
 exact h pn _ σ H xs _ Q I1 (by simpa using rv) hw
noncomputable def gSub (to ti:TE) (t:TSet):TG:=fun v σ H Q=>to σ H fun o H1=>ti σ H1 fun i H2=>t o i v H2 fun H3=>Q σ H3
theorem Nd {o i:Expr} {to ti:TE} {t:TSet} (ho:PE X o to) (hi:PE X i ti) (hs:PSet X t)
  (ha:∀ v,assign (.Subscript o i pos) X.env v = (do
   let ov <- holding [v] (eval o X.env)
   let iv <- holding [v,ov] (eval i X.env)
   standAt pos
   holding [v,ov,iv] (setItem ov iv v)
   release [v,ov,iv] []):=by intro _; rfl):PG X (.Subscript o i pos) (gSub to ti t):=by
 intro pn s σ H v u Q I r h
 rw [ha]
 refine wpAny_bind (wpAny_holding (thn (ho pn s σ H _ I h) fun ov s1 ⟨x,H1,I1,r1,q1⟩=>?_))
 refine wpAny_bind (wpAny_holding (thn (hi pn s1 σ H1 _ I1 q1) fun iv s2 ⟨y,H2,I2,r2,q2⟩=>?_))
 refine wpAny_bind (wpAny_standAt (wpAny_bind (wpAny_holding (thn (hs pn s2 σ H2 x y v ov iv u _ I2 r1 r2 r q2) fun _ s3 ⟨H3,I3,q3⟩=>?_))))
 exact wpAny_release ⟨σ,H3,I3,q3⟩
noncomputable def tAsg (te:TE) (g:TG):TS:=fun D σ H=>te σ H fun x H1=>g x σ H1 D.nx
theorem Tg {tg e:Expr} {te:TE} {g:TG} (he:PE X e te) (hg:PG X tg g) (hs:swapsWithSole [tg] e pos.line X.env = pure false:=by rfl) (hw:swappedStores [tg] e X.env = pure none:=by rfl)
  (h1:(assignEach [tg] X.env).map (·.2) = [assign tg X.env]:=by rfl):PS X (.Assign [tg] e pos) (tAsg te g):=by
 intro pn s σ H D I h
 refine wpAny_Assign_stores (thn (he pn s σ H _ I h) fun v s1 ⟨x,H1,I1,r1,q1⟩=>?_) hs hw
 rw [h1]
 exact thn (hg pn s1 σ H1 x v _ I1 r1 q1) fun _ s2 q=>q
theorem Wg {i:Nat} {x:Str} {e:Expr} {te:TE} {pos':Pos} (hN:X.N.Nodup) (hi:X.N[i]? = some x) (hx:Loc X.env.scope x) (he:PE X e te) (hs:swapsWith e (some (.Name x pos')) pos.line X.env = pure false:=by rfl) (hf:X.fn x = true \/ X.env.scope.names.lookup x = some .local:=by first | exact .inl rfl | exact .inr rfl | assumption) :
  PS X (.Assign [.Name x pos'] e pos) (tAsg te (Zt i)):=by
 intro pn s σ H D I h
 refine wpAny_Assign_Name (thn (he pn s σ H _ I h) fun v s1 ⟨y,H1,I1,r1,q1⟩=>?_) hs
 exact uv I1 hN hi hx r1 (fun s2 I2=>⟨_,H1,I2,q1⟩) hf
noncomputable def tPar (i j:Nat) (ta:TA):TS:=fun D σ H=>ta σ H fun vs H1=>∃ v w,vs = [v,w] /\ D.nx ((σ.set i (some v)).set j (some w)) H1
theorem Hn {i j:Nat} {x y:Str} {a b:Expr} {ta:TA} {px py pt:Pos} {kt k2 pt2} (hc:X.calm = true) (hN:X.N.Nodup) (hi:X.N[i]? = some x) (hj:X.N[j]? = some y) (hij:i ≠ j)
  (hx:X.env.scope.names.lookup x = some .local) (hy:X.env.scope.names.lookup y = some .local) (ha:PA X [a,b] ta)
  (hw:swappedStores [.Tuple [.Name x px,.Name y py] kt pt] (.Tuple [a,b] k2 pt2) X.env = pure (some [x,y]))
  (hs:swapsWithSole [.Tuple [.Name x px,.Name y py] kt pt] (.Tuple [a,b] k2 pt2) pos.line X.env = pure false:=by rfl) :
  PS X (.Assign [.Tuple [.Name x px,.Name y py] kt pt] (.Tuple [a,b] k2 pt2) pos) (tPar i j ta):=by
 intro pn s σ H D I h
 rw [exec_Assign_arm]
 refine wpAny_bind (wpAny_standAt ?_)
 rw [hs]
 refine wpAny_bind (wpAny_pure ?_)
 rw [if_neg (by decide)]
 refine wpAny_bind (Tuple_ (thn (ha _ pn s σ H _ I h) fun us s1 ⟨vs,H1,I1,r1,q1⟩=>?_))
 obtain ⟨v,w,e1,q1⟩:=q1
 subst e1
 obtain ⟨u1,u2,rfl,rv,rw'⟩:∃ u1 u2,us = [u1,u2] /\ RelV v u1 /\ RelV w u2:=by
  cases r1 with
  | cons p q =>
   cases q with
   | cons p' q' =>
    cases q'
    exact ⟨_,_,rfl,p,p'⟩
 refine wpAny_newObj_type ?_ (by show 2 <= sizeLine; decide)
 have I2:Inv X pn σ H1 { s1 with heap:=s1.heap.push { cls:=.type "tuple", data:=.seq [u1,u2].toArray } }:=I1.kept (t':=s1.toks) fun b o e=>Heap.get?_push_of_some _ e
 rw [hw]
 refine wpAny_bind (wpAny_pure ?_)
 show wpAny (model X.prog X.w) X.A (do rule "assign.swapped-stores"; let items <- unpackItems (.ref s1.heap.objs.size) 2 none; assignInOrder [fun v=>bindName X.env y v,fun v=>bindName X.env x v] items.reverse; pure Flow.next) _ _ _
 refine wpAny_bind (wpAny_rule (wpAny_bind (unpackItems_tuple (items:=#[u1,u2]) (I.ok.hd hc) (IsTup.new s1.heap _) fun h' hx'=>?_)))
 have I3:=I2.kept (h':=h') (t':=s1.toks) fun b o e=>hx' b o (Nat.ne_of_lt (Heap.lt_size e)) e
 show wpAny _ _ (assignInOrder [fun v=>bindName X.env y v,fun v=>bindName X.env x v] [u2,u1] >>= fun _=>pure Flow.next) _ _ _
 refine wpAny_bind (assignInOrder_cons (wpAny_bindName (uv I3 hN hj (.inl hy) rw' (fun s2 I4=>?_) (.inr hy))))
 refine assignInOrder_cons (wpAny_bindName (uv I4 hN hi (.inl hx) rv (fun s3 I5=>assignInOrder_nil (wpAny_pure ?_)) (.inr hx)))
 rw [List.set_comm _ _ (Ne.symm hij)] at I5
 exact ⟨_,H1,I5,q1⟩
noncomputable def J7 (c:TT) (tb:TS):TS:=fun D σ H=>∃ W:Nat->St->Hp->Prop,(∃ m,W m σ H) /\ ∀ m σ H,W m σ H ->
 c σ H fun b H1=>if b = true then ∃ N:St->Hp->Prop,(∀ σ' H',N σ' H'->∃ m',m' < m /\ W m' σ' H') /\ tb { D with nx:=N,ct:=N,bk:=D.nx } σ H1 else D.nx σ H1
theorem Wf {c:Expr} {body:List Stmt} {tc:TT} {tb:TS} (hp:PassesOwn (model X.prog X.w) X.A X.env X.xe) (hc:PT X c tc) (hb:PSs X body tb):PS X (.While c body [] pos) (J7 tc tb):=by
 intro pn s σ H D I h
 obtain ⟨W,⟨m0,w0⟩,turn⟩:=h
 refine wpAny_While (codeAny_whileLoop (fun n s'=>∃ σ' H',Inv X pn σ' H' s' /\ W n σ' H') ?_ m0 ⟨σ,H,I,w0⟩)
 rintro n s1 ⟨σ1,H1,I1,w1⟩
 refine wpAny_passesOwn hp (thn (hc pn s1 σ1 H1 _ I1 (turn n σ1 H1 w1)) fun b s2 ⟨H2,I2,q2⟩=>?_)
 cases b with
 | true =>
  obtain ⟨N,hN,q2⟩:=q2
  rw [if_pos rfl]
  refine wpAny_passesOwn hp (thn (hb pn s2 σ1 H2 _ I2 q2) fun f s3 q3=>?_)
  cases f with
  | next =>
   obtain ⟨σ3,H3,I3,n3⟩:=q3
   obtain ⟨m',hm,w3⟩:=hN σ3 H3 n3
   exact ⟨m',hm,σ3,H3,I3,w3⟩
  | cont =>
   obtain ⟨σ3,H3,I3,n3⟩:=q3
   obtain ⟨m',hm,w3⟩:=hN σ3 H3 n3
   exact ⟨m',hm,σ3,H3,I3,w3⟩
  | brk=>exact q3
  | ret v=>exact q3
 | false =>
  rw [if_neg Bool.false_ne_true]
  exact wpAny_execs_nil ⟨σ1,H2,I2,q2⟩
end
structure It where
 go:Nat->Hp->Prop
 yld:Nat->Hp->V->Hp->Prop
 stop:Nat->Hp->Prop
noncomputable def FpOk (X:Cx) (pn:List (Addr × Obj)) (H:Hp) (b:Addr):Prop :=
 H b = none /\ b ≠ X.env.locals /\ b ∉ X.fs /\ (b ∈ X.ex \/ X.s₀.heap.objs.size <= b) /\ (∀ x c,X.env.cells.lookup x = some c->c ≠ b) /\ ∀ p ∈ X.pn ++ pn,p.1 ≠ b
theorem Inv.fpOk {X:Cx} {pn:List (Addr × Obj)} {σ:St} {H H':Hp} {s:Shared} {b:Addr} (I:Inv X pn σ H s) (hb:s.heap.objs.size <= b) (hn:H' b = none):FpOk X pn H' b:=by
 refine ⟨hn,Nat.ne_of_gt (Nat.lt_of_lt_of_le I.lt hb),I.nofs hb,.inr (Nat.le_trans I.sz hb),fun x c e z=>?_,fun p hp z=>?_⟩
 ·obtain ⟨v,q⟩:=I.cell x c e
  exact absurd (Nat.lt_of_lt_of_le q.lt (by rw [z]; exact hb)) (Nat.lt_irrefl _)
 ·exact absurd (Nat.lt_of_lt_of_le (Heap.lt_size (I.pin p hp).1) (by rw [z]; exact hb)) (Nat.lt_irrefl _)
structure Turn (P:Program) (w:World) (K:W.Frag) (tg:Expr) (J:It) (fp:List Addr) (it:Addr) (tn:Nat->Heap->Prop):Prop where
 mem:it ∈ fp
 obj:∀ i h,tn i h->∀ b ∈ fp,∃ o,h.get? b = some o /\ ∀ v,o.data ≠ .cell v
 keep:∀ i h h',tn i h->(∀ b ∈ fp,∀ o,h.get? b = some o->h'.get? b = some o)->tn i h'
 item:∀ (X:Cx),X.prog = P->X.w = w->X.K = K->X.calm = true->∀ (i:Nat) (pn:List (Addr × Obj)) (s:Shared) (σ:St) (H:Hp) (E:Value->Shared->Prop),Inv X pn σ H s->(∀ b ∈ fp,FpOk X pn H b)->tn i s.heap->J.go i H ->
  wpAny (model P w) X.A (pyNext (.ref it)) (fun r s1=>∃ u,r = some u /\
   wpAny (model P w) X.A (letOwnedTupleGo tg (.ref it) u) (fun _ s2=>∃ x H',Inv X pn σ H' s2 /\ RelV x u /\ J.yld i H x H' /\ tn (i + 1) s2.heap /\ ∀ b ∈ fp,H' b = none) E s1) E s
 done:∀ (X:Cx),X.prog = P->X.w = w->X.K = K->X.calm = true->∀ (i:Nat) (pn:List (Addr × Obj)) (s:Shared) (σ:St) (H:Hp) (E:Value->Shared->Prop),Inv X pn σ H s->(∀ b ∈ fp,FpOk X pn H b)->tn i s.heap->J.stop i H ->
  wpAny (model P w) X.A (pyNext (.ref it)) (fun r s1=>r = none /\ Inv X pn σ H s1) E s
 self:∀ (A:Around) (i:Nat) (s:Shared) (Q:Value->Shared->Prop) (E:Value->Shared->Prop),tn i s.heap->Q (.ref it) s->wpAny (model P w) A (pyIter (.ref it)) Q E s
noncomputable abbrev TI:=St->Hp->(It->Hp->Prop)->Prop
noncomputable def PIE (X:Cx) (pn:List (Addr × Obj)) (σ:St) (tg:Expr) (R:It->Hp->Prop) (itv:Value) (s2:Shared):Prop :=
 ∃ (it:Addr) (fp:List Addr) (tn:Nat->Heap->Prop) (J:It) (H':Hp),itv = .ref it /\ Inv X pn σ H' s2 /\ Turn X.prog X.w X.K tg J fp it tn /\ tn 0 s2.heap /\ (∀ b ∈ fp,FpOk X pn H' b) /\ R J H'
noncomputable def PI (X:Cx) (tg iter:Expr) (wi:TI):Prop :=
 ∀ (pn:List (Addr × Obj)) (s:Shared) (σ:St) (H:Hp) (R:It->Hp->Prop),Inv X pn σ H s->wi σ H R ->
  wpAny (model X.prog X.w) X.A (eval iter X.env) (fun v s1=>wpAny (model X.prog X.w) X.A (pyIter v) (PIE X pn σ tg R) X.xe s1) X.xe s
theorem O7 {M:Model} {A:Around} {E:Value->Shared->Prop} {s:Shared} {tg:Expr} {it:Addr} {u:Value} {o:Obj} {n:String} {vs:Array Value} {Q:Unit->Shared->Prop} (ho:s.heap.get? it = some o) (hc:o.cls = .type n) (hd:o.data = .fields vs)
  (hn:["enumerate", "zip", "dict_itemiterator", "dict_reverseitemiterator", "odict_iterator", "itertools.zip_longest", "itertools.pairwise"].contains n = false) (hQ:Q () s):wpAny M A (letOwnedTupleGo tg (.ref it) u) Q E s:=by
 unfold letOwnedTupleGo
 cases tg <;> first
  | exact wpAny_pure hQ
  | (cases u <;> first
    | exact wpAny_pure hQ
    | (refine wpAny_bind (wpAny_load ho ?_)
       rw [hc,hd]
       show wpAny M A (if (["enumerate", "zip", "dict_itemiterator", "dict_reverseitemiterator", "odict_iterator", "itertools.zip_longest", "itertools.pairwise"].contains n && vs[0]? == some (rawInt _)) = true then _ else _) Q E s
       rw [if_neg (by intro h; rw [hn,Bool.false_and] at h; cases h)]
       exact wpAny_pure hQ))
noncomputable def Itl (K:W.Frag) (a:Addr):It :=
 ⟨fun i H=>∃ xs x,SqL K H a xs /\ xs[i]? = some x,fun i H x H'=>H' = H /\ ∀ xs,SqL K H a xs->xs[i]? = some x,fun i H=>∃ xs,SqL K H a xs /\ xs.length <= i⟩
noncomputable def Itt (K:W.Frag) (a:Addr):It :=
 ⟨fun i H=>∃ xs x,SqT K H a xs /\ xs[i]? = some x,fun i H x H'=>H' = H /\ ∀ xs,SqT K H a xs->xs[i]? = some x,fun i H=>∃ xs,SqT K H a xs /\ xs.length <= i⟩
noncomputable def Itr (lo:Int) (n:Nat):It:=⟨fun i _=>i < n,fun i H x H'=>H' = H /\ x = .int (lo + i),fun i _=>n <= i⟩
theorem Ug {P:Program} {w:World} {K:W.Frag} {tg:Expr} (a it:Addr):Turn P w K tg (Itl K a) [it] it (fun i h=>h.IsListIter it a i) where
 mem:=by simp
 obj:=fun i h st b hb=>by
  have e:b = it:=by simpa using hb
  subst e
  obtain ⟨o,e,c,d⟩:=st
  exact ⟨o,e,fun v z=>by rw [d] at z; cases z⟩
 keep:=fun i h h' st k=>st.at fun o e=>k it (by simp) o e
 item:=by
  intro X hP hw hK hc i pn s σ H E I hf st hg
  subst hP hw hK
  obtain ⟨xs,x,hq,hx⟩:=hg
  obtain ⟨its,rv,p,hz⟩:=I.list hq
  obtain ⟨u,hu,ru⟩:=rv.get hx
  obtain ⟨f0,f1,f2,f3,f4,f5⟩:=hf it (by simp)
  refine wpAny_pyNext_list_item st p.isList (x:=u) (by simpa using hu) fun h' st' sb=>?_
  have I1:Inv X pn σ H { s with heap:=h' }:=I.turned (t':=s.toks) (fun b o hb e=>(sb.2 b hb).trans e) f0 f1 f3 f4 f5
  obtain ⟨o,e,c,d⟩:=id st'
  exact ⟨u,rfl,O7 (s:={ s with heap:=h' }) e c d (by decide) ⟨x,H,I1,ru,⟨rfl,fun ys hy=>by rw [I.list_inj hy hq]; exact hx⟩,st',fun b hb=>(hf b hb).1⟩⟩
 done:=by
  intro X hP hw hK hc i pn s σ H E I hf st hg
  subst hP hw hK
  obtain ⟨xs,hq,hx⟩:=hg
  obtain ⟨its,rv,p,hz⟩:=I.list hq
  obtain ⟨f0,f1,f2,f3,f4,f5⟩:=hf it (by simp)
  have hl:=rv.length
  exact wpAny_pyNext_list_end (I.ok.hd hc) st p.isList (by simp; omega) fun h' eb=>⟨rfl,I.turned (t':=s.toks) (fun b o hb e=>eb b o hb e) f0 f1 f3 f4 f5⟩
 self:=fun _ _ _ _ _ st h=>wpAny_pyIter_listiter st h
theorem Vj {P:Program} {w:World} {K:W.Frag} {tg:Expr} (a it:Addr):Turn P w K tg (Itt K a) [it] it (fun i h=>h.IsTupleIter it a i) where
 mem:=by simp
 obj:=fun i h st b hb=>by
  have e:b = it:=by simpa using hb
  subst e
  obtain ⟨o,e,c,d⟩:=st
  exact ⟨o,e,fun v z=>by rw [d] at z; cases z⟩
 keep:=fun i h h' st k=>st.at fun o e=>k it (by simp) o e
 item:=by
  intro X hP hw hK hc i pn s σ H E I hf st hg
  subst hP hw hK
  obtain ⟨xs,x,hq,hx⟩:=hg
  obtain ⟨its,rv,p,hz⟩:=I.tuple hq
  obtain ⟨u,hu,ru⟩:=rv.get hx
  obtain ⟨f0,f1,f2,f3,f4,f5⟩:=hf it (by simp)
  refine wpAny_pyNext_tuple_item st (show s.heap.IsTuple a its.toArray from p) (x:=u) (by simpa using hu) fun h' st' sb=>?_
  have I1:Inv X pn σ H { s with heap:=h' }:=I.turned (t':=s.toks) (fun b o hb e=>(sb.2 b hb).trans e) f0 f1 f3 f4 f5
  obtain ⟨o,e,c,d⟩:=id st'
  exact ⟨u,rfl,O7 (s:={ s with heap:=h' }) e c d (by decide) ⟨x,H,I1,ru,⟨rfl,fun ys hy=>by rw [I.tuple_inj hy hq]; exact hx⟩,st',fun b hb=>(hf b hb).1⟩⟩
 done:=by
  intro X hP hw hK hc i pn s σ H E I hf st hg
  subst hP hw hK
  obtain ⟨xs,hq,hx⟩:=hg
  obtain ⟨its,rv,p,hz⟩:=I.tuple hq
  obtain ⟨f0,f1,f2,f3,f4,f5⟩:=hf it (by simp)
  have hl:=rv.length
  exact wpAny_pyNext_tuple_end (I.ok.hd hc) st (show s.heap.IsTuple a its.toArray from p) (by simp; omega) fun h' eb=>⟨rfl,I.turned (t':=s.toks) (fun b o hb e=>eb b o hb e) f0 f1 f3 f4 f5⟩
 self:=fun _ _ _ _ _ st h=>wpAny_pyIter_tupleiter st h
theorem Vk {P:Program} {w:World} {K:W.Frag} {tg:Expr} (it:Addr) (lo:Int) (n:Nat):Turn P w K tg (Itr lo n) [it] it (fun i h=>IsRangeIter h it (lo + (i:Nat) * 1) ((n:Int) - (i:Nat)) 1) where
 mem:=by simp
 obj:=fun i h st b hb=>by
  have e:b = it:=by simpa using hb
  subst e
  exact ⟨_,st,fun v z=>by
   have z':Data.fields _ = Data.cell v:=z
   cases z'⟩
 keep:=fun i h h' st k=>k it (by simp) _ st
 item:=by
  intro X hP hw hK hc i pn s σ H E I hf st hg
  subst hP hw hK
  obtain ⟨f0,f1,f2,f3,f4,f5⟩:=hf it (by simp)
  have W:=Walks.range (prog:=X.prog) (w:=X.w) (I.ok.hd hc) it lo 1 n
  refine W.item i s _ _ hg st fun v h' tk hv st' kk=>?_
  obtain ⟨t,rfl⟩:=hv
  have I1:Inv X pn σ H { s with heap:=h',toks:=tk }:=I.turned (fun b o hb e=>kk b o (by simpa using hb) e) f0 f1 f3 f4 f5
  refine ⟨_,rfl,O7 (s:={ s with heap:=h',toks:=tk }) (n:="range_iterator") st' rfl rfl (by decide) ⟨.int (lo + i),H,I1,⟨t,?_⟩,⟨rfl,rfl⟩,st',fun b hb=>(hf b hb).1⟩⟩
  rw [Int.mul_one]
 done:=by
  intro X hP hw hK hc i pn s σ H E I hf st hg
  subst hP hw hK
  obtain ⟨f0,f1,f2,f3,f4,f5⟩:=hf it (by simp)
  exact wpAny_pyNext_range_end (I.ok.hd hc) st (by have:n <= i:=hg; omega) fun h' eb=>⟨rfl,I.turned (t':=s.toks) (fun b o hb e=>eb b o hb e) f0 f1 f3 f4 f5⟩
 self:=fun _ _ _ _ _ st h=>wpAny_pyIter_rangeiter st h
section
variable {X:Cx} {tg:Expr}
theorem P3 {pn:List (Addr × Obj)} {σ:St} {H:Hp} {s:Shared} {R:It->Hp->Prop} {E:Value->Shared->Prop} {lo hi:Int} {t u v:Tok} {tk:Nat} (I:Inv X pn σ H s) (h1:-(2 ^ 62) <= lo) (h2:lo < 2 ^ 62) (h3:-(2 ^ 62) <= hi) (h4:hi < 2 ^ 62)
  (q:R (Itr lo (hi - lo).toNat) H):wpAny (model X.prog X.w) X.A (pyIter (.ref s.heap.objs.size)) (PIE X pn σ tg R) E { s with heap:=s.heap.push { cls:=.type "range", data:=.fields #[.int lo t,.int hi u,.int 1 v] },toks:=tk }:=by
 refine wpAny_pyIter_range (IsRange.new ..) (small_one h1 h2 h3 h4) ?_
 have I1:Inv X pn σ H { s with heap:=s.heap.push { cls:=.type "range", data:=.fields #[.int lo t,.int hi u,.int 1 v] },toks:=tk }:=I.kept fun b o e=>Heap.get?_push_of_some _ e
 refine ⟨(s.heap.push { cls:=.type "range", data:=.fields #[.int lo t,.int hi u,.int 1 v] }).objs.size,[(s.heap.push { cls:=.type "range", data:=.fields #[.int lo t,.int hi u,.int 1 v] }).objs.size],_,_,H,rfl,
  I1.kept (t':=tk) fun b o e=>Heap.get?_push_of_some _ e,Vk _ lo (hi - lo).toNat,?_,fun b hb=>?_,q⟩
 ·have e1:lo + ((0:Nat):Int) * 1 = lo:=by simp
  have e2:(((hi - lo).toNat:Nat):Int) - ((0:Nat):Int) = Builtin.Range.rangeSize lo hi 1:=by rw [rangeSize_one]; split <;> omega
  show IsRangeIter _ _ (lo + ((0:Nat):Int) * 1) ((((hi - lo).toNat:Nat):Int) - ((0:Nat):Int)) 1
  rw [e1,e2]
  exact Heap.get?_push_size _ rfl
 ·have e:b = (s.heap.push { cls:=.type "range", data:=.fields #[.int lo t,.int hi u,.int 1 v] }).objs.size:=by simpa using hb
  subst e
  exact I1.fpOk (Nat.le_refl _) (I1.hok.fresh (Nat.le_refl _))
noncomputable def D8 (ta:TA):TI:=fun σ H R=>ta σ H fun vs H1=>∃ j:Int,vs = [.int j] /\ -(2 ^ 62) <= j /\ j < 2 ^ 62 /\ R (Itr 0 j.toNat) H1
theorem Ti {a:Expr} {ta:TA} {p pos:Pos} (hg:Gl X "range") (hm:X.mg "range" = none) (ha:PA X [a] ta) (hs:starEach [a] X.env = [(false,eval a X.env)]:=by rfl):PI X tg (.Call (.Name "range" p) [a] [] pos) (D8 ta):=by
 intro pn s σ H R I h
 refine Call_ (j4 I hg hm boot_range (PyProof.Rows.callWith_type1 (thn (ha pos pn s σ H _ I h) fun us s1 ⟨vs,H1,I1,r1,q1⟩=>?_) hs rfl))
 obtain ⟨j,e,q1,q2,q⟩:=q1
 subst e
 cases r1 with
 | cons r rr =>
  cases rr
  obtain ⟨t,rfl⟩:=r
  exact call_range_1 (P3 I1 (by omega) (by omega) q1 q2 (by simpa using q))
noncomputable def tFor (wi:TI) (g:TG) (tb:TS):TS:=fun D σ H=>wi σ H fun J H1=>∃ W:Nat->Nat->St->Hp->Prop,(∃ m,W 0 m σ H1) /\ ∀ i m σ H,W i m σ H ->
 (J.stop i H /\ D.nx σ H) \/ (J.go i H /\ ∃ N:St->Hp->Prop,(∀ σ' H',N σ' H'->∃ m',m' < m /\ W (i + 1) m' σ' H') /\ ∀ x H',J.yld i H x H'->g x σ H' fun σ2 H2=>tb { D with nx:=N,ct:=N,bk:=D.nx } σ2 H2)
noncomputable def Za (fp:List Addr) (h:Heap):List (Addr × Obj):=fp.filterMap fun b=>(h.get? b).map fun o=>(b,o)
theorem ud {fp:List Addr} {h:Heap} {b:Addr} {o:Obj} (hb:b ∈ fp) (e:h.get? b = some o):(b,o) ∈ Za fp h:=List.mem_filterMap.mpr ⟨b,hb,by rw [e]; rfl⟩
theorem Tq {fp:List Addr} {h:Heap} {p:Addr × Obj} (hp:p ∈ Za fp h):p.1 ∈ fp /\ h.get? p.1 = some p.2:=by
 obtain ⟨b,hb,e⟩:=List.mem_filterMap.mp hp
 cases q:h.get? b with
 | none=>rw [q] at e; cases e
 | some o =>
  rw [q] at e
  have e':(b,o) = p:=Option.some.inj e
  subst e'
  exact ⟨hb,q⟩
theorem Inv.pinned {pn:List (Addr × Obj)} {σ:St} {H:Hp} {s:Shared} {fp:List Addr} (I:Inv X pn σ H s) (hf:∀ b ∈ fp,FpOk X pn H b) (ho:∀ b ∈ fp,∃ o,s.heap.get? b = some o /\ ∀ v,o.data ≠ .cell v):Inv X (pn ++ Za fp s.heap) σ H s :=
 I.pins_of fun p hp=>(List.mem_append.mp hp).elim (fun z=>I.pin p (List.mem_append_right _ z)) fun z=>by
  obtain ⟨hb,e⟩:=Tq z
  obtain ⟨f0,f1,f2,_⟩:=hf p.1 hb
  obtain ⟨o,e',d⟩:=ho p.1 hb
  rw [e] at e'; cases e'
  exact ⟨e,f0,f1,f2,d⟩
theorem Inv.unpinned {pn pl:List (Addr × Obj)} {σ:St} {H:Hp} {s:Shared} (I:Inv X (pn ++ pl) σ H s):Inv X pn σ H s:=I.pins_of fun p hp=>I.pin p (List.mem_append_right _ (List.mem_append_left _ hp))
theorem Ho {iter:Expr} {body:List Stmt} {wi:TI} {g:TG} {tb:TS} {pos:Pos} (hp:PassesOwn (model X.prog X.w) X.A X.env X.xe) (hc:X.calm = true) (hi:PI X tg iter wi) (hg:PG X tg g) (hb:PSs X body tb)
  (hs:∀ x,foldedSetIterable iter X.env x = pure x:=by intro _; rfl):PS X (.For tg iter body [] pos) (tFor wi g tb):=by
 intro pn s σ H D I h
 refine wpAny_For (thn (hi pn s σ H _ I h) fun v s1 h1=>thn h1 fun itv s2 h2=>?_) hs
 obtain ⟨it,fp,tn,J,H2,e,I2,T,st2,f2,W,⟨m0,w0⟩,turn⟩:=h2
 subst e
 have stat:∀ {H':Hp},(∀ b ∈ fp,H' b = none)->∀ b ∈ fp,FpOk X pn H' b:=fun hn b hb=>⟨hn b hb,(f2 b hb).2⟩
 refine codeAny_forLoop_any (fun n s'=>∃ i σ' H',Inv X pn σ' H' s' /\ tn i s'.heap /\ (∀ b ∈ fp,H' b = none) /\ W i n σ' H') ?_ m0 ⟨0,σ,H2,I2,st2,fun b hb=>(f2 b hb).1,w0⟩
 rintro n s3 ⟨i,σ3,H3,I3,st3,fr3,w3⟩
 rcases turn i n σ3 H3 w3 with ⟨stop,qn⟩ | ⟨go,N,hN,step⟩
 ·refine wpAny_passesOwn hp (thn (T.done X rfl rfl rfl hc i pn s3 σ3 H3 X.xe I3 (stat fr3) st3 stop) fun r s4 ⟨hr,I4⟩=>?_)
  subst hr
  exact wpAny_execs_nil ⟨σ3,H3,I4,qn⟩
 ·refine wpAny_passesOwn hp (thn (T.item X rfl rfl rfl hc i pn s3 σ3 H3 X.xe I3 (stat fr3) st3 go) fun r s4 ⟨u,hr,h4⟩=>?_)
  subst hr
  refine wpAny_passesOwn hp (thn h4 fun _ s5 ⟨x,H5,I5,r5,y5,st5,fr5⟩=>?_)
  have I5':=I5.pinned (stat fr5) (T.obj _ _ st5)
  refine wpAny_passesOwn hp (thn (hg _ s5 σ3 H5 x u _ I5' r5 (step x H5 y5)) fun _ s6 ⟨σ6,H6,I6,q6⟩=>?_)
  refine wpAny_passesOwn hp (thn (hb _ s6 σ6 H6 _ I6 q6) fun f s7 q7=>?_)
  have again:∀ {σ7:St} {H7:Hp},Inv X (pn ++ Za fp s5.heap) σ7 H7 s7->N σ7 H7->∃ m,m < n /\ ∃ i σ' H',Inv X pn σ' H' s7 /\ tn i s7.heap /\ (∀ b ∈ fp,H' b = none) /\ W i m σ' H':=fun {σ7 H7} I7 n7=>by
   obtain ⟨m',hm,w7⟩:=hN σ7 H7 n7
   refine ⟨m',hm,i + 1,σ7,H7,I7.unpinned,T.keep _ _ _ st5 fun b hb o e=>(I7.pin (b,o) (List.mem_append_right _ (List.mem_append_right _ (ud hb e)))).1,fun b hb=>?_,w7⟩
   obtain ⟨o,e,d⟩:=T.obj _ _ st5 b hb
   exact (I7.pin (b,o) (List.mem_append_right _ (List.mem_append_right _ (ud hb e)))).2.1
  cases f with
  | next=>obtain ⟨σ7,H7,I7,n7⟩:=q7; exact again I7 n7
  | cont=>obtain ⟨σ7,H7,I7,n7⟩:=q7; exact again I7 n7
  | brk=>obtain ⟨σ7,H7,I7,q7⟩:=q7; exact ⟨σ7,H7,I7.unpinned,q7⟩
  | ret v=>obtain ⟨x7,σ7,H7,I7,r7,q7⟩:=q7; exact ⟨x7,σ7,H7,I7.unpinned,r7,q7⟩
end
noncomputable abbrev R2:=V->V->Hp->VK->Prop
noncomputable def OpR (X:Cx) (f:Value->Value->Sem Value) (r:R2):Prop :=
 ∀ (pn:List (Addr × Obj)) (s:Shared) (σ:St) (H:Hp) (x y:V) (v u:Value) (Q:VK),Inv X pn σ H s->RelV x v->RelV y u->r x y H Q ->
  wpAny (model X.prog X.w) X.A (f v u) (EP X pn σ Q) X.xe s
noncomputable def UnR (X:Cx) (f:Value->Sem Value) (r:V->Hp->VK->Prop):Prop :=
 ∀ (pn:List (Addr × Obj)) (s:Shared) (σ:St) (H:Hp) (x:V) (v:Value) (Q:VK),Inv X pn σ H s->RelV x v->r x H Q ->
  wpAny (model X.prog X.w) X.A (f v) (EP X pn σ Q) X.xe s
noncomputable def u0 (X:Cx) (f:Value) (r:List V->Hp->VK->Prop):Prop :=
 ∀ (pn:List (Addr × Obj)) (s:Shared) (σ:St) (H:Hp) (xs:List V) (us:List Value) (Q:VK),Inv X pn σ H s->Vals xs us->r xs H Q ->
  wpAny (model X.prog X.w) X.A (call f us) (EP X pn σ Q) X.xe s
noncomputable def TruR (X:Cx) (r:V->Hp->(Bool->Hp->Prop)->Prop):Prop :=
 ∀ (pn:List (Addr × Obj)) (s:Shared) (σ:St) (H:Hp) (x:V) (v:Value) (Q:Bool->Hp->Prop),Inv X pn σ H s->RelV x v->r x H Q ->
  wpAny (model X.prog X.w) X.A (truthy v) (TP X pn σ Q) X.xe s
noncomputable def tOp (r:R2) (ta tb:TE):TE:=fun σ H Q=>ta σ H fun x H1=>tb σ H1 fun y H2=>r x y H2 Q
noncomputable def tUn (r:V->Hp->VK->Prop) (ta:TE):TE:=fun σ H Q=>ta σ H fun x H1=>r x H1 Q
noncomputable def rI (C:Int->Int->Prop) (g:Int->Int->V):R2:=fun x y H Q=>∃ i j,x = .int i /\ y = .int j /\ C i j /\ Q (g i j) H
noncomputable def rI0 (g:Int->Int->V):R2:=fun x y H Q=>∃ i j,x = .int i /\ y = .int j /\ Q (g i j) H
noncomputable def rU (g:Int->V):V->Hp->VK->Prop:=fun x H Q=>∃ i,x = .int i /\ Q (g i) H
section
variable {X:Cx} {a b c:Expr} {ta tb tc:TE} {pos:Pos}
theorem binT (ha:PE X a ta) (hb:PE X b tb) {pn:List (Addr × Obj)} {s:Shared} {σ:St} {H:Hp} {R:V->V->Hp->Prop} (I:Inv X pn σ H s)
  (h:ta σ H fun x H1=>tb σ H1 fun y H2=>R x y H2) {Q:Value->Shared->Prop} {f:Value->Value->Sem Value}
  (hf:∀ v u s2 x y H2,Inv X pn σ H2 s2->RelV x v->RelV y u->R x y H2->wpAny (model X.prog X.w) X.A (f v u) Q X.xe s2) :
  wpAny (model X.prog X.w) X.A (eval a X.env) (fun v s₁=>wpAny (model X.prog X.w) X.A (eval b X.env) (fun u s₂=>wpAny (model X.prog X.w) X.A (f v u) Q X.xe s₂) X.xe s₁) X.xe s:=by
 refine thn (ha pn s σ H _ I h) fun v s1 ⟨x,H1,I1,r1,q1⟩=>?_
 refine thn (hb pn s1 σ H1 _ I1 q1) fun u s2 ⟨y,H2,I2,r2,q2⟩=>?_
 exact hf v u s2 x y H2 I2 r1 r2 q2
theorem En {op:Operator} {r:R2} (ho:OpR X (binaryOp op) r) (ha:PE X a ta) (hb:PE X b tb):PE X (.BinOp a op b pos) (tOp r ta tb):=by
 intro pn s σ H Q I h
 exact wpAny_BinOp (binT ha hb I h fun v u s2 x y H2 I2 rx ry q=>ho pn s2 σ H2 x y v u Q I2 rx ry q)
theorem Em {op:UnaryOp} {r:V->Hp->VK->Prop} (ho:UnR X (unaryOp op) r) (ha:PE X a ta):PE X (.UnaryOp op a pos) (tUn r ta):=by
 intro pn s σ H Q I h
 exact UnaryOp_ (thn (ha pn s σ H _ I h) fun v s1 ⟨x,H1,I1,r1,q1⟩=>ho pn s1 σ H1 x v Q I1 r1 q1)
theorem opI {f:Value->Value->Sem Value} {C:Int->Int->Prop} {g:Int->Int->Int}
  (rule:∀ (i j:Int) (t u:Tok) (s:Shared) (Q:Value->Shared->Prop) (E:Value->Shared->Prop),C i j->Q (.int (g i j) s.toks) { s with toks:=s.toks + 1 }->wpAny (model X.prog X.w) X.A (f (.int i t) (.int j u)) Q E s) :
  OpR X f (rI C fun i j=>.int (g i j)):=by
 intro pn s σ H x y v u Q I rx ry h
 obtain ⟨i,j,rfl,rfl,hc,q⟩:=h
 obtain ⟨t,rfl⟩:=rx
 obtain ⟨t',rfl⟩:=ry
 exact rule i j t t' s _ _ hc ⟨.int (g i j),H,I.tok _,⟨_,rfl⟩,q⟩
theorem opI0 {f:Value->Value->Sem Value} {g:Int->Int->Int}
  (rule:∀ (i j:Int) (t u:Tok) (s:Shared) (Q:Value->Shared->Prop) (E:Value->Shared->Prop),Q (.int (g i j) s.toks) { s with toks:=s.toks + 1 }->wpAny (model X.prog X.w) X.A (f (.int i t) (.int j u)) Q E s) :
  OpR X f (rI0 fun i j=>.int (g i j)):=by
 intro pn s σ H x y v u Q I rx ry h
 obtain ⟨i,j,rfl,rfl,q⟩:=h
 obtain ⟨t,rfl⟩:=rx
 obtain ⟨t',rfl⟩:=ry
 exact rule i j t t' s _ _ ⟨.int (g i j),H,I.tok _,⟨_,rfl⟩,q⟩
theorem opB0 {f:Value->Value->Sem Value} {g:Int->Int->Bool}
  (rule:∀ (i j:Int) (t u:Tok) (s:Shared) (Q:Value->Shared->Prop) (E:Value->Shared->Prop),Q (.bool (g i j)) s->wpAny (model X.prog X.w) X.A (f (.int i t) (.int j u)) Q E s) :
  OpR X f (rI0 fun i j=>.bl (g i j)):=by
 intro pn s σ H x y v u Q I rx ry h
 obtain ⟨i,j,rfl,rfl,q⟩:=h
 obtain ⟨t,rfl⟩:=rx
 obtain ⟨t',rfl⟩:=ry
 exact rule i j t t' s _ _ ⟨.bl (g i j),H,I,rfl,q⟩
noncomputable def CPow (i j:Int):Prop:=0 <= j /\ j <= 1000000 /\ i.natAbs < 2 ^ 64
theorem Gh:OpR X (binaryOp .Add) (rI0 fun i j=>.int (i + j)):=opI0 fun _ _ _ _ _ _ _ q=>add_int q
theorem Hz:OpR X (binaryOp .Sub) (rI0 fun i j=>.int (i - j)):=opI0 fun _ _ _ _ _ _ _ q=>sub_int q
theorem Lh:OpR X (binaryOp .Mod) (rI (fun _ j=>j ≠ 0) fun i j=>.int (i.fmod j)):=opI fun _ _ _ _ _ _ _ hc q=>mod_int' hc q
theorem Gb:OpR X (binaryOp .Pow) (rI CPow fun i j=>.int (i ^ j.toNat)):=opI fun _ _ _ _ _ _ _ hc q=>pow_int_small hc.1 hc.2.1 hc.2.2 q
theorem unI {f:Value->Sem Value} {g:Int->Int}
  (rule:∀ (i:Int) (t:Tok) (s:Shared) (Q:Value->Shared->Prop) (E:Value->Shared->Prop),Q (.int (g i) s.toks) { s with toks:=s.toks + 1 }->wpAny (model X.prog X.w) X.A (f (.int i t)) Q E s) :
  UnR X f (rU fun i=>.int (g i)):=by
 intro pn s σ H x v Q I rx h
 obtain ⟨i,rfl,q⟩:=h
 obtain ⟨t,rfl⟩:=rx
 exact rule i t s _ _ ⟨.int (g i),H,I.tok _,⟨_,rfl⟩,q⟩
theorem J3:UnR X (unaryOp .USub) (rU fun i=>.int (-i)):=unI fun _ _ _ _ _ q=>neg_int q
theorem Nt {pn:List (Addr × Obj)} {σ:St} {H:Hp} {s:Shared} {Q:VK} {k k':Bool} (I:Inv X pn σ H s) (q:Q (.bl k) H) (e:k = k'):EP X pn σ Q (.bool k') s:=by
 subst e
 exact ⟨.bl k,H,I,rfl,q⟩
theorem Es:OpR X (compareOp .Lt) (rI0 fun i j=>.bl (decide (i < j))):=opB0 fun _ _ _ _ _ _ _ q=>lt_int q
theorem Et:OpR X (compareOp .LtE) (rI0 fun i j=>.bl (decide (i <= j))):=opB0 fun _ _ _ _ _ _ _ q=>le_int q
theorem Eu:OpR X (compareOp .Gt) (rI0 fun i j=>.bl (decide (j < i))):=opB0 fun _ _ _ _ _ _ _ q=>gt_int q
theorem Ew:OpR X (compareOp .GtE) (rI0 fun i j=>.bl (decide (j <= i))):=opB0 fun _ _ _ _ _ _ _ q=>ge_int q
theorem Ge:OpR X (compareOp .Is) (fun x y H Q=>y = .non /\ Q (.bl (decide (x = .non))) H):=by
 intro pn s σ H x y v u Q I rx ry h
 obtain ⟨rfl,q⟩:=h
 cases ry
 refine is_none_gen (Nt I q ?_)
 cases x <;> first
  | (cases rx; rfl)
  | (obtain ⟨t,rfl⟩:=rx; rfl)
theorem Lf:OpR X (compareOp .IsNot) (fun x y H Q=>y = .non /\ Q (.bl (!decide (x = .non))) H):=by
 intro pn s σ H x y v u Q I rx ry h
 obtain ⟨rfl,q⟩:=h
 cases ry
 refine isnot_none_gen (Nt I q ?_)
 cases x <;> first
  | (cases rx; rfl)
  | (obtain ⟨t,rfl⟩:=rx; rfl)
theorem OpR.or {f:Value->Value->Sem Value} {r r':R2} (h:OpR X f r) (h':OpR X f r'):OpR X f (fun x y H Q=>r x y H Q \/ r' x y H Q):=by
 intro pn s σ H x y v u Q I rx ry q
 rcases q with q | q
 ·exact h pn s σ H x y v u Q I rx ry q
 ·exact h' pn s σ H x y v u Q I rx ry q
theorem t4 (b:Expr) {op:CmpOp} (h:op ≠ .In:=by decide) (h2:op ≠ .NotIn:=by decide):behindInMarks op b = false:=by
 have e1:(op == CmpOp.In) = false:=by cases op <;> first | rfl | exact absurd rfl h
 have e2:(op == CmpOp.NotIn) = false:=by cases op <;> first | rfl | exact absurd rfl h2
 cases b <;> simp [behindInMarks,e1,e2]
theorem Lc {op:CmpOp} {r:R2} (ho:OpR X (compareOp op) r) (ha:PE X a ta) (hb:PE X b tb) (hm:behindInMarks op b = false):PE X (.Compare a [op] [b] pos) (tOp r ta tb):=by
 intro pn s σ H Q I h
 exact wpAny_Compare1 (binT ha hb I h fun v u s2 x y H2 I2 rx ry q=>ho pn s2 σ H2 x y v u Q I2 rx ry q) hm
noncomputable def Ea (t:TE):TT:=fun σ H Q=>t σ H fun x H'=>∃ k,x = .bl k /\ Q k H'
theorem Ms {op:CmpOp} {r:R2} (ho:OpR X (compareOp op) r) (ha:PE X a ta) (hb:PE X b tb) (hm:behindInMarks op b = false):PT X (.Compare a [op] [b] pos) (Ea (tOp r ta tb)):=by
 intro pn s σ H Q I h
 refine wpAny_isTrue_Compare1 (thn (ha pn s σ H _ I h) fun v s1 ⟨x,H1,I1,r1,q1⟩=>thn (hb pn s1 σ H1 _ I1 q1) fun u s2 ⟨y,H2,I2,r2,q2⟩ =>
  thn (ho pn s2 σ H2 x y v u _ I2 r1 r2 q2) fun c s3 ⟨z,H3,I3,r3,k,e,q3⟩=>?_) hm
 subst e
 cases r3
 exact wpAny_truthy_bool ⟨H3,I3,q3⟩
noncomputable def TruV (K:W.Frag) (x:V) (H:Hp) (k:Bool):Prop :=
 match x with
 | .non=>k = false
 | .bl b=>k = b
 | .int i=>k = (i != 0)
 | .str y=>y.length <= sizeLine /\ k = ((y.length:Int) != 0)
 | .byt y=>y.size <= sizeLine /\ k = ((y.size:Int) != 0)
 | .ref p=>(∃ xs,SqL K H p xs /\ k = !xs.isEmpty) \/ (∃ xs,SqT K H p xs /\ k = !xs.isEmpty) \/ ∃ kvs,H p = some (.dK kvs) /\ k = !kvs.isEmpty
 | _=>False
theorem U3 {κ:Type} {kvs:List (κ × V)} {vs:List (κ × Value)} (r:KV kvs vs):(!vs.isEmpty) = !kvs.isEmpty:=by
 cases r <;> rfl
theorem gy {xs:List V} {its:List Value} (r:Vals xs its):(!its.toArray.isEmpty) = !xs.isEmpty:=by
 cases r <;> simp
theorem ku:(sizeLine:Nat) < 2 ^ 63:=by rw [sizeLine_eq]; decide
theorem J6:TruR X (fun x H Q=>∃ k,TruV X.K x H k /\ Q k H):=by
 intro pn s σ H x v Q I rx h
 obtain ⟨k,e,q⟩:=h
 have hl:=ku
 have hs:sizeLine = 16777216:=sizeLine_eq
 cases x with
 | non =>
  cases rx
  have e':k = false:=e
  subst e'
  exact truthy_none ⟨H,I,q⟩
 | bl b =>
  cases rx
  have e':k = b:=e
  subst e'
  exact wpAny_truthy_bool ⟨H,I,q⟩
 | int i =>
  obtain ⟨t,rfl⟩:=rx
  have e':k = (i != 0):=e
  subst e'
  exact PySem.P.truthy_int ⟨H,I,q⟩
 | str y =>
  obtain ⟨t,rfl⟩:=rx
  obtain ⟨hy,e'⟩:y.length <= sizeLine /\ k = ((y.length:Int) != 0):=e
  subst e'
  exact PySem.P.truthy_str (by omega) ⟨H,I.tok _,q⟩
 | byt y =>
  obtain ⟨t,rfl⟩:=rx
  obtain ⟨hy,e'⟩:y.size <= sizeLine /\ k = ((y.size:Int) != 0):=e
  subst e'
  exact W.truthy_bytes (by omega) ⟨H,I.tok _,q⟩
 | ref p =>
  cases rx
  have e':(∃ xs,SqL X.K H p xs /\ k = !xs.isEmpty) \/ (∃ xs,SqT X.K H p xs /\ k = !xs.isEmpty) \/ ∃ kvs,H p = some (.dK kvs) /\ k = !kvs.isEmpty:=e
  rcases e' with ⟨xs,hx,e'⟩ | ⟨xs,hx,e'⟩ | ⟨kvs,hx,e'⟩
  ·subst e'
   obtain ⟨its,r,pl,hz⟩:=I.list hx
   have hlen:=r.length
   exact wpAny_truthy_list pl.isList (by simp only [List.size_toArray]; omega) ⟨H,I.tok _,by rw [gy r]; exact q⟩
  ·subst e'
   obtain ⟨its,r,pl,hz⟩:=I.tuple hx
   have hlen:=r.length
   exact truthy_tuple pl (by simp only [List.size_toArray]; omega) ⟨H,I.tok _,by rw [gy r]; exact q⟩
  ·subst e'
   obtain ⟨hz,hS,vs,r,m⟩:kvs.length <= sizeLine /\ (p == sysModules) = false /\ ∃ vs,KV kvs vs /\ s.heap.DictOf (yw X.prog X.w) p vs:=I.hok p _ hx
   have hlen:kvs.length = vs.length:=Paired.length r
   exact wpAny_truthy_dict hS m (by omega) ⟨H,I.tok _,by rw [U3 r]; exact q⟩
 | _=>exact (show False from e).elim
theorem P7 (ha:PE X a ta) (he:∀ whole,isTrue a X.env whole = (do let v <- whole; standAt a.pos; holding [v] (truthy v))) :
  PT X a (fun σ H Q=>ta σ H fun x H'=>∃ k,TruV X.K x H' k /\ Q k H'):=by
 intro pn s σ H Q I h
 exact isTrue_plain (thn (ha pn s σ H _ I h) fun v s1 ⟨x,H1,I1,r1,q1⟩=>J6 pn s1 σ H1 x v Q I1 r1 q1) (he _)
theorem Vr:OpR X (binaryOp .Add) (fun x y H Q=>∃ i j,x = .str i /\ y = .str j /\ i.length + j.length <= sizeLine /\ Q (.str (i ++ j)) H):=by
 intro pn s σ H x y v u Q I rx ry h
 obtain ⟨i,j,rfl,rfl,hz,q⟩:=h
 obtain ⟨t,rfl⟩:=rx
 obtain ⟨t',rfl⟩:=ry
 exact add_str (fun t' tk=>⟨.str (i ++ j),H,I.tok _,⟨_,rfl⟩,q⟩) hz
theorem bx {x:V} {us:List Value} (r:Vals [x] us):∃ u,us = [u] /\ RelV x u:=by
 cases r with
 | cons r1 r2=>cases r2; exact ⟨_,rfl,r1⟩
theorem Qf {x y:V} {us:List Value} (r:Vals [x,y] us):∃ u w',us = [u,w'] /\ RelV x u /\ RelV y w':=by
 cases r with
 | cons r1 r2 =>
  cases r2 with
  | cons r3 r4=>cases r4; exact ⟨_,_,rfl,r1,r3⟩
theorem Oy:u0 X (.builtin "abs") (fun xs H Q=>∃ i,xs = [.int i] /\ Q (.int (if i < 0 then -i else i)) H):=by
 intro pn s σ H xs us Q I r h
 obtain ⟨i,rfl,q⟩:=h
 obtain ⟨u,rfl,t,rfl⟩:=bx r
 exact call_abs_int fun u tk=>⟨.int (if i < 0 then -i else i),H,I.tok _,⟨_,rfl⟩,q⟩
end
structure ObjM (h:Heap) (x dx C:Addr) (mA:Str->Option Value):Prop where
 obj:h.get? x = some (W.instObj C dx)
 ns:h.Ns1 dx mA
 ne:dx ≠ x
theorem S3 {h:Heap} {dx:Addr} {mA:Str->Option Value} (n:h.Ns1 dx mA):∃ od,h.get? dx = some od /\ ∀ name,W.lookIn name od = some (mA name):=by
 obtain ⟨o,es,ep,ho,hd,hk,_,hm⟩:=n
 refine ⟨o,ho,fun name=>?_⟩
 have e:=hm name
 unfold nsFind findBy at e
 rw [<- Array.find?_toList] at e
 unfold W.lookIn
 rw [hd]
 dsimp only
 split
 ·rename_i y q
  rw [q] at e
  exact congrArg some e
 ·rename_i q
  rw [q] at e
  have a:es.toList.any (·.refKey) = false:=by
   rw [List.any_eq_false]
   intro y hy
   obtain ⟨z,t,hkey⟩:=hk y (Array.mem_toList_iff.mp hy)
   simp [DictEntry.refKey,hkey]
  have a':¬ es.toList.any (·.refKey) = true:=by rw [a]; exact Bool.false_ne_true
  rw [if_neg a']
  exact congrArg some e
theorem ObjM.look {h:Heap} {x dx C:Addr} {mA:Str->Option Value} (I:ObjM h x dx C mA):∃ od,W.InstAt h x (W.instObj C dx) C (some od) /\ ∀ name,W.lookIn name od = some (mA name) :=
 let ⟨od,ho,hl⟩:=S3 I.ns
 ⟨od,⟨I.obj,rfl,rfl,ho⟩,hl⟩
section
variable {prog:Program} {w:World} {A:Around} {E:Value->Shared->Prop} {s:Shared} {K:W.Frag} {x dx C f:Addr} {mA:Str->Option Value} {name:Str} {v:Value}
theorem K8 {expr:Bool} {Q:Value->Shared->Prop} (X:K.In s.heap) (I:ObjM s.heap x dx C mA) (hg:W.plainGet K C name = true) (hh:W.hasDictIn K C = true)
  (ha:W.findIn K (.ref C) name = some none) (hv:mA name = some v) (hv':W.handedIn v = true) (h:Q v { s with toks:=s.toks + 1 }) :
  wpAny (model prog w) A (getAttr (.ref x) name expr) Q E s:=by
 obtain ⟨od,J,hl⟩:=I.look
 exact W.get_value X J (W.plainGet_of hg).1 (W.findObj_own hh ha rfl (by rw [hl,hv])) hv' h
theorem O8 {pl:Sem Bool} {Q:Value × List Value->Shared->Prop} (X:K.In s.heap) (I:ObjM s.heap x dx C mA) (hg:W.plainGet K C name = true)
  (hf:W.findIn K (.ref C) name = some (some (.ref f))) (ht:W.isFn K (.ref f) = true) (hv:mA name = none) (h:Q (.ref f,[.ref x]) s) :
  wpAny (model prog w) A (getMethod (.ref x) name pl) Q E s:=by
 obtain ⟨od,J,hl⟩:=I.look
 exact W.method_fn X J (W.plainGet_of hg).1 (W.plainGet_of hg).2 hf (beq_iff_eq.mp ht) (by show (W.lookIn name od).map (·.isSome) = some false; rw [hl,hv]; rfl) h
theorem Mg {ns:List Str} {Q:Unit->Shared->Prop} (X:K.In s.heap) (I:ObjM s.heap x dx C mA)
  (hs:W.findIn K (.ref C) "__setattr__" = some (some (.builtin "object.__setattr__"))) (hp:W.plainOver K C = true) (ht:W.takerIn K C name = some none) (hh:W.hasDictIn K C = true)
  (hw:PySem.Within mA ns) (hsz:ns.length <= sizeLine)
  (h:∀ h',ObjM h' x dx C (fun y=>if y = name then some v else mA y)->Heap.SameBut dx s.heap h'->Q () { s with heap:=h',toks:=s.toks + 2 }) :
  wpAny (model prog w) A (setAttr (.ref x) name v) Q E s:=by
 obtain ⟨od,J,hl⟩:=I.look
 refine W.set_plain X J hs (W.osa_open (s:={ s with toks:=s.toks + 1 }) (r:=none) X J hp ht fun b=>?_)
 obtain ⟨cd,hc,hd'⟩:=W.any_some hh
 have hx:s.heap.get? x = some ⟨.ref C,some dx,.plain,#[]⟩:=I.obj
 refine wpAny_bind (wpAny_pure (wpAny_bind (wpAny_bind (wpAny_loadPart hx (wpAny_bind (W.Looks.here (s:={ s with toks:=s.toks + 1 }) (W.looks_clsIn X hc) ?_))))))
 rw [hd']
 refine wpAny_pure (a:=some dx) (wpAny_bind (wpAny_pure (wpAny_bind ?_)))
 refine wpAny_nsSet1 (s:={ s with toks:=s.toks + 1 }) I.ns fun h' hn2 hs2=>?_
 obtain ⟨oD,esD,epD,hoD,hdD,hcD⟩:=hn2.count (PySem.Within.cons name v hw)
 refine wpAny_bind (wpAny_lookBehind hoD (by rw [hdD]; exact pastItsLine_dict (Nat.le_trans hcD (by rw [List.length_cons]; omega))) ?_)
 exact wpAny_pure (h _ ⟨(hs2.2 _ (Ne.symm I.ne)).trans I.obj,hn2,I.ne⟩ hs2)
theorem Pi {R:Result->Shared->Prop} {vs:List Value} {kw:List (Str × Value)} (X:K.In s.heap) (hm:W.makesIn K C = true)
  (hi:W.findIn K (.ref C) "__init__" = some (some (.ref f))) (hf:W.typeIn K (.ref f) = some (.type "function"))
  (h:codeAny (model prog w) (A.under (.builtin "type.__call__" ⟨.ref C :: vs,kw⟩)) (.call (.ref f) ⟨.ref (s.heap.objs.size + 1) :: vs,kw⟩) (W.InitBack (s.heap.objs.size + 1) R)
   { s with heap:=(s.heap.push W.emptyDict).push (W.instObj C s.heap.objs.size) }) :
  codeAny (model prog w) A (.call (.ref C) ⟨vs,kw⟩) R s:=by
 obtain ⟨hh,g,d,t,os⟩:=s
 exact W.make_core (W.makes_of X hm) (W.looks_findIn X hi) (fun self=>W.bind_fn X self hf) (.inl rfl) h
end
noncomputable def putF (f:Str) (v:V):List (Str × V)->List (Str × V)
 | []=>[(f,v)]
 | (g,x) :: r=>if g = f then (g,v) :: r else (g,x) :: putF f v r
theorem ko (f g:Str) (v:V):∀ fs:List (Str × V),(putF f v fs).lookup g = if g = f then some v else fs.lookup g
 | []=>by
  show List.lookup g [(f,v)] = _
  by_cases h:g = f
  ·have hb:(g == f) = true:=beq_iff_eq.mpr h
   simp only [List.lookup,hb,if_pos h]
  ·have hb:(g == f) = false:=beq_eq_false_iff_ne.mpr h
   simp only [List.lookup,hb,if_neg h]
 | (k,x) :: r=>by
  have ih:=ko f g v r
  rw [show putF f v ((k,x) :: r) = (if k = f then (k,v) :: r else (k,x) :: putF f v r) from rfl]
  by_cases hk:k = f
  ·rw [if_pos hk]
   by_cases h:g = k
   ·have hb:(g == k) = true:=beq_iff_eq.mpr h
    simp only [List.lookup,hb,if_pos (h.trans hk)]
   ·have hb:(g == k) = false:=beq_eq_false_iff_ne.mpr h
    simp only [List.lookup,hb,if_neg (fun e:g = f=>h (e.trans hk.symm))]
  ·rw [if_neg hk]
   by_cases h:g = k
   ·have hb:(g == k) = true:=beq_iff_eq.mpr h
    simp only [List.lookup,hb,if_neg (fun e:g = f=>hk (h.symm.trans e))]
   ·have hb:(g == k) = false:=beq_eq_false_iff_ne.mpr h
    simp only [List.lookup,hb]
    exact ih
theorem j6 (f:Str) (v:V):∀ fs:List (Str × V),f ∈ (putF f v fs).map (·.1) /\ ∀ g,g ∈ fs.map (·.1)->g ∈ (putF f v fs).map (·.1)
 | []=>⟨by simp [putF],fun g h=>by simp at h⟩
 | (k,x) :: r=>by
  obtain ⟨i1,i2⟩:=j6 f v r
  rw [show putF f v ((k,x) :: r) = (if k = f then (k,v) :: r else (k,x) :: putF f v r) from rfl]
  by_cases hk:k = f
  ·rw [if_pos hk]
   subst hk
   exact ⟨by simp,fun g h=>by simpa using h⟩
  ·rw [if_neg hk]
   refine ⟨?_,fun g h=>?_⟩
   ·rw [List.map_cons]
    exact List.mem_cons_of_mem _ i1
   ·rw [List.map_cons] at h ⊢
    rcases List.mem_cons.mp h with e | e
    ·exact List.mem_cons.mpr (.inl e)
    ·exact List.mem_cons_of_mem _ (i2 g e)
theorem j3 (f:Str) (v:V):∀ fs:List (Str × V),(putF f v fs).length <= fs.length + 1
 | []=>by simp [putF]
 | (k,x) :: r=>by
  have ih:=j3 f v r
  rw [show putF f v ((k,x) :: r) = (if k = f then (k,v) :: r else (k,x) :: putF f v r) from rfl]
  by_cases hk:k = f
  ·rw [if_pos hk,List.length_cons,List.length_cons]; omega
  ·rw [if_neg hk,List.length_cons,List.length_cons]; omega
theorem RelO.some_of {v:V} {o:Option Value} (r:RelO (some v) o):∃ u,o = some u /\ RelV v u:=by
 cases o with
 | none=>exact (show False from r).elim
 | some u=>exact ⟨u,rfl,r⟩
theorem RelO.none_of {o:Option Value} (r:RelO none o):o = none:=by
 cases o with
 | none=>rfl
 | some u=>exact (show False from r).elim
theorem Sn {v:V} {u:Value} (r:RelV v u):W.handedIn u = true:=by
 cases v with
 | non=>cases (show u = Value.none from r); rfl
 | bl b=>cases (show u = Value.bool b from r); rfl
 | int i=>obtain ⟨t,e⟩:=(show ∃ t,u = Value.int i t from r); cases e; rfl
 | str x=>obtain ⟨t,e⟩:=(show ∃ t,u = Value.str x t from r); cases e; rfl
 | byt b=>obtain ⟨t,e⟩:=(show ∃ t,u = Value.bytes b t from r); cases e; rfl
 | flt b=>obtain ⟨t,e⟩:=(show ∃ t,u = Value.float b t from r); cases e; rfl
 | ref a=>cases (show u = Value.ref a from r); rfl
 | ty n=>cases (show u = Value.type n from r); rfl
section
variable {P:Program} {w:World} {H H':Hp} {h h':Heap} {a C dx:Addr} {fs fs':List (Str × V)}
theorem cx (hok:HOk P w H h) (e:H a = some (.ins C dx fs)):∃ mA,ObjM h a dx C mA /\ (∀ f,RelO (fs.lookup f) (mA f)) /\ PySem.Within mA (fs.map (·.1)) /\ fs.length <= 1000 /\ H dx = some (.own a):=by
 obtain ⟨d,z,ne,ob,mA,n,r,q⟩:=(show w6 P w H h a (.ins C dx fs) from hok a _ e)
 exact ⟨mA,⟨ob,n,ne⟩,r,q,z,d⟩
end
structure Cls (K:W.Frag) (C:Addr):Prop where
 pg:W.plainGet K C Str.empty = true
 hd:W.hasDictIn K C = true
 po:W.plainOver K C = true
 sa:W.findIn K (.ref C) "__setattr__" = some (some (.builtin "object.__setattr__"))
theorem Cls.get {K:W.Frag} {C:Addr} (c:Cls K C) (f:Str):W.plainGet K C f = true:=c.pg
noncomputable def se (K:W.Frag) (C:Addr) (f:Str):Prop:=W.findIn K (.ref C) f = some none
theorem se.taker {K:W.Frag} {C:Addr} {f:Str} (n:se K C f):W.takerIn K C f = some none:=by
 unfold W.takerIn
 rw [show W.findIn K (.ref C) f = some none from n]
 rfl
structure Con (K:W.Frag) (C:Addr) (f:Str) (v:V) (u:Value):Prop where
 at_:W.findIn K (.ref C) f = some (some u)
 rel:RelV v u
 get:W.specialIn K u "__get__" = some none
 cp:W.copiedNames.contains f = false
structure Meth (K:W.Frag) (C:Addr) (m:Str) (f:Addr):Prop where
 at_:W.findIn K (.ref C) m = some (some (.ref f))
 fn:W.isFn K (.ref f) = true
 kp:W.keepIn K (.ref f) = true
section
variable {X:Cx} {pn:List (Addr × Obj)} {σ:St} {H:Hp} {s:Shared} {a C dx:Addr} {fs:List (Str × V)} {f:Str} {v:V} {A:Around} {E:Value->Shared->Prop}
theorem U4 {b:Bool} {Q:Value->Shared->Prop} (I:Inv X pn σ H s) (e:H a = some (.ins C dx fs)) (c:Cls X.K C) (n:se X.K C f) (l:fs.lookup f = some v)
  (h:∀ u s',Inv X pn σ H s'->RelV v u->Q u s'):wpAny (model X.prog X.w) A (getAttr (.ref a) f b) Q E s:=by
 obtain ⟨mA,O,r,_,_,_⟩:=cx I.hok e
 obtain ⟨u,hu,ru⟩:=RelO.some_of (v:=v) (o:=mA f) (by rw [<- l]; exact r f)
 exact K8 I.kIn O (c.get f) c.hd n hu (Sn ru) (h u _ (I.tok _) ru)
theorem fc {m:Str} {g:Addr} {pl:Sem Bool} {Q:Value × List Value->Shared->Prop} (I:Inv X pn σ H s) (e:H a = some (.ins C dx fs)) (c:Cls X.K C) (k:Meth X.K C m g) (l:fs.lookup m = none)
  (h:Q (.ref g,[.ref a]) s):wpAny (model X.prog X.w) A (getMethod (.ref a) m pl) Q E s:=by
 obtain ⟨mA,O,r,_,_,_⟩:=cx I.hok e
 have hn:mA m = none:=RelO.none_of (by rw [<- l]; exact r m)
 exact O8 I.kIn O (c.get m) k.at_ k.fn hn h
theorem Vo {y:V} {u:Value} {Q:Unit->Shared->Prop} (I:Inv X pn σ H s) (e:H a = some (.ins C dx fs)) (c:Cls X.K C) (n:se X.K C f) (hl:fs.length < 1000) (ry:RelV y u)
  (h:∀ s',Inv X pn σ (upd H a (.ins C dx (putF f y fs))) s'->Q () s'):wpAny (model X.prog X.w) A (setAttr (.ref a) f u) Q E s:=by
 obtain ⟨mA,O,r,wi,_,ho⟩:=cx I.hok e
 have hz:(fs.map (·.1)).length <= sizeLine:=by rw [List.length_map,sizeLine_eq]; omega
 refine Mg I.kIn O c.sa c.po n.taker c.hd wi hz fun h' O' sb=>h _ ?_
 have hd:∃ o,h'.get? dx = some o:=let ⟨o,_,_,e',_⟩:=O'.ns; ⟨o,e'⟩
 refine I.write (x:=a) (e:=dx) (by rw [e]; exact True.intro) (.inr ho) (fun b q hb z=>(sb.2 b hb).trans z) hd ?_
 refine ⟨by rw [zj O.ne]; exact ho,?_,O.ne,O'.obj,_,O'.ns,fun g=>?_,fun g hg=>?_⟩
 ·have:=j3 f y fs; omega
 ·show RelO ((putF f y fs).lookup g) (if g = f then some u else mA g)
  rw [ko]
  by_cases q:g = f
  ·rw [if_pos q,if_pos q]; exact ry
  ·rw [if_neg q,if_neg q]; exact r g
 ·by_cases q:g = f
  ·rw [q]; exact (j6 f y fs).1
  ·refine (j6 f y fs).2 g (wi g fun z=>hg ?_)
   show (if g = f then some u else mA g) = none
   rw [if_neg q]; exact z
theorem Inv.made (I:Inv X pn σ H s):Inv X pn σ (upd (upd H s.heap.objs.size (.own (s.heap.objs.size + 1))) (s.heap.objs.size + 1) (.ins C s.heap.objs.size []))
  { s with heap:=(s.heap.push W.emptyDict).push (W.instObj C s.heap.objs.size) }:=by
 have e1:(s.heap.push W.emptyDict).get? s.heap.objs.size = some W.emptyDict:=Heap.get?_push_size s.heap rfl
 have e2:((s.heap.push W.emptyDict).push (W.instObj C s.heap.objs.size)).get? (s.heap.objs.size + 1) = some (W.instObj C s.heap.objs.size):=by
  have:=Heap.get?_push_size (s.heap.push W.emptyDict) (o:=W.instObj C s.heap.objs.size) rfl
  rwa [Heap.size_push] at this
 have e3:(s.heap.push W.emptyDict).Ns s.heap.objs.size (fun _=>none):=⟨W.emptyDict,#[],_,e1,rfl,(fun e he=>absurd he (by simp)),fun _=>rfl⟩
 have I1:=I.laid (a:=s.heap.objs.size) (o:=.own (s.heap.objs.size + 1)) (h':=s.heap.push W.emptyDict) (t':=s.toks) (fun b u q=>Heap.get?_push_of_some _ q) (Nat.le_refl _) ⟨_,e1⟩
 refine I1.laid (a:=s.heap.objs.size + 1) (o:=.ins C s.heap.objs.size []) (t':=s.toks) (fun b u q=>Heap.get?_push_of_some _ q) (Nat.le_of_eq (Heap.size_push _ _)) ?_
 have ne:s.heap.objs.size ≠ s.heap.objs.size + 1:=Nat.ne_of_lt (Nat.lt_succ_self _)
 refine ⟨by rw [zj ne,zk],Nat.zero_le _,ne,e2,fun _=>none,(Heap.Ns1.of_empty e3).at fun o q=>Heap.get?_push_of_some _ q,fun _=>True.intro,fun y hy=>absurd rfl hy⟩
theorem Ks {prog:Program} {w:World} {env:Env} {e:Expr} {f:Str} {pos:Pos} {s:Shared} {Q:Value->Shared->Prop} (hb:attributeBase e f env (eval e env) = eval e env)
  (h:wpAny (model prog w) A (eval e env) (fun o s₁=>wpAny (model prog w) A (getAttr o f true) Q E s₁) E s):wpAny (model prog w) A (eval (.Attribute e f pos) env) Q E s :=
 Attribute_any_ h (by rw [arm_eval_Attribute,hb])
end
noncomputable def tFld (K:W.Frag) (ta:TE) (f:Str):TE:=fun σ H Q=>ta σ H fun x H1=>∃ a C dx fs v,x = .ref a /\ H1 a = some (.ins C dx fs) /\ Cls K C /\ se K C f /\ fs.lookup f = some v /\ Q v H1
noncomputable def sFld (K:W.Frag) (ta tv:TE) (f:Str):TS:=fun D σ H=>tv σ H fun y H1=>ta σ H1 fun x H2=>∃ a C dx fs,x = .ref a /\ H2 a = some (.ins C dx fs) /\ Cls K C /\ se K C f /\ fs.length < 1000 /\
 D.nx σ (upd H2 a (.ins C dx (putF f y fs)))
section
variable {X:Cx} {o e value:Expr} {f:Str} {pos pos' tpos:Pos} {ta tv:TE}
theorem Ng (he:PE X e ta) (hb:attributeBase e f X.env (eval e X.env) = eval e X.env):PE X (.Attribute e f pos) (tFld X.K ta f):=by
 intro pn s σ H Q I h
 refine Ks hb (thn (he pn s σ H _ I h) fun u s1 ⟨x,H1,I1,rx,a,C,dx,fs,v,ex,ea,c,n,l,q⟩=>?_)
 subst ex
 obtain rfl:u = Value.ref a:=rx
 exact U4 I1 ea c n l fun u' s2 I2 ru=>⟨v,H1,I2,ru,q⟩
theorem Tf (ha:PE X o ta) (hv:PE X value tv) (hs:swapsWith value (some (.Attribute o f pos')) pos.line X.env = pure false):PS X (.Assign [.Attribute o f pos'] value pos) (sFld X.K ta tv f):=by
 intro pn s σ H D I h
 refine plainObj_wpAny_Assign_Attribute (thn (hv pn s σ H _ I h) fun u s1 ⟨y,H1,I1,ry,q⟩=>thn (ha pn s1 σ H1 _ I1 q) fun ov s2 ⟨x,H2,I2,rx,a,C,dx,fs,ex,ea,c,n,l,q2⟩=>?_) hs
 subst ex
 obtain rfl:ov = Value.ref a:=rx
 exact Vo I2 ea c n l ry fun s3 I3=>⟨σ,_,I3,q2⟩
end
section
variable {X:Cx} {pn:List (Addr × Obj)} {σ:St} {H:Hp} {s:Shared} {A:Around} {E:Value->Shared->Prop} {Q:Value->Shared->Prop} {c:Value} {b:Bool}
inductive TyOf (K:W.Frag) (H:Hp):V->Value->Prop where
 | non:TyOf K H .non (.type "NoneType")
 | bl (x:Bool):TyOf K H (.bl x) (.type "bool")
 | int (i:Int):TyOf K H (.int i) (.type "int")
 | str (x:Str):TyOf K H (.str x) (.type "str")
 | flt (x:UInt64):TyOf K H (.flt x) (.type "float")
 | lst {a:Addr} {xs:List V} (e:H a = some (.lst xs)):TyOf K H (.ref a) (.type "list")
 | frz {a:Addr} {o:Obj} {xs:List V} (e:H a = some (.frz o (.lst xs))):TyOf K H (.ref a) (.type "list")
 | tup {a:Addr} {xs:List V} (e:H a = some (.tup xs)):TyOf K H (.ref a) (.type "tuple")
 | dK {a:Addr} {kvs:List (Key × V)} (e:H a = some (.dK kvs)):TyOf K H (.ref a) (.type "dict")
 | dT {a:Addr} {kvs:List (List Key × V)} (e:H a = some (.dT kvs)):TyOf K H (.ref a) (.type "dict")
 | ins {a C dx:Addr} {fs:List (Str × V)} (e:H a = some (.ins C dx fs)) (cl:Cls K C) (ha:W.findIn K (.ref C) "__class__" = some (some (.builtin "object.__class__")))
   (hn:W.specialIn K (.builtin "object.__class__") "__get__" = some (some (.builtin "getset_descriptor.__get__"))) (htk:W.takesIn K (.builtin "object.__class__") = some true)
   (hm:W.mroIn K C (.type "object") = some true):TyOf K H (.ref a) (.ref C)
theorem wk {x:V} {u t:Value} (I:Inv X pn σ H s) (rx:RelV x u) (ty:TyOf X.K H x t) (e:W.kitOne X.K t c = some b) (h:∀ tk,Q (.bool b) { s with toks:=tk }) :
  wpAny (model X.prog X.w) A (call (.builtin "isinstance") [u,c]) Q E s:=by
 cases ty with
 | non=>cases (show u = Value.none from rx); exact W.kia_one W.kitx_none I.kIn True.intro e (fun z=>nomatch z) h
 | bl y=>cases (show u = Value.bool y from rx); exact W.kia_one W.kitx_bool I.kIn True.intro e (fun z=>nomatch z) h
 | int i=>obtain ⟨t,q⟩:=(show ∃ t,u = Value.int i t from rx); cases q; exact W.kia_one W.kitx_int I.kIn True.intro e (fun z=>nomatch z) h
 | str y=>obtain ⟨t,q⟩:=(show ∃ t,u = Value.str y t from rx); cases q; exact W.kia_one W.kitx_str I.kIn True.intro e (fun z=>nomatch z) h
 | flt y=>obtain ⟨t,q⟩:=(show ∃ t,u = Value.float y t from rx); cases q; exact W.kia_one W.kitx_float I.kIn True.intro e (fun z=>nomatch z) h
 | @lst a xs ea =>
  cases (show u = Value.ref a from rx)
  obtain ⟨_,_,n,_,h1⟩:=(show w6 X.prog X.w H s.heap a (.lst xs) from I.hok a _ ea)
  exact W.kia_one W.kitx_list I.kIn ⟨_,h1,rfl⟩ e (fun z=>nomatch z) h
 | @frz a ob xs ea =>
  cases (show u = Value.ref a from rx)
  obtain ⟨_,_,_,n,_,h1⟩:=(show w6 X.prog X.w H s.heap a (.frz ob (.lst xs)) from I.hok a _ ea)
  exact W.kia_one W.kitx_list I.kIn ⟨_,h1,rfl⟩ e (fun z=>nomatch z) h
 | @tup a xs ea =>
  cases (show u = Value.ref a from rx)
  obtain ⟨_,_,_,p⟩:=(show w6 X.prog X.w H s.heap a (.tup xs) from I.hok a _ ea)
  obtain ⟨o,h1,h2,_⟩:=p.1
  exact W.kia_one W.kitx_tuple I.kIn ⟨o,h1,h2⟩ e (fun z=>nomatch z) h
 | @dK a kvs ea =>
  cases (show u = Value.ref a from rx)
  obtain ⟨_,_,vs,_,p⟩:=(show w6 X.prog X.w H s.heap a (.dK kvs) from I.hok a _ ea)
  obtain ⟨o,es,ep,h1,h2,_⟩:=p
  exact W.kia_one W.kitx_dict I.kIn ⟨o,h1,h2.1⟩ e (fun z=>nomatch z) h
 | @dT a kvs ea =>
  cases (show u = Value.ref a from rx)
  obtain ⟨_,_,xs,_,o,es,ep,h1,h2,_⟩:=(show w6 X.prog X.w H s.heap a (.dT kvs) from I.hok a _ ea)
  exact W.kia_one W.kitx_dict I.kIn ⟨o,h1,h2.1⟩ e (fun z=>nomatch z) h
 | @ins a C dx fs ea cl ha hn htk hm =>
  cases (show u = Value.ref a from rx)
  obtain ⟨mA,O,_⟩:=cx I.hok ea
  obtain ⟨od,J,_⟩:=O.look
  exact W.kia_one (W.kitx_own (cl.get _) cl.hd ha hn htk hm) I.kIn J e (fun z=>nomatch z) h
end
structure Room (k:Nat) (A:Around):Prop where
 hd:A.handled = none
 dp:A.depth + 3 * k + 5 < recursionLimit
 un:A.units + 16 * k + 200 < cLine
theorem Room.mono {j k:Nat} {A:Around} (r:Room k A) (h:j <= k):Room j A:=⟨r.hd,by have:=r.dp; omega,by have:=r.un; omega⟩
theorem Room.deeper {k:Nat} {A:Around} (r:Room (k + 1) A) (env:Env):Room k (A.deeper env) :=
 ⟨r.hd,by have:=r.dp; show A.depth + 1 + 3 * k + 5 < _; omega,by have:=r.un; show A.units + 3 + 16 * k + 200 < _; omega⟩
theorem Vv {A:Around} {C:Addr} {us:List Value} {kw:List (Str × Value)}:(A.under (.builtin "type.__call__" ⟨.ref C :: us,kw⟩)).depth = A.depth + 1:=by
 first | rfl | simp [Around.under,Code.weight,Code.isCreation,Code.isGuard,Code.isCaller,Code.frames,Code.isFrame,guardIds]
theorem Vu {A:Around} {C:Addr} {us:List Value} {kw:List (Str × Value)}:(A.under (.builtin "type.__call__" ⟨.ref C :: us,kw⟩)).units = A.units + 1:=by
 first | rfl | simp [Around.under,Code.cUnits,Code.frames,Code.isFrame]
theorem Room.make {k:Nat} {A:Around} (r:Room (k + 1) A) (C:Addr) (us:List Value) (kw:List (Str × Value)):Room k (A.under (.builtin "type.__call__" ⟨.ref C :: us,kw⟩)) :=
 ⟨r.hd,by have:=r.dp; rw [Vv]; omega,by have:=r.un; rw [Vu]; omega⟩
theorem Room.depth {k:Nat} {A:Around} (r:Room k A):A.depth < recursionLimit:=by have:=r.dp; omega
theorem Room.units {k:Nat} {A:Around} (r:Room k A):A.units + 64 < cLine:=by have:=r.un; omega
noncomputable def tNil:TA:=fun _ H Q=>Q [] H
noncomputable def Jk (ta:TE) (tr:TA):TA:=fun σ H Q=>ta σ H fun x H1=>tr σ H1 fun xs H2=>Q (x :: xs) H2
section
variable {X:Cx} {e:Expr} {es:List Expr} {te:TE} {t:TA} {pos:Pos}
theorem t0:PA X [] tNil:=fun _ _ _ _ H Q I h=>Calls.spliced_nil ⟨[],H,I,.nil,h⟩
theorem xi (ha:PE X e te) (hr:PA X es t) (hs:starEach (e :: es) X.env = (false,eval e X.env) :: starEach es X.env:=by rfl):PA X (e :: es) (Jk te t):=by
 intro pos pn s σ H Q I h
 rw [hs]
 show wpAny _ _ (spliced ((false,eval e X.env) :: backTo pos (starEach es X.env))) _ _ s
 refine Calls.spliced_cons (thn (ha pn s σ H _ I h) fun u s1 ⟨x,H1,I1,r1,q1⟩=>?_)
 exact thn (hr pos pn s1 σ H1 _ I1 q1) fun us s2 ⟨xs,H2,I2,r2,q2⟩=>⟨x :: xs,H2,I2,.cons r1 r2,q2⟩
noncomputable def tTup (t:TA):TE:=fun σ H Q=>t σ H fun xs H1=>xs.length <= sizeLine /\ ∀ p,H1 p = none->Q (.ref p) (upd H1 p (.tup xs))
noncomputable def tLst (t:TA):TE:=fun σ H Q=>t σ H fun xs H1=>xs.length <= sizeLine /\ ∀ p,H1 p = none->Q (.ref p) (upd H1 p (.lst xs))
theorem Zc {x1} (h:PA X es t):PE X (.Tuple es x1 pos) (tTup t):=by
 intro pn s σ H Q I hq
 refine wpAny_Tuple_spliced (thn (h pos pn s σ H _ I hq) fun us s1 ⟨xs,H1,I1,r,z,q⟩=>⟨by rw [<- r.length]; exact z,?_⟩)
 have hf:H1 s1.heap.objs.size = none:=I1.hok.fresh (Nat.le_refl _)
 refine ⟨.ref s1.heap.objs.size,upd H1 s1.heap.objs.size (.tup xs),I1.laid (t':=s1.toks) (fun b u e=>Heap.get?_push_of_some _ e) (Nat.le_refl _) ?_,rfl,q _ hf⟩
 exact ⟨z,us,r,⟨_,Heap.get?_push_size _ rfl,rfl,_,rfl⟩,_,Heap.get?_push_size _ rfl,rfl⟩
theorem Hw (h:PA X es t):PE X (.List es pos) (tLst t):=by
 intro pn s σ H Q I hq
 refine wpAny_List_spliced (thn (h pos pn s σ H _ I hq) fun us s1 ⟨xs,H1,I1,r,z,q⟩=>⟨by rw [<- r.length]; exact z,?_⟩)
 have hf:H1 s1.heap.objs.size = none:=I1.hok.fresh (Nat.le_refl _)
 refine ⟨.ref s1.heap.objs.size,upd H1 s1.heap.objs.size (.lst xs),I1.laid (t':=s1.toks) (fun b u e=>Heap.get?_push_of_some _ e) (Nat.le_refl _) ?_,rfl,q _ hf⟩
 exact ⟨z,us,0,r,Heap.get?_push_size _ rfl⟩
end
noncomputable abbrev Sp:=List V->Hp->VK->XK->Prop
noncomputable abbrev CXT:=List Env->Hp->Shared->XK->Value->Shared->Prop
structure Env0 (P:Program) (w:World) (K:W.Frag) (mg:Str->Option Value) (base:Heap) (A:Around) (outer:List Env) (s:Shared) (H:Hp):Prop where
 frames:A.frames = some outer
 mod:Mod K mg base
 bs:∀ b o,base.get? b = some o->s.heap.get? b = some o /\ H b = none
 bsz:base.objs.size <= s.heap.objs.size
 funs:s.heap.FunFrames base outer
 frf:∀ b ∈ frs outer,H b = none
 hok:HOk P w H s.heap
 bare:AllBare s.gens
noncomputable def CE (outer:List Env) (P:Program) (w:World) (H:Hp) (s:Shared) (Q:VK) (u:Value) (s':Shared):Prop :=
 ∃ v H',s'.os = s.os /\ AllBare s'.gens /\ Un (frs outer) [] H H' s.heap s'.heap /\ HOk P w H' s'.heap /\ RelV v u /\ Q v H'
noncomputable def CR (CX:CXT) (outer:List Env) (P:Program) (w:World) (H:Hp) (s:Shared) (Q:VK) (E:XK) (r:Result) (s':Shared):Prop :=
 match r with
 | .ok (.ret u)=>CE outer P w H s Q u s'
 | .ok _=>False
 | .error e=>CX outer H s E e s'
structure FnOk (P:Program) (w:World) (K:W.Frag) (mg:Str->Option Value) (base:Heap) (CX:CXT) (k:Nat) (f:Addr) (fd:FuncData) (ps:List Str) (sp:Sp):Prop where
 len:∀ vs H Q E,sp vs H Q E->vs.length = ps.length
 run:∀ (A:Around) (outer:List Env) (s:Shared) (H:Hp) (args:Args) (us:List Value) (vs:List V) (Q:VK) (E:XK),Room k A->Env0 P w K mg base A outer s H->BindsTo s fd args (ps.zip us)->Vals vs us->sp vs H Q E ->
  codeAny (model P w) A (.call (.ref f) args) (CR CX outer P w H s Q E) s
theorem Env0.make {P:Program} {w:World} {K:W.Frag} {mg:Str->Option Value} {base:Heap} {A:Around} {outer:List Env} {s:Shared} {H:Hp} (e:Env0 P w K mg base A outer s H) (C:Addr) (us:List Value) (kw:List (Str × Value)) :
  Env0 P w K mg base (A.under (.builtin "type.__call__" ⟨.ref C :: us,kw⟩)) outer s H:=⟨by first | exact e.frames | (simpa [Around.under,Code.envs,Code.isFrame,pushEnvs] using e.frames),e.mod,e.bs,e.bsz,e.funs,e.frf,e.hok,e.bare⟩
section
variable {X:Cx} {pn:List (Addr × Obj)} {σ:St} {H:Hp} {s s':Shared}
theorem Inv.env0 (I:Inv X pn σ H s):Env0 X.prog X.w X.K X.mg X.base X.A X.stack s H :=
 ⟨I.ok.frames,I.ok.mod,I.bs,Nat.le_trans I.ok.bsz I.sz,I.stack,I.stkFree,I.hok,I.bare⟩
theorem Inv.after {Q:VK} {u:Value} (I:Inv X pn σ H s) (h:CE X.stack X.prog X.w H s Q u s'):EP X pn σ Q u s':=by
 obtain ⟨v,H',os,bare,un,hok,r,q⟩:=h
 obtain ⟨hh,g,d,t,os'⟩:=s'
 obtain rfl:os' = s.os:=os
 exact ⟨v,H',I.call (h':=hh) (g':=g) (d':=d) (t':=t) (ch:=[]) un hok bare (fun b z=>absurd z (by simp)),r,q⟩
end
noncomputable def Jl (sp:Sp) (dvs:List V) (E:XK) (t:TA):TE:=fun σ H Q=>t σ H fun vs H1=>sp (vs ++ dvs) H1 Q E
noncomputable def Jd (C:Addr) (m:Str) (sp:Sp) (dvs:List V) (E:XK) (ta:TE) (t:TA):TE:=fun σ H Q=>ta σ H fun x H1=>∃ a dx fs,x = .ref a /\ H1 a = some (.ins C dx fs) /\ fs.lookup m = none /\
 t σ H1 fun vs H2=>sp (x :: (vs ++ dvs)) H2 Q E
noncomputable def Ee (C:Addr) (sp:Sp) (dvs:List V) (E:XK) (t:TA):TE:=fun σ H Q=>t σ H fun vs H1=>∀ x dx,H1 x = none->H1 dx = none->dx ≠ x ->
 sp (.ref x :: (vs ++ dvs)) (upd (upd H1 dx (.own x)) x (.ins C dx [])) (fun v H2=>v = .non /\ Q (.ref x) H2) E
noncomputable def vf (K:W.Frag) (fd:FuncData) (ps:List Str) (ds:List Value):Prop :=
 ∀ (s:Shared) (us:List Value),K.In s.heap->(us ++ ds).length = ps.length->BindsTo s fd ⟨us,[]⟩ (ps.zip (us ++ ds))
theorem vf.all {K:W.Frag} {fd:FuncData} {ps:List Str} (h:∀ us:List Value,us.length = ps.length->bindArgs fd ⟨us,[]⟩ = pure (ps.zip us)):vf K fd ps []:=fun s us _ hl=>by
 rw [List.append_nil] at hl ⊢
 exact .of_eq (h us hl)
noncomputable def jt (CX:CXT) (X:Cx) (E:XK):Prop:=∀ (pn:List (Addr × Obj)) (σ:St) (H:Hp) (s:Shared) (e:Value) (s':Shared),Inv X pn σ H s->CX X.stack H s E e s'->X.xe e s'
section
variable {X:Cx} {CX:CXT} {k:Nat} {f C:Addr} {fd:FuncData} {ps:List Str} {sp:Sp} {dvs:List V} {ds:List Value} {E:XK} {x m:Str} {p pos apos:Pos} {e o:Expr} {es:List Expr} {ta:TE} {t:TA}
theorem Tb {pn:List (Addr × Obj)} {σ:St} {H:Hp} {s:Shared} {Q:VK} {us:List Value} {vs:List V} (F:FnOk X.prog X.w X.K X.mg X.base CX k f fd ps sp) (hr:Room k X.A) (hb:vf X.K fd ps ds) (hd:Vals dvs ds) (hx:jt CX X E)
  (I:Inv X pn σ H s) (r:Vals vs us) (h:sp (vs ++ dvs) H Q E):wpAny (model X.prog X.w) X.A (call (.ref f) us) (EP X pn σ Q) X.xe s:=by
 have r2:Vals (vs ++ dvs) (us ++ ds):=r.append hd
 have hl:(us ++ ds).length = ps.length:=by rw [<- r2.length]; exact F.len _ _ _ _ h
 refine wpAny_call (codeAny_mono (F.run X.A X.stack s H ⟨us,[]⟩ (us ++ ds) (vs ++ dvs) Q E hr I.env0 (hb s us I.kIn hl) r2 h) fun r s' hq=>?_)
 cases r with
 | error e=>exact hx pn σ H s e s' I hq
 | ok fl =>
  cases fl with
  | ret u=>exact I.after hq
  | next=>exact False.elim hq
  | brk=>exact False.elim hq
  | cont=>exact False.elim hq
theorem To (F:FnOk X.prog X.w X.K X.mg X.base CX k f fd ps sp) (hr:Room k X.A) (hg:Gl X x) (hm:X.mg x = some (.ref f)) (hk:W.keepIn X.K (.ref f) = true) (hb:vf X.K fd ps ds) (hd:Vals dvs ds) (hx:jt CX X E)
  (ha:PA X (e :: es) t) (hdb:(x == ("__debug__" : Str)) = false:=by decide) (he:starEach (e :: es) X.env = (false,eval e X.env) :: starEach es X.env:=by rfl) (hpl:(backTo pos (starEach es X.env)).any (·.1) = false:=by rfl) :
  PE X (.Call (.Name x p) (e :: es) [] pos) (Jl sp dvs E t):=by
 intro pn s σ H Q I h
 refine wpAny_Call_Name_kw (um I hg hm ?_ hdb)
 refine W.callWith_K (h₀:=X.base) I.ok.mod.kin hk (thn (ha pos pn s σ H _ I h) fun us s1 ⟨vs,H1,I1,r,q⟩=>⟨I1.kIn,?_⟩) he hpl
 exact Tb F hr hb hd hx I1 r q
theorem Tj {pl:Sem Bool} (he:PE X o ta) (c:Cls X.K C) (hm:Meth X.K C m f) (F:FnOk X.prog X.w X.K X.mg X.base CX k f fd ps sp) (hr:Room k X.A) (hb:vf X.K fd ps ds) (hd:Vals dvs ds) (hx:jt CX X E) (ha:PA X (e :: es) t)
  (hst:starEach (e :: es) X.env = (false,eval e X.env) :: starEach es X.env:=by rfl) (hpl:(backTo pos (starEach es X.env)).any (·.1) = false:=by rfl)
  (ht:eval (.Call (.Attribute o m apos) (e :: es) [] pos) X.env = (do
   let ov <- eval o X.env
   standAt apos.atName
   let (f,first) <- holding [ov] (getMethod ov m pl)
   callWith pos f first (backTo pos (starEach (e :: es) X.env)) (backToKw pos (keywordEach [] X.env))):=by rfl) :
  PE X (.Call (.Attribute o m apos) (e :: es) [] pos) (Jd C m sp dvs E ta t):=by
 intro pn s σ H Q I h
 refine W.methodCall_KW (pl:=pl) (thn (he pn s σ H _ I h) fun u s1 ⟨x,H1,I1,rx,a,dx,fs,ex,ea,l,q⟩=>?_) ht
 subst ex
 obtain rfl:u = Value.ref a:=rx
 refine fc I1 ea c hm l ?_
 refine W.callWith_K (first:=[.ref a]) (h₀:=X.base) I.ok.mod.kin hm.kp (thn (ha pos pn s1 σ H1 _ I1 q) fun us s2 ⟨vs,H2,I2,r,q2⟩=>⟨I2.kIn,?_⟩) hst hpl
 exact Tb (us:=.ref a :: us) (vs:=.ref a :: vs) F hr hb hd hx I2 (.cons rfl r) q2
theorem Wi {pl:Sem Bool} (he:PE X o ta) (c:Cls X.K C) (hm:Meth X.K C m f) (F:FnOk X.prog X.w X.K X.mg X.base CX k f fd ps sp) (hr:Room k X.A) (hb:vf X.K fd ps ds) (hd:Vals dvs ds) (hx:jt CX X E)
  (ht:eval (.Call (.Attribute o m apos) [] [] pos) X.env = (do
   let ov <- eval o X.env
   standAt apos.atName
   let (f,first) <- holding [ov] (getMethod ov m pl)
   callWith pos f first (backTo pos (starEach [] X.env)) (backToKw pos (keywordEach [] X.env))):=by rfl) :
  PE X (.Call (.Attribute o m apos) [] [] pos) (Jd C m sp dvs E ta tNil):=by
 intro pn s σ H Q I h
 refine W.methodCall_KW (pl:=pl) (thn (he pn s σ H _ I h) fun u s1 ⟨x,H1,I1,rx,a,dx,fs,ex,ea,l,q⟩=>?_) ht
 subst ex
 obtain rfl:u = Value.ref a:=rx
 refine fc I1 ea c hm l ?_
 exact W.callWith_K0 (first:=[.ref a]) I1.kIn hm.kp (Tb (us:=[.ref a]) (vs:=[.ref a]) F hr hb hd hx I1 (.cons rfl .nil) q)
structure Mk (K:W.Frag) (C f:Addr):Prop where
 makes:W.makesIn K C = true
 init:W.findIn K (.ref C) "__init__" = some (some (.ref f))
 fn:W.isFn K (.ref f) = true
 kp:W.keepIn K (.ref C) = true
theorem Qw {pn:List (Addr × Obj)} {σ:St} {H:Hp} {s:Shared} {Q:VK} {us:List Value} {vs:List V} (M:Mk X.K C f) (F:FnOk X.prog X.w X.K X.mg X.base CX k f fd ps sp) (hr:Room (k + 1) X.A) (hb:vf X.K fd ps ds) (hd:Vals dvs ds)
  (hx:jt CX X E) (I:Inv X pn σ H s) (r:Vals vs us)
  (h:∀ x dx,H x = none->H dx = none->dx ≠ x->sp (.ref x :: (vs ++ dvs)) (upd (upd H dx (.own x)) x (.ins C dx [])) (fun v H2=>v = .non /\ Q (.ref x) H2) E) :
  wpAny (model X.prog X.w) X.A (call (.ref C) us) (EP X pn σ Q) X.xe s:=by
 have hq:=h (s.heap.objs.size + 1) s.heap.objs.size (I.hok.fresh (Nat.le_succ _)) (I.hok.fresh (Nat.le_refl _)) (Nat.ne_of_lt (Nat.lt_succ_self _))
 have I2:=Inv.made (C:=C) I
 have r2:Vals (V.ref (s.heap.objs.size + 1) :: (vs ++ dvs)) (Value.ref (s.heap.objs.size + 1) :: (us ++ ds)):=.cons rfl (r.append hd)
 have hl:(Value.ref (s.heap.objs.size + 1) :: us ++ ds).length = ps.length:=by
  have e:=r2.length
  rw [F.len _ _ _ _ hq] at e
  exact e.symm
 refine wpAny_call (Pi (f:=f) I.kIn M.makes M.init (beq_iff_eq.mp M.fn) (codeAny_mono (F.run _ X.stack _ _ ⟨Value.ref (s.heap.objs.size + 1) :: us,[]⟩ (Value.ref (s.heap.objs.size + 1) :: (us ++ ds)) _ _ E (hr.make C us [])
  (I2.env0.make C us []) (hb _ (Value.ref (s.heap.objs.size + 1) :: us) I2.kIn hl) r2 hq) fun r s' hq'=>?_))
 cases r with
 | error e=>exact hx pn σ _ _ e s' I2 hq'
 | ok fl =>
  cases fl with
  | ret u =>
   obtain ⟨v,H',I3,rv,ev,q3⟩:=I2.after hq'
   subst ev
   exact ⟨rv,⟨V.ref (s.heap.objs.size + 1),H',I3,rfl,q3⟩⟩
  | next=>exact False.elim hq'
  | brk=>exact False.elim hq'
  | cont=>exact False.elim hq'
theorem L9 (M:Mk X.K C f) (F:FnOk X.prog X.w X.K X.mg X.base CX k f fd ps sp) (hr:Room (k + 1) X.A) (hg:Gl X x) (hm:X.mg x = some (.ref C)) (hb:vf X.K fd ps ds) (hd:Vals dvs ds) (hx:jt CX X E)
  (ha:PA X (e :: es) t) (hdb:(x == ("__debug__" : Str)) = false:=by decide) (he:starEach (e :: es) X.env = (false,eval e X.env) :: starEach es X.env:=by rfl) (hpl:(backTo pos (starEach es X.env)).any (·.1) = false:=by rfl) :
  PE X (.Call (.Name x p) (e :: es) [] pos) (Ee C sp dvs E t):=by
 intro pn s σ H Q I h
 refine wpAny_Call_Name_kw (um I hg hm ?_ hdb)
 refine W.callWith_K (h₀:=X.base) I.ok.mod.kin M.kp (thn (ha pos pn s σ H _ I h) fun us s1 ⟨vs,H1,I1,r,q⟩=>⟨I1.kIn,?_⟩) he hpl
 exact Qw M F hr hb hd hx I1 r q
end
structure zp (N P:List Str) (sc:Scope):Prop where
 kind:sc.kind = .function
 co:sc.isCoroutine = false
 gen:sc.isGenerator = false
 nd:N.Nodup
 pre:N.take P.length = P
 par:∀ x ∈ P,sc.names.lookup x = some .local \/ sc.names.lookup x = some .cell
 nofree:∀ y ∈ sc.names,y.2 ≠ .free
theorem Yc {kindOf:Str->Option NameKind} {x:Str}:∀ {binds:List (Str × Value)} {m:Str->Option Value},(∀ v,(x,v) ∉ binds)->bindL kindOf binds m x = m x
 | [],_,_=>rfl
 | (n,v) :: r,m,h=>by
  unfold bindL
  rw [Yc fun w hw=>h w (List.mem_cons_of_mem _ hw)]
  split
  ·have:x ≠ n:=by rintro rfl; exact h v List.mem_cons_self
   simp [this]
  ·rfl
theorem Ye {kindOf:Str->Option NameKind} {x:Str}:∀ {binds:List (Str × Value)} {m:Str->Option Value},(∀ v,(x,v) ∉ binds)->bindC kindOf binds m x = m x
 | [],_,_=>rfl
 | (n,v) :: r,m,h=>by
  unfold bindC
  rw [Ye fun w hw=>h w (List.mem_cons_of_mem _ hw)]
  split
  ·rfl
  ·have:x ≠ n:=by rintro rfl; exact h v List.mem_cons_self
   simp [this]
theorem Yd {kindOf:Str->Option NameKind} {x:Str} {v:Value}:∀ {P:List Str} {vs:List Value} {i:Nat} {m:Str->Option Value},P.Nodup->P[i]? = some x->vs[i]? = some v->kindOf x = some .local ->
  bindL kindOf (P.zip vs) m x = some v
 | [],_,_,_,_,h,_,_=>by simp at h
 | _ :: _,[],_,_,_,_,h,_=>by simp at h
 | p :: P,w :: vs,0,m,nd,h1,h2,hk=>by
  simp at h1 h2; subst h1; subst h2
  show bindL kindOf ((p,w) :: P.zip vs) m p = _
  unfold bindL
  rw [Yc fun v hv=>(List.nodup_cons.mp nd).1 (List.of_mem_zip hv).1,if_pos hk]
  simp
 | p :: P,w :: vs,i + 1,m,nd,h1,h2,hk=>by
  show bindL kindOf ((p,w) :: P.zip vs) m x = _
  unfold bindL
  exact Yd (i:=i) (List.nodup_cons.mp nd).2 (by simpa using h1) (by simpa using h2) hk
theorem Yg {kindOf:Str->Option NameKind} {x:Str} {v:Value}:∀ {P:List Str} {vs:List Value} {i:Nat} {m:Str->Option Value},P.Nodup->P[i]? = some x->vs[i]? = some v->kindOf x ≠ some .local ->
  bindC kindOf (P.zip vs) m x = some v
 | [],_,_,_,_,h,_,_=>by simp at h
 | _ :: _,[],_,_,_,_,h,_=>by simp at h
 | p :: P,w :: vs,0,m,nd,h1,h2,hk=>by
  simp at h1 h2; subst h1; subst h2
  show bindC kindOf ((p,w) :: P.zip vs) m p = _
  unfold bindC
  rw [Ye fun v hv=>(List.nodup_cons.mp nd).1 (List.of_mem_zip hv).1,if_neg hk]
  simp
 | p :: P,w :: vs,i + 1,m,nd,h1,h2,hk=>by
  show bindC kindOf ((p,w) :: P.zip vs) m x = _
  unfold bindC
  exact Yg (i:=i) (List.nodup_cons.mp nd).2 (by simpa using h1) (by simpa using h2) hk
noncomputable def start (N:List Str) (vs:List V):St:=vs.map some ++ List.replicate (N.length - vs.length) none
noncomputable def cxOf (CX:CXT) (P:Program) (w:World) (K:W.Frag) (mg:Str->Option Value) (base:Heap) (N:List Str) (qual:Str) (scope:Scope) (f:Addr) (cd:Value) (A:Around) (outer:List Env) (s:Shared) (H:Hp) (E:XK):Cx where
 prog:=P
 w:=w
 K:=K
 mg:=mg
 base:=base
 A:=A.deeper (envOfC qual scope s.heap.objs.size f cd)
 N:=N
 s₀:=s
 H₀:=H
 env:=envOfC qual scope s.heap.objs.size f cd
 outer:=outer
 stack:=envOfC qual scope s.heap.objs.size f cd :: outer
 ex:=[]
 calm:=true
 fn:=fun _=>true
 pn:=[]
 xe:=fun e s'=>wpAny (model P w) (A.deeper (envOfC qual scope s.heap.objs.size f cd)) (leaving (envOfC qual scope s.heap.objs.size f cd) e) (fun _ s''=>CX outer H s E e s'') (fun e' s''=>CX outer H s E e' s'') s'
theorem Vd {sc:Scope} {n:Nat} {x:Str} (h:sc.names.lookup x = some .cell):∃ c,(cellsFrom n sc.names []).lookup x = some c:=by
 have q:=W.cellsFrom_some sc.names n [] (.inl h)
 exact Option.isSome_iff_exists.mp q
theorem Si {CX:CXT} {P:Program} {w:World} {K:W.Frag} {mg:Str->Option Value} {base:Heap} {N ps:List Str} {qual:Str} {scope:Scope} {f:Addr} {cd:Value} {A:Around} {outer:List Env} {s s1:Shared} {H:Hp} {E:XK} {us:List Value} {vs:List V}
  (S:zp N ps scope) (hd:A.handled = none) (e0:Env0 P w K mg base A outer s H) (hl:vs.length = ps.length) (r:Vals vs us)
  (x:InCallC s s.heap.objs.size (bindL (envOfC qual scope s.heap.objs.size f cd).kindOf (ps.zip us) fun _=>none) (cellsFrom (s.heap.objs.size + 1) scope.names []) (bindC (envOfC qual scope s.heap.objs.size f cd).kindOf (ps.zip us) fun _=>none) s1) :
  Inv (cxOf CX P w K mg base N qual scope f cd A outer s H E) [] (start N vs) H s1:=by
 have hpl:ps.length <= N.length:=by have:=congrArg List.length S.pre; rw [List.length_take] at this; omega
 obtain ⟨h1,tk,rfl,hk⟩:=x.done
 have noA:∀ b:Addr,b ∉ (cxOf CX P w K mg base N qual scope f cd A outer s H E).ex:=fun b z=>absurd (show b ∈ ([]:List Addr) from z) (by simp)
 refine ⟨⟨e0.mod,S.kind,rfl,rfl,Nat.le_refl _,fun y z c h1 h2=>?_,fun y hy=>?_,fun y c _ h=>?_,fun _=>hd,Around.frames_deeper e0.frames,.inr ⟨rfl,rfl⟩,fun b z=>absurd z (noA b),e0.bs,e0.bsz,fun b _ _=>noA b,fun b z=>absurd z (noA b),e0.funs,e0.frf⟩,
  rfl,e0.bare,Un.kept hk,⟨_,x.toInCall.ns,fun i y v h1 h2 h3=>?_⟩,fun y c h=>⟨_,x.cell y c h⟩,e0.hok.fresh (Nat.le_refl _),fun y c h=>?_,fun p hp=>absurd (show p ∈ ([]:List (Addr × Obj)) from hp) (by simp),e0.hok.kept hk,?_⟩
 ·exact name_of_addr x.apart (PySem.mem_of_lookup h1) (PySem.mem_of_lookup h2)
 ·have hy:scope.names.lookup y = some .cell \/ scope.names.lookup y = some .free:=hy
  rcases hy with hy | hy
  ·exact Vd hy
  ·exact absurd rfl (S.nofree _ (PySem.mem_of_lookup hy))
 ·exact Nat.le_of_lt (x.above y c (PySem.mem_of_lookup h))
 ·have hi:i < vs.length:=by
   unfold start at h2
   by_cases hi:i < vs.length
   ·exact hi
   ·rw [List.getElem?_append_right (by simpa using hi)] at h2
    rw [List.getElem?_replicate] at h2
    split at h2 <;> cases h2
  have ha:vs[i]? = some v:=by
   unfold start at h2
   rw [List.getElem?_append_left (by simpa using hi),List.getElem?_map] at h2
   cases e:vs[i]? with
   | none=>rw [e] at h2; cases h2
   | some a=>rw [e] at h2; cases h2; rfl
  obtain ⟨u,hu,rv⟩:=r.get ha
  have hp:ps[i]? = some y:=by
   rw [<- S.pre,List.getElem?_take_of_lt (by omega)]; exact h1
  have ndP:ps.Nodup:=by rw [<- S.pre]; exact S.nd.sublist (List.take_sublist _ _)
  refine ⟨u,rv,?_⟩
  rcases S.par y (List.mem_of_getElem? hp) with k | k
  ·exact .inl ⟨k,Yd ndP hp hu k⟩
  ·obtain ⟨c,e⟩:=Vd (n:=s.heap.objs.size + 1) k
   refine .inr ⟨.inl k,c,e,?_⟩
   have q:=x.cell y c e
   rw [Yg ndP hp hu (by show scope.names.lookup y ≠ _; rw [k]; decide)] at q
   exact q
 ·exact e0.hok.fresh (Nat.le_of_lt (x.above y c (PySem.mem_of_lookup h)))
 ·unfold start
  show _ = N.length
  rw [List.length_append,List.length_map,List.length_replicate]
  omega
theorem Fq {CX:CXT} {P:Program} {w:World} {K:W.Frag} {mg:Str->Option Value} {base:Heap} {k:Nat} {f:Addr} {name qual:Str} {params:Arguments} {body:List Stmt} {scope:Scope} {dV kV doc pm qZ ct oc:Value} {an od:Option Addr}
  {osl:Array (Option Value)} {N ps:List Str} {sp:Sp} (lk:K.lookup f = some ⟨oc,od,.func (W.fnOf name qual params body scope dV kV doc pm an qZ ct),osl⟩) (hcd:W.codeIn K qZ qual = true) (S:zp N ps scope)
  (len:∀ vs H Q E,sp vs H Q E->vs.length = ps.length)
  (qY:∀ (A:Around) (outer:List Env) (s:Shared) (H:Hp) (vs:List V) (Q:VK) (E:XK),Room k (A.deeper (envOfC qual scope s.heap.objs.size f qZ))->sp vs H Q E ->
   ∃ t,PSs (cxOf CX P w K mg base N qual scope f qZ A outer s H E) body t /\ t { nx:=fun _ H'=>Q .non H',rt:=Q } (start N vs) H) :
  FnOk P w K mg base CX (k + 1) f (W.fnOf name qual params body scope dV kV doc pm an qZ ct) ps sp:=by
 refine ⟨len,fun A outer s H args us vs Q E hr e0 hb r hsp=>?_⟩
 have hl:=len _ _ _ _ hsp
 have KX:K.In s.heap:=e0.mod.kin.keeps fun b o e=>(e0.bs b o e).1
 have lim:s.heap.NoLimit:=e0.mod.nolimit.keeps fun b o e=>(e0.bs b o e).1
 have hkind:∀ y ∈ ps.zip us,scope.names.lookup y.1 = some .local \/ (scope.names.lookup y.1 = some .cell /\ ((cellsFrom (s.heap.objs.size + 1) scope.names []).lookup y.1).isSome = true):=fun ⟨n,v⟩ hy=>by
  rcases S.par n (List.of_mem_zip hy).1 with q | q
  ·exact .inl q
  ·exact .inr ⟨q,W.cellsFrom_some _ _ _ (.inl q)⟩
 refine codeAny_call_function hr.depth (KX _ _ lk) rfl S.co S.gen rfl (W.codeRec_of KX hcd) (hb _ _ _ _ ?_)
 refine wpAny_newFunctionEnv_cells S.kind hkind fun env he s1 x=>?_
 subst he
 refine ⟨lim.keeps x.toInCall.keep,codeAny_func ?_⟩
 obtain ⟨t,ht,hq⟩:=qY A outer s H vs Q E (hr.deeper _) hsp
 have I:Inv (cxOf CX P w K mg base N qual scope f qZ A outer s H E) [] (start N vs) H s1:=Si S hr.hd e0 hl r x
 refine wpAny_mono (ht [] s1 (start N vs) H _ I hq) (fun fl s' hs=>?_) fun e s' hs=>hs
 have fin:∀ {σ':St} {H':Hp} {v:V} {u:Value},Inv (cxOf CX P w K mg base N qual scope f qZ A outer s H E) [] σ' H' s'->RelV v u->Q v H'->CE outer P w H s Q u s' :=
  fun {σ' H' v u} J rv q=>⟨v,H',J.os,J.bare,J.base,J.hok,rv,q⟩
 cases fl with
 | ret u =>
  obtain ⟨v,σ',H',J,rv,q⟩:=hs
  exact fin J rv q
 | next =>
  obtain ⟨σ',H',J,q⟩:=hs
  exact fin (v:=V.non) (u:=Value.none) J rfl q
 | brk =>
  obtain ⟨_,_,_,q⟩:=hs
  exact False.elim q
 | cont =>
  obtain ⟨_,_,_,q⟩:=hs
  exact False.elim q
section
variable {X:Cx} {x:Str} {p pos:Pos} {e:Expr} {es:List Expr} {t:TA} {id T:String} {r:List V->Hp->VK->Prop}
noncomputable def tCB (r:List V->Hp->VK->Prop) (t:TA):TE:=fun σ H Q=>t σ H fun vs H1=>r vs H1 Q
theorem qu (hc:u0 X (.builtin id) r) (hg:Gl X x) (hm:X.mg x = none) (hv:bootBuiltins x = some (.builtin id)) (ha:PA X (e :: es) t) (hn:x ≠ "__name__":=by decide) (hdb:(x == ("__debug__" : Str)) = false:=by decide)
  (he:starEach (e :: es) X.env = (false,eval e X.env) :: starEach es X.env:=by rfl) (hpl:(backTo pos (starEach es X.env)).any (·.1) = false:=by rfl):PE X (.Call (.Name x p) (e :: es) [] pos) (tCB r t):=by
 intro pn s σ H Q I h
 refine wpAny_Call_Name_kw (j4 I hg hm hv ?_ hn hdb)
 exact PyProof.Rows.callWith_builtin1 (thn (ha pos pn s σ H _ I h) fun us s1 ⟨vs,H1,I1,r1,q1⟩=>hc pn s1 σ H1 vs us Q I1 r1 q1) he hpl
theorem Tl (hc:u0 X (.type T) r) (hg:Gl X x) (hm:X.mg x = none) (hv:bootBuiltins x = some (.type T)) (ha:PA X (e :: es) t) (hn:x ≠ "__name__":=by decide) (hdb:(x == ("__debug__" : Str)) = false:=by decide)
  (he:starEach (e :: es) X.env = (false,eval e X.env) :: starEach es X.env:=by rfl) (hpl:(backTo pos (starEach es X.env)).any (·.1) = false:=by rfl):PE X (.Call (.Name x p) (e :: es) [] pos) (tCB r t):=by
 intro pn s σ H Q I h
 refine wpAny_Call_Name_kw (j4 I hg hm hv ?_ hn hdb)
 exact PyProof.Rows.callWith_type1 (thn (ha pos pn s σ H _ I h) fun us s1 ⟨vs,H1,I1,r1,q1⟩=>hc pn s1 σ H1 vs us Q I1 r1 q1) he hpl
end
end L2
namespace HT
open PySem PyProof.Rows
noncomputable def lexLt:List Int->List Int->Bool
 | [],[]=>false
 | [],_ :: _=>true
 | _ :: _,[]=>false
 | x :: xs,y :: ys=>if x = y then lexLt xs ys else decide (x < y)
theorem lexLt_cons (x y:Int) (xs ys:List Int):lexLt (x :: xs) (y :: ys) = if x = y then lexLt xs ys else decide (x < y):=rfl
theorem Oh (A:Around) (s:Shared) (a:Int) (t:Tok) (c:Int) (u:Tok):∃ e,SeqAt.EqAt A s (.int a t) (.int c u) e /\ (e = true ↔ a = c) :=
 ⟨(a == c),SeqAt.EqAt.int_int a t c u,by simp⟩
theorem P2 (A:Around) (s:Shared) (a:Int) (t:Tok) (c:Int) (u:Tok) (prog:Program) (w:World) (E:Value->Shared->Prop) (Q:Value->Shared->Prop) (h:Q (.bool (decide (a < c))) s) :
  wpAny (model prog w) A (richCompare .Lt (.int a t) (.int c u)) Q E s :=
 (PyProof.Rows.lt_int h:wpAny (model prog w) A (compareOp .Lt (.int a t) (.int c u)) Q E s)
section
open PySem.SeqAt
open PySem.AutoSeq1 (wpAny_loadPart')
open PySem.MeetsSeq PySem.MeetsSeq2 PySem.MeetsSeq3
end
section
variable {prog:Program} {w:World} {A:Around} {E:Value->Shared->Prop} {s:Shared}
theorem cat_tup {t b:Addr} {vs ws:List Value} {Q:Value->Shared->Prop} (ht:IsTup s.heap t vs.toArray) (hb:IsTup s.heap b ws.toArray) (hv:vs ≠ [])
  (h1:ws = []->Q (.ref t) s) (h2:ws ≠ []->Q (.ref s.heap.objs.size) { s with heap:=s.heap.push { cls:=.type "tuple", data:=.seq (vs ++ ws).toArray } })
  (hsz:vs.length + ws.length <= sizeLine):wpAny (model prog w) A (binaryOp .Add (.ref t) (.ref b)) Q E s:=by
 obtain ⟨⟨cls,dd,data,sl⟩,ho,hc,n,hd⟩:=id ht
 obtain ⟨⟨cls2,dd2,data2,sl2⟩,ho2,hc2,n2,hd2⟩:=id hb
 simp only at hc hd hc2 hd2
 subst hc hd hc2 hd2
 have e:vs.toArray ++ ws.toArray = (vs ++ ws).toArray:=by simp
 by_cases hw:ws = []
 ·exact concat_meets ⟨_,ho,rfl⟩ ⟨_,ho2,rfl⟩ noFill_tuple_add seq_tuple_add PySem.F.slot_tuple_add PySem.F.entry_tuple_add (PySem.F.args_tuple_add_2 _ _)
   (tuple_addW1 t b vs.toArray ws.toArray n n2 dd dd2 sl sl2 (by simpa using hv) (by simp [hw])) ⟨ho,ho2,h1 hw⟩
 ·refine concat_meets ⟨_,ho,rfl⟩ ⟨_,ho2,rfl⟩ noFill_tuple_add seq_tuple_add PySem.F.slot_tuple_add PySem.F.entry_tuple_add (PySem.F.args_tuple_add_2 _ _)
   (tuple_addW2 t b vs.toArray ws.toArray n n2 dd dd2 sl sl2 (by simpa using hv) (by simpa using hw) (by rw [List.size_toArray,List.size_toArray]; exact hsz)) ⟨ho,ho2,?_⟩
  rw [e]
  exact h2 hw
noncomputable def sIx (n d:Nat):Option Int->Nat
 | none=>d
 | some v=>if v < 0 then (v + (n:Int)).toNat else min v.toNat n
theorem sIx_none (n d:Nat):sIx n d none = d:=rfl
theorem sIx_nat (n d k:Nat):sIx n d (some (k:Int)) = min k n:=by
 show (if (k:Int) < 0 then ((k:Int) + (n:Int)).toNat else min (k:Int).toNat n) = min k n
 rw [if_neg (by omega),Int.toNat_natCast]
theorem Hb (n d:Nat) (hd:d <= n) (o:Option Int):sIx n d o <= n:=by
 cases o with
 | none=>exact hd
 | some v =>
  show (if v < 0 then (v + (n:Int)).toNat else min v.toNat n) <= n
  by_cases hv:v < 0
  ·rw [if_pos hv]; omega
  ·rw [if_neg hv]; exact Nat.min_le_right _ _
theorem Q1 (v:Int) (n d:Nat):(if v < 0 then max (v + (n:Int)) 0 else min v (n:Int)) = ((sIx n d (some v):Nat):Int):=by
 show (if v < 0 then max (v + (n:Int)) 0 else min v (n:Int)) = (((if v < 0 then (v + (n:Int)).toNat else min v.toNat n):Nat):Int)
 by_cases hv:v < 0
 ·simp only [if_pos hv]; omega
 ·simp only [if_neg hv]; omega
theorem Uc (lo hi:Option Int) (n:Nat):Builtin.Slice.sliceAdjust lo hi 1 (n:Int) = (((sIx n 0 lo:Nat):Int),((sIx n n hi:Nat):Int)):=by
 have h1:¬ ((1:Int) < 0):=by omega
 unfold Builtin.Slice.sliceAdjust
 simp only [h1,if_false]
 refine Prod.ext ?_ ?_
 ·cases lo with
  | none=>rfl
  | some v=>exact Q1 v n 0
 ·cases hi with
  | none=>rfl
  | some v=>exact Q1 v n n
theorem Vq (i j:Nat):Builtin.Slice.slicePlaces (i:Int) (j:Int) 1 = j - i:=by
 unfold Builtin.Slice.slicePlaces
 have h1:(1:Int) > 0:=by omega
 simp only [h1,if_true,Int.ediv_one]
 split <;> omega
theorem h8 {v:Value} {o:Option Int} {Q:Option Int->Shared->Prop} (p:IsPart v o) (h:Q o s):wpAny (model prog w) A (Builtin.Slice.slicePartIndex v) Q E s:=by
 cases p with
 | none=>exact slicePart_none h
 | int i t=>exact slicePart_int h
theorem qf {sl:Addr} {vl vu:Value} {lo hi:Option Int} {n:Nat} {Q:Int × Int × Nat->Shared->Prop} (hs:s.heap.IsSliceOf sl vl vu .none) (pl:IsPart vl lo) (pu:IsPart vu hi)
  (h:Q (((sIx n 0 lo:Nat):Int),1,sIx n n hi - sIx n 0 lo) s):wpAny (model prog w) A (Builtin.Slice.sliceApplied (.ref sl) (pure (n:Int))) Q E s:=by
 obtain ⟨os,hos,hcs,hds⟩:=id hs
 unfold Builtin.Slice.sliceApplied Builtin.Slice.sliceFields
 refine wpAny_bind (wpAny_bind (wpAny_field hos hds (x:=vl) rfl (wpAny_bind (wpAny_field hos hds (x:=vu) rfl (wpAny_bind (wpAny_field hos hds (x:=.none) rfl (wpAny_pure ?_)))))))
 refine wpAny_bind (slicePart_none ?_)
 show wpAny _ _ (if ((1:Int) == 0) = true then _ else _) _ _ s
 rw [if_neg (by decide)]
 refine wpAny_bind (h8 pl (wpAny_bind (h8 pu (wpAny_bind (wpAny_pure ?_)))))
 show wpAny _ _ (match Builtin.Slice.sliceAdjust lo hi 1 (n:Int) with | (lo,hi)=>pure (lo,(1:Int),Builtin.Slice.slicePlaces lo hi 1)) _ _ s
 rw [Uc lo hi n]
 show wpAny _ _ (pure (((sIx n 0 lo:Nat):Int),(1:Int),Builtin.Slice.slicePlaces ((sIx n 0 lo:Nat):Int) ((sIx n n hi:Nat):Int) 1)) _ _ s
 rw [Vq]
 exact wpAny_pure h
theorem Pb (xs:Array Value) (i k:Nat):((List.range k).filterMap fun (m:Nat)=>xs[((i:Int) + (m:Int) * 1).toNat]?).toArray = ((xs.toList.drop i).take k).toArray:=by
 have e:(fun (m:Nat)=>xs[((i:Int) + (m:Int) * 1).toNat]?) = fun m=>xs[i + m]?:=by
  funext m
  have:((i:Int) + (m:Int) * 1).toNat = i + m:=by omega
  rw [this]
 rw [e]
 have:=pick_run xs i k
 rw [List.filterMap_map] at this
 have e2:((fun x=>xs[x]?) ∘ fun x=>i + x) = fun m=>xs[i + m]?:=rfl
 rw [e2] at this
 rw [this]
theorem getItem_tuple_cut {t sl:Addr} {items:Array Value} {vl vu:Value} {lo hi:Option Int} {Q:Value->Shared->Prop} (ht:IsTup s.heap t items) (hs:s.heap.IsSliceOf sl vl vu .none) (pl:IsPart vl lo) (pu:IsPart vu hi)
  (hw:¬ (sIx items.size 0 lo = 0 /\ sIx items.size items.size hi = items.size))
  (h:Q (.ref s.heap.objs.size) { s with heap:=s.heap.push { cls:=.type "tuple", data:=.seq ((items.toList.drop (sIx items.size 0 lo)).take (sIx items.size items.size hi - sIx items.size 0 lo)).toArray } })
  (hsz:items.size <= sizeLine):wpAny (model prog w) A (getItem (.ref t) (.ref sl)) Q E s:=by
 have htake:sizeOk (.seq ((items.toList.drop (sIx items.size 0 lo)).take (sIx items.size items.size hi - sIx items.size 0 lo)).toArray):=by
  show ((items.toList.drop (sIx items.size 0 lo)).take (sIx items.size items.size hi - sIx items.size 0 lo)).toArray.size <= sizeLine
  rw [List.size_toArray,List.length_take,List.length_drop,Array.length_toList]
  omega
 have hj:sIx items.size items.size hi <= items.size:=Hb _ _ (Nat.le_refl _) hi
 obtain ⟨os,hos,hcs,hds⟩:=id hs
 have hTs:s.TypeIs (.ref sl) "slice":=⟨os,hos,hcs⟩
 unfold getItem
 try with_reducible refine wpAny_holding ?_
 first | refine wpAny_bind (wpAny_pure ?_) | skip
 refine wpAny_bind (wpAny_sequenceKey ht.typeIs (by decide) ?_)
 refine wpAny_bind (wpAny_callSpecial?_slot (name:=Str.ofString "__getitem__") ht.typeIs PyProof.Rows.slot_tuple_getitem
  (wpAny_call_entry PyProof.Rows.slot_tuple_getitem ht.typeIs entry_tuple_getitem ?_ (args_tuple_getitem _ _)))
 show wpAny _ _ (Builtin.Tuple.tupleItemsOf (.ref t) >>= _) _ _ s
 refine wpAny_bind (tupleItemsOf_ ht ?_)
 refine wpAny_bind (wpAny_typeOf hTs ?_)
 rw [if_pos (by decide)]
 refine wpAny_bind (qf hs pl pu ?_)
 have hno:¬ ((((sIx items.size 0 lo:Nat):Int) == 0 && (1:Int) == 1 && (sIx items.size items.size hi - sIx items.size 0 lo) == items.size) = true):=by
  intro q
  rw [Bool.and_eq_true,Bool.and_eq_true] at q
  have q1:((sIx items.size 0 lo:Nat):Int) = 0:=eq_of_beq q.1.1
  have q2:sIx items.size items.size hi - sIx items.size 0 lo = items.size:=eq_of_beq q.2
  exact hw ⟨by omega,by omega⟩
 show wpAny _ _ (if (((sIx items.size 0 lo:Nat):Int) == 0 && (1:Int) == 1 && (sIx items.size items.size hi - sIx items.size 0 lo) == items.size) = true then _ else _) _ _ s
 rw [if_neg hno,Pb]
 first
  | exact wpAny_bind (m:=Builtin.Tuple.tupleExact _) (wpAny_newObj_type (wpAny_pure ⟨_,rfl,wpAny_pure h⟩) htake)
  | exact wpAny_bind (m:=Builtin.Tuple.tupleExact _) (wpAny_newObj_type (wpAny_bind (wpAny_pure (wpAny_pure ⟨_,rfl,wpAny_pure h⟩))) htake)
  | exact wpAny_bind (wpAny_bind (m:=Builtin.Tuple.tupleExact _) (wpAny_newObj_type (wpAny_pure (wpAny_pure ⟨_,rfl,wpAny_pure h⟩)) htake))
  | exact wpAny_bind (wpAny_bind (m:=Builtin.Tuple.tupleExact _) (wpAny_newObj_type (wpAny_pure ⟨_,rfl,wpAny_pure h⟩) htake))
end
end HT
namespace L2
open PySem PySem.Spec PyProof.Rows
noncomputable abbrev TO:=St->Hp->(Option Int->Hp->Prop)->Prop
noncomputable def PO (X:Cx) (e:Option Expr) (t:TO):Prop :=
 ∀ (pn:List (Addr × Obj)) (s:Shared) (σ:St) (H:Hp) (Q:Option Int->Hp->Prop),Inv X pn σ H s->t σ H Q ->
  wpAny (model X.prog X.w) X.A (evalPart e X.env) (fun u s'=>∃ o H',Inv X pn σ H' s' /\ IsPart u o /\ Q o H') X.xe s
noncomputable def M9:TO:=fun _ H Q=>Q none H
noncomputable def Eb (t:TE):TO:=fun σ H Q=>t σ H fun x H1=>∃ i,x = .int i /\ Q (some i) H1
theorem fb {ns:List Int}:∀ {us:List Value},Vals (ns.map V.int) us->IntsAre us ns:=by
 induction ns with
 | nil=>intro us r; rw [List.map_nil] at r; cases r; exact .nil
 | cons n ns ih =>
  intro us r
  rw [List.map_cons] at r
  cases r with
  | cons r1 r2 =>
   obtain ⟨t,e⟩:=r1
   subst e
   exact .cons n t (ih r2)
section
variable {X:Cx} {e:Expr} {te:TE} {lo hi:Option Expr} {tl th:TO} {pos p2:Pos}
theorem Mw:PO X none M9:=by
 intro pn s σ H Q I h
 rw [evalPart_none]
 exact wpAny_pure ⟨none,H,I,.none,h⟩
theorem Mv (h:PE X e te):PO X (some e) (Eb te):=by
 intro pn s σ H Q I hw
 rw [evalPart_some]
 refine thn (h pn s σ H _ I hw) fun u s1 ⟨x,H1,I1,r1,q1⟩=>?_
 obtain ⟨i,rfl,q⟩:=q1
 obtain ⟨t,rfl⟩:=r1
 exact ⟨some i,H1,I1,.int i t,q⟩
noncomputable def SlR (X:Cx) (r:V->Option Int->Option Int->Hp->VK->Prop):Prop :=
 ∀ (pn:List (Addr × Obj)) (s:Shared) (σ:St) (H:Hp) (x:V) (v vl vu:Value) (lo hi:Option Int) (sl:Addr) (Q:VK),Inv X pn σ H s->RelV x v->s.heap.IsSliceOf sl vl vu .none->IsPart vl lo->IsPart vu hi->r x lo hi H Q ->
  ∃ T id,typeLookup (.type T) "__getitem__" = pure (some (.builtin id)) /\ s.TypeIs v T /\ wpAny (model X.prog X.w) X.A (getItem v (.ref sl)) (EP X pn σ Q) X.xe s
theorem SlR.or {r r':V->Option Int->Option Int->Hp->VK->Prop} (h:SlR X r) (h':SlR X r'):SlR X (fun x lo hi H Q=>r x lo hi H Q \/ r' x lo hi H Q):=by
 intro pn s σ H x v vl vu lo hi sl Q I rx hs pl pu q
 rcases q with q | q
 ·exact h pn s σ H x v vl vu lo hi sl Q I rx hs pl pu q
 ·exact h' pn s σ H x v vl vu lo hi sl Q I rx hs pl pu q
noncomputable def tSl (r:V->Option Int->Option Int->Hp->VK->Prop) (te:TE) (tl th:TO):TE:=fun σ H Q=>te σ H fun x H1=>tl σ H1 fun l H2=>th σ H2 fun u H3=>r x l u H3 Q
theorem Pc {r:V->Option Int->Option Int->Hp->VK->Prop} (hr:SlR X r) (he:PE X e te) (hl:PO X lo tl) (hu:PO X hi th):PE X (.Subscript e (.Slice lo hi none p2) pos) (tSl r te tl th):=by
 intro pn s σ H Q I h
 refine Subscript_ (thn (he pn s σ H _ I h) fun v s1 ⟨x,H1,I1,r1,q1⟩=>?_)
 refine wpAny_Slice (thn (hl pn s1 σ H1 _ I1 q1) fun vl s2 ⟨l,H2,I2,pl,q2⟩=>thn (hu pn s2 σ H2 _ I2 q2) fun vu s3 ⟨u,H3,I3,pu,q3⟩=>?_)
 rw [evalPart_none]
 refine wpAny_pure ?_
 have I4:Inv X pn σ H3 { s3 with heap:=s3.heap.push { cls:=.type "slice", data:=.fields #[vl,vu,.none] } }:=I3.kept (t':=s3.toks) fun b ob q=>Heap.get?_push_of_some _ q
 obtain ⟨T,id,hT,ht,hg⟩:=hr pn { s3 with heap:=s3.heap.push { cls:=.type "slice", data:=.fields #[vl,vu,.none] } } σ H3 x v vl vu l u s3.heap.objs.size Q I4 r1 (Heap.IsSliceOf.new ..) pl pu q3
 show wpAny (model X.prog X.w) X.A (subscriptTail e (.Slice lo hi none p2) v (.ref s3.heap.objs.size)) (EP X pn σ Q) X.xe { s3 with heap:=s3.heap.push { cls:=.type "slice", data:=.fields #[vl,vu,.none] } }
 exact tail_any (ops:=[.ref s3.heap.objs.size,v]) ht hT hg (by with_unfolding_all rfl)
noncomputable def cutV (xs:List V) (lo hi:Option Int):List V:=(xs.drop (HT.sIx xs.length 0 lo)).take (HT.sIx xs.length xs.length hi - HT.sIx xs.length 0 lo)
theorem jf (xs:List V) (lo hi:Option Int):(cutV xs lo hi).length <= xs.length:=by
 unfold cutV
 rw [List.length_take,List.length_drop]
 omega
noncomputable def rSlT (K:W.Frag):V->Option Int->Option Int->Hp->VK->Prop:=fun x lo hi H Q=>∃ a xs,x = .ref a /\ SqT K H a xs /\
 ¬ (HT.sIx xs.length 0 lo = 0 /\ HT.sIx xs.length xs.length hi = xs.length) /\ ∀ p,H p = none->Q (.ref p) (upd H p (.tup (cutV xs lo hi)))
theorem Jt:SlR X (rSlT X.K):=by
 intro pn s σ H x v vl vu lo hi sl Q I rx hs pl pu h
 obtain ⟨a,xs,rfl,hx,hw,q⟩:=h
 cases rx
 obtain ⟨its,r,ht,hz⟩:=I.tuple hx
 have hlen:its.toArray.size = xs.length:=by rw [List.size_toArray]; exact r.length.symm
 refine ⟨"tuple", _,PyProof.Rows.slot_tuple_getitem.lookup,ht.typeIs,?_⟩
 refine HT.getItem_tuple_cut ht hs pl pu (by rw [hlen]; exact hw) ?_ (by rw [hlen]; exact hz)
 rw [hlen]
 refine ⟨.ref s.heap.objs.size,_,I.laid (t':=s.toks) (o:=.tup (cutV xs lo hi)) (fun b ob q=>Heap.get?_push_of_some _ q) (Nat.le_refl _) ?_,rfl,q _ (I.hok.fresh (Nat.le_refl _))⟩
 exact ⟨Nat.le_trans (jf xs lo hi) hz,_,(r.drop (HT.sIx xs.length 0 lo)).take (HT.sIx xs.length xs.length hi - HT.sIx xs.length 0 lo),IsTup.new _ _,_,Heap.get?_push_size _ rfl,rfl⟩
noncomputable def Hf (K:W.Frag):R2:=fun x y H Q=>∃ a b xs ys,x = .ref a /\ y = .ref b /\ SqT K H a xs /\ SqT K H b ys /\ xs ≠ [] /\ xs.length + ys.length <= sizeLine /\
 (ys = []->Q (.ref a) H) /\ (ys ≠ []->∀ p,H p = none->Q (.ref p) (upd H p (.tup (xs ++ ys))))
theorem Vals.nil_iff {xs:List V} {us:List Value} (r:Vals xs us):us = [] ↔ xs = []:=by
 cases r with
 | nil=>simp
 | cons _ _=>simp
theorem Li:OpR X (binaryOp .Add) (Hf X.K):=by
 intro pn s σ H x y v u Q I rx ry h
 obtain ⟨a,b,xs,ys,rfl,rfl,ha,hb,hx,hz,q1,q2⟩:=h
 cases rx
 cases ry
 obtain ⟨its,r1,p1,_⟩:=I.tuple ha
 obtain ⟨its2,r2,p2,_⟩:=I.tuple hb
 refine HT.cat_tup p1 p2 (fun z=>hx (r1.nil_iff.mp z)) (fun z=>⟨.ref a,H,I,rfl,q1 (r2.nil_iff.mp z)⟩) (fun z=>?_) (by rw [<- r1.length,<- r2.length]; exact hz)
 refine ⟨.ref s.heap.objs.size,_,I.laid (t':=s.toks) (o:=.tup (xs ++ ys)) (fun b ob q=>Heap.get?_push_of_some _ q) (Nat.le_refl _) ?_,rfl,q2 (fun w=>z (r2.nil_iff.mpr w)) _ (I.hok.fresh (Nat.le_refl _))⟩
 exact ⟨by rw [List.length_append]; exact hz,_,r1.append r2,IsTup.new _ _,_,Heap.get?_push_size _ rfl,rfl⟩
end
noncomputable def ixN (n:Nat) (i:Int):Option Nat:=if 0 <= i then (if i < n then some i.toNat else none) else if -(n:Int) <= i then some (i + n).toNat else none
noncomputable def atI {α:Type} (xs:List α) (i:Int):Option α:=(ixN xs.length i).bind fun j=>xs[j]?
theorem Sf {n:Nat} {i:Int} {j:Nat} (h:ixN n i = some j):seqIndex? i n = some j /\ j < n /\ -(n:Int) <= i /\ i < n:=by
 unfold ixN at h
 by_cases h0:0 <= i
 ·rw [if_pos h0] at h
  by_cases h1:i < n
  ·rw [if_pos h1] at h
   have e:i.toNat = j:=Option.some.inj h
   exact ⟨by rw [seqIndex_of h0 h1,e],by omega,by omega,h1⟩
  ·rw [if_neg h1] at h; cases h
 ·rw [if_neg h0] at h
  by_cases h1:-(n:Int) <= i
  ·rw [if_pos h1] at h
   have e:(i + n).toNat = j:=Option.some.inj h
   exact ⟨by rw [seqIndex_neg (by omega) h1,e],by omega,h1,by omega⟩
  ·rw [if_neg h1] at h; cases h
theorem Xw {α:Type} {xs:List α} {i:Int} {v:α} (h:atI xs i = some v):∃ j,seqIndex? i xs.length = some j /\ xs[j]? = some v /\ j < xs.length /\ -(xs.length:Int) <= i /\ i < xs.length:=by
 unfold atI at h
 cases e:ixN xs.length i with
 | none=>rw [e] at h; cases h
 | some j =>
  rw [e] at h
  obtain ⟨h1,h2,h3,h4⟩:=Sf e
  exact ⟨j,h1,h,h2,h3,h4⟩
theorem br {α:Type} {xs:List α} {j:Nat} {v:α} (h:xs[j]? = some v):atI xs (j:Int) = some v:=by
 have hj:j < xs.length:=(List.getElem?_eq_some_iff.mp h).1
 have e:ixN xs.length (j:Int) = some j:=by
  unfold ixN
  rw [if_pos (by omega),if_pos (by omega)]; simp
 unfold atI; rw [e]; exact h
noncomputable def Q8 (b:Expr):Prop:=∀ o i,subscripted b false o i = operate [o,i] (getItem o i)
noncomputable def IxR (X:Cx) (r:R2):Prop :=
 ∀ (value slice:Expr) (pn:List (Addr × Obj)) (s:Shared) (σ:St) (H:Hp) (x y:V) (v u:Value) (Q:VK),Inv X pn σ H s->RelV x v->RelV y u->r x y H Q ->
  subscripted slice false v u = operate [v,u] (getItem v u)->wpAny (model X.prog X.w) X.A (subscriptTail value slice v u) (EP X pn σ Q) X.xe s
noncomputable def MtR (X:Cx) (id:String) (r:V->List V->Hp->VK->Prop):Prop :=
 ∀ (pn:List (Addr × Obj)) (s:Shared) (σ:St) (H:Hp) (x:V) (xs:List V) (v:Value) (us:List Value) (Q:VK),Inv X pn σ H s->RelV x v->Vals xs us->r x xs H Q ->
  wpAny (model X.prog X.w) X.A (call (.builtin id) (v :: us)) (EP X pn σ Q) X.xe s
section
variable {X:Cx} {a b:Expr} {ta tb:TE} {pos:Pos}
theorem IxR.or {r r':R2} (h:IxR X r) (h':IxR X r'):IxR X (fun x y H Q=>r x y H Q \/ r' x y H Q):=by
 intro value slice pn s σ H x y v u Q I rx ry q hs
 rcases q with q | q
 ·exact h value slice pn s σ H x y v u Q I rx ry q hs
 ·exact h' value slice pn s σ H x y v u Q I rx ry q hs
theorem Eo {r:R2} (hr:IxR X r) (ha:PE X a ta) (hb:PE X b tb) (hs:Q8 b):PE X (.Subscript a b pos) (tOp r ta tb):=by
 intro pn s σ H Q I h
 exact Subscript_ (binT ha hb I h fun v u s2 x y H2 I2 rx ry q=>hr a b pn s2 σ H2 x y v u Q I2 rx ry q (hs _ _))
noncomputable def rIxL (K:W.Frag):R2:=fun x y H Q=>∃ p xs i v,x = .ref p /\ y = .int i /\ SqL K H p xs /\ atI xs i = some v /\ Q v H
noncomputable def rIxT (K:W.Frag):R2:=fun x y H Q=>∃ p xs i v,x = .ref p /\ y = .int i /\ SqT K H p xs /\ atI xs i = some v /\ Q v H
noncomputable def rIxS:R2:=fun x y H Q=>∃ z i c,x = .str z /\ y = .int i /\ z.length <= sizeLine /\ atI z.cps.toList i = some c /\ Q (.str ⟨#[c]⟩) H
theorem Lz:IxR X (rIxL X.K):=by
 intro value slice pn s σ H x y v u Q I rx ry h hs
 obtain ⟨p,xs,i,z,rfl,rfl,hq,he,q⟩:=h
 cases rx
 obtain ⟨t,rfl⟩:=ry
 obtain ⟨its,r,pl,hz⟩:=I.list hq
 obtain ⟨j,h1,h2,h3,h4,h5⟩:=Xw he
 obtain ⟨w,ew,rw'⟩:=r.get h2
 have hl:=r.length
 have hn:=ku
 have fin:EP X pn σ Q w s:=⟨z,H,I,rw',q⟩
 by_cases h0:0 <= i
 ·have hj:i.toNat = j:=by
   rw [seqIndex_of h0 h5] at h1
   exact Option.some.inj h1
  exact item_listR pl.isList h0 (by omega) (by rw [hj]; simpa using ew) fin hs
 ·have hj:(i + (its.toArray.size:Int)).toNat = j:=by
   rw [seqIndex_neg (by omega) h4] at h1
   rw [List.size_toArray,<- hl]
   exact Option.some.inj h1
  exact subscriptTail_builtinR (x:=w) pl.isList.typeIs slot_list_getitem.lookup
   (wpAny_getItem_list_neg (Q:=fun r s'=>r = w /\ EP X pn σ Q r s') pl.isList (by omega) (by rw [List.size_toArray] <;> omega) (by omega) (by rw [hj]; simpa using ew) ⟨rfl,fin⟩) hs
theorem Fc:IxR X (rIxT X.K):=by
 intro value slice pn s σ H x y v u Q I rx ry h hs
 obtain ⟨p,xs,i,z,rfl,rfl,hq,he,q⟩:=h
 cases rx
 obtain ⟨t,rfl⟩:=ry
 obtain ⟨its,r,pl,hz⟩:=I.tuple hq
 obtain ⟨j,h1,h2,h3,h4,h5⟩:=Xw he
 obtain ⟨w,ew,rw'⟩:=r.get h2
 have hl:=r.length
 have hn:=ku
 have fin:EP X pn σ Q w s:=⟨z,H,I,rw',q⟩
 exact subscriptTail_builtinR (x:=w) pl.typeIs slot_tuple_getitem.lookup
  (getItem_tuple (j:=j) (Q:=fun r s'=>r = w /\ EP X pn σ Q r s') pl (by omega) (by omega) (by rw [List.size_toArray,<- hl]; exact h1) (by simpa using ew) ⟨rfl,fin⟩) hs
theorem Fd:IxR X rIxS:=by
 intro value slice pn s σ H x y v u Q I rx ry h hs
 obtain ⟨z,i,c,rfl,rfl,hz,he,q⟩:=h
 obtain ⟨t,rfl⟩:=rx
 obtain ⟨t',rfl⟩:=ry
 obtain ⟨j,h1,h2,h3,h4,h5⟩:=Xw he
 have hl:z.cps.toList.length = z.length:=by simp [Str.length]
 rw [hl] at h1 h4 h5
 have hn:=ku
 exact tail_any (typeIs_str s z t) slot_str_getitem.lookup (getItem_str (c:=c) (by
  have e1:decide (i < -(2 ^ 63:Int)) = false:=decide_eq_false (by omega)
  have e2:decide (i ≥ 2 ^ 63) = false:=decide_eq_false (by omega)
  rw [e1,e2,Bool.or_false]) (by rw [h1]; simpa using h2) ⟨.str ⟨#[c]⟩,H,I.tok _,⟨_,rfl⟩,q⟩) hs
noncomputable def rIx (K:W.Frag):R2:=fun x y H Q=>rIxL K x y H Q \/ rIxT K x y H Q \/ rIxS x y H Q
theorem Fe:IxR X (rIx X.K):=Lz.or (Fc.or Fd)
theorem Vt (its:List Value) (n j:Nat) (u:Value):Obj.mapSeq (·.setIfInBounds j u) { cls:=.type "list", data:=.seq its.toArray n } = { cls:=.type "list", data:=.seq (its.set j u).toArray n }:=by
 simp [Obj.mapSeq]
theorem Inv.lst {pn:List (Addr × Obj)} {σ:St} {H:Hp} {s:Shared} {p:Addr} {xs:List V} (I:Inv X pn σ H s) (h:H p = some (.lst xs)) :
  ∃ (its:List Value) (n:Nat),Vals xs its /\ s.heap.get? p = some { cls:=.type "list", data:=.seq its.toArray n } /\ xs.length <= sizeLine:=by
 obtain ⟨z,its,n,r,e⟩:=I.hok p _ h
 exact ⟨its,n,r,e,z⟩
theorem Inv.lstUpd {pn:List (Addr × Obj)} {σ:St} {H:Hp} {s:Shared} {p:Addr} {xs ys:List V} {its its':List Value} {n n':Nat} {f:Obj->Obj} (I:Inv X pn σ H s) (h:H p = some (.lst xs))
  (ho:s.heap.get? p = some { cls:=.type "list", data:=.seq its.toArray n }) (hf:f { cls:=.type "list", data:=.seq its.toArray n } = { cls:=.type "list", data:=.seq its'.toArray n' }) (r:Vals ys its') (hz:ys.length <= sizeLine) (t:Nat) :
  Inv X pn σ (upd H p (.lst ys)) { s with heap:=s.heap.update p f,toks:=t }:=by
 have e:(s.heap.update p f).get? p = some { cls:=.type "list", data:=.seq its'.toArray n' }:=by
  rw [Heap.get?_update_self f ho (by rw [hf] <;> rfl),hf]
 refine I.write (x:=p) (e:=p) (by rw [h]; trivial) (.inl rfl) (fun b u hb q=>(Heap.get?_update_other _ _ (Ne.symm hb)).trans q) ⟨_,e⟩ ?_
 exact ⟨hz,its',n',r,e⟩
noncomputable def Ei:V->V->V->Hp->(Hp->Prop)->Prop:=fun o i v H Q=>∃ p xs k j,o = .ref p /\ i = .int k /\ H p = some (.lst xs) /\ ixN xs.length k = some j /\ Q (upd H p (.lst (xs.set j v)))
theorem W7:PSet X Ei:=by
 intro pn s σ H o i v ov iv u Q I ro ri rv h
 obtain ⟨p,xs,k,j,rfl,rfl,hp,hj,q⟩:=h
 cases ro
 obtain ⟨t,rfl⟩:=ri
 obtain ⟨its,n,r,ho,hz⟩:=I.lst hp
 obtain ⟨h1,h2,h3,h4⟩:=Sf hj
 have hl:=r.length
 have hn:=ku
 have I':Inv X pn σ (upd H p (.lst (xs.set j v))) { s with heap:=s.heap.update p (Obj.mapSeq (·.setIfInBounds j u)) } :=
  I.lstUpd hp ho (Vt its n j u) (r.set rv j) (by rw [List.length_set]; exact hz) s.toks
 by_cases h0:0 <= k
 ·have hk:k.toNat = j:=by
   rw [seqIndex_of h0 h4] at h1
   exact Option.some.inj h1
  exact W.ki_setAt ho h0 (by omega) (by rw [List.size_toArray,<- hl]; exact h4) (by rw [hk]; exact ⟨_,I',q⟩)
 ·have hk:(k + (its.toArray.size:Int)).toNat = j:=by
   rw [seqIndex_neg (by omega) h3] at h1
   rw [List.size_toArray,<- hl]
   exact Option.some.inj h1
  exact W.ki_setBack ho (by omega) (by rw [List.size_toArray,<- hl]; exact h3) (by omega) (by rw [hk]; exact ⟨_,I',q⟩)
theorem Z3 (lo hi:Option Int) (n:Nat):(sliceBounds lo hi none n).1 = ((HT.sIx n 0 lo:Nat):Int) /\ (sliceBounds lo hi none n).2.1 = ((HT.sIx n n hi:Nat):Int) /\ (sliceBounds lo hi none n).2.2 = 1:=by
 refine ⟨?_,?_,rfl⟩
 ·cases lo with
  | none=>simp [sliceBounds,HT.sIx]
  | some i =>
   simp only [sliceBounds,HT.sIx,Option.getD_none,show (1:Int) > 0 by decide,if_true]
   by_cases h:i < 0
   ·simp only [h,if_true] <;> omega
   ·simp only [h,if_false] <;> omega
 ·cases hi with
  | none=>simp [sliceBounds,HT.sIx]
  | some i =>
   simp only [sliceBounds,HT.sIx,Option.getD_none,show (1:Int) > 0 by decide,if_true]
   by_cases h:i < 0
   ·simp only [h,if_true] <;> omega
   ·simp only [h,if_false] <;> omega
theorem dg (its:List Value) (lo hi:Option Int):slicePick its.toArray lo hi none = ((its.drop (HT.sIx its.length 0 lo)).take (HT.sIx its.length its.length hi - HT.sIx its.length 0 lo)).toArray:=by
 obtain ⟨h1,h2,h3⟩:=Z3 lo hi its.toArray.size
 unfold slicePick
 rw [h1,h2,h3]
 simp only [sliceRange_one,pick_run,List.size_toArray] <;> rfl
noncomputable def rSlL (K:W.Frag):V->Option Int->Option Int->Hp->VK->Prop:=fun x lo hi H Q=>∃ a xs,x = .ref a /\ SqL K H a xs /\ ∀ p,H p = none->Q (.ref p) (upd H p (.lst (cutV xs lo hi)))
theorem Md:SlR X (rSlL X.K):=by
 intro pn s σ H x v vl vu lo hi sl Q I rx hs pl pu h
 obtain ⟨a,xs,rfl,hx,q⟩:=h
 cases rx
 obtain ⟨its,r,ht,hz⟩:=I.list hx
 have hlen:=r.length
 refine ⟨"list", _,slot_list_getitem.lookup,ht.isList.typeIs,?_⟩
 refine wpAny_getItem_list_slice ht.isList hs pl pu .none (by simp) ?_ (by rw [List.size_toArray] <;> omega)
 rw [dg,<- hlen]
 refine ⟨.ref s.heap.objs.size,_,I.laid (t':=s.toks) (o:=.lst (cutV xs lo hi)) (fun b ob q=>Heap.get?_push_of_some _ q) (Nat.le_refl _) ?_,rfl,q _ (I.hok.fresh (Nat.le_refl _))⟩
 exact ⟨Nat.le_trans (jf xs lo hi) hz,_,0,(r.drop (HT.sIx xs.length 0 lo)).take (HT.sIx xs.length xs.length hi - HT.sIx xs.length 0 lo),Heap.get?_push_size _ rfl⟩
theorem Y8:u0 X (.builtin "len") (fun xs H Q=>∃ p ys,xs = [.ref p] /\ (SqL X.K H p ys \/ SqT X.K H p ys) /\ Q (.int ys.length) H):=by
 intro pn s σ H xs us Q I r h
 obtain ⟨p,ys,rfl,hq,q⟩:=h
 obtain ⟨u,rfl,rx⟩:=bx r
 cases rx
 have hn:=ku
 rcases hq with hq | hq
 ·obtain ⟨its,r',pl,hz⟩:=I.list hq
  have hlen:=r'.length
  exact Calls.call_len_list pl.isList (by simp only [List.size_toArray] <;> omega) ⟨.int ys.length,H,I.tok _,⟨s.toks + 1,by rw [List.size_toArray,hlen]⟩,q⟩
 ·obtain ⟨its,r',pl,hz⟩:=I.tuple hq
  have hlen:=r'.length
  exact len_tuple pl (by simp only [List.size_toArray] <;> omega) ⟨.int ys.length,H,I.tok _,⟨s.toks + 1,by rw [List.size_toArray,hlen]⟩,q⟩
theorem Y7:u0 X (.builtin "len") (fun xs H Q=>∃ z,xs = [.str z] /\ z.length <= sizeLine /\ Q (.int z.length) H):=by
 intro pn s σ H xs us Q I r h
 obtain ⟨z,rfl,hz,q⟩:=h
 obtain ⟨u,rfl,t,rfl⟩:=bx r
 have hn:=ku
 exact len_str (by omega) ⟨.int z.length,H,I.tok _,⟨_,rfl⟩,q⟩
theorem u0.or {f:Value} {r r':List V->Hp->VK->Prop} (h:u0 X f r) (h':u0 X f r'):u0 X f (fun xs H Q=>r xs H Q \/ r' xs H Q):=by
 intro pn s σ H xs us Q I rs q
 rcases q with q | q
 ·exact h pn s σ H xs us Q I rs q
 ·exact h' pn s σ H xs us Q I rs q
theorem Y6:u0 X (.type "list") (fun xs H Q=>∃ p ys,xs = [.ref p] /\ (SqL X.K H p ys \/ SqT X.K H p ys) /\ ∀ l,H l = none->Q (.ref l) (upd H l (.lst ys))):=by
 intro pn s σ H xs us Q I r h
 obtain ⟨p,ys,rfl,hq,q⟩:=h
 obtain ⟨u,rfl,rx⟩:=bx r
 cases rx
 have fin:∀ (its:List Value),Vals ys its->ys.length <= sizeLine->∀ (h':Heap) (c':Nat),(∀ b o',s.heap.get? b = some o'->h'.get? b = some o') ->
   h'.get? s.heap.objs.size = some { cls:=.type "list", dict:=none,data:=.seq its.toArray c',slots:=#[] }->EP X pn σ Q (.ref s.heap.objs.size) { s with heap:=h' }:=fun its r' hz h' c' kp e =>
  ⟨.ref s.heap.objs.size,_,I.laid (t':=s.toks) kp (Nat.le_refl _) (show w6 X.prog X.w _ h' _ (.lst ys) from ⟨hz,its,c',r',e⟩),rfl,q _ (I.hok.fresh (Nat.le_refl _))⟩
 rcases hq with hq | hq
 ·obtain ⟨its,r',pl,hz⟩:=I.list hq
  have hlen:=r'.length
  obtain ⟨o,ho,hc,n,hd⟩:=pl.isList
  exact call_list_seq p (.inl rfl) ho hc hd (fun h' c' kp e=>fin its r' hz h' c' kp e) (by simp only [List.size_toArray] <;> omega)
 ·obtain ⟨its,r',pl,hz⟩:=I.tuple hq
  have hlen:=r'.length
  obtain ⟨o,ho,hc,n,hd⟩:=pl
  exact call_list_seq p (.inr rfl) ho hc hd (fun h' c' kp e=>fin its r' hz h' c' kp e) (by simp only [List.size_toArray] <;> omega)
noncomputable def tyV (K:W.Frag) (T:String) (x:V) (H:Hp):Prop:=match x with
 | .str _=>T = "str"
 | .int _=>T = "int"
 | .ref p=>(T = "list" /\ ∃ xs,SqL K H p xs) \/ (T = "tuple" /\ ∃ o,K.lookup p = some o /\ o.cls = .type "tuple" /\ o.dict = none) \/
   (T = "dict" /\ ((∃ kvs,H p = some (.dK kvs)) \/ ∃ kvs,H p = some (.dT kvs))) \/ (T = "set" /\ ∃ S n,H p = some (.set S n))
 | _=>False
theorem J4 {pn:List (Addr × Obj)} {σ:St} {H:Hp} {s:Shared} {T:String} {x:V} {v:Value} (I:Inv X pn σ H s) (r:RelV x v) (ty:tyV X.K T x H) :
  s.TypeIs v T /\ ∀ a,v = .ref a->∃ ob,s.heap.get? a = some ob /\ ob.dict = none:=by
 cases x with
 | str z =>
  obtain ⟨t,rfl⟩:=r
  cases (show T = "str" from ty)
  exact ⟨typeIs_str s z t,fun _ e=>nomatch e⟩
 | int i =>
  obtain ⟨t,rfl⟩:=r
  cases (show T = "int" from ty)
  exact ⟨typeIs_int s i t,fun _ e=>nomatch e⟩
 | ref p =>
  cases r
  rcases ty with ⟨rfl,xs,hq⟩ | ⟨rfl,o,hk,hc,hd⟩ | ⟨rfl,hk⟩ | ⟨rfl,S,n,hk⟩
  ·obtain ⟨its,_,pl,_⟩:=I.list hq
   refine ⟨pl.isList.typeIs,fun a e=>?_⟩
   cases e
   obtain ⟨o,n,e,c,hd,_⟩:=pl
   exact ⟨o,e,hd⟩
  ·refine ⟨⟨o,I.kIn p o hk,hc⟩,fun a e=>?_⟩
   cases e
   exact ⟨o,I.kIn _ o hk,hd⟩
  ·have z:∃ o,s.heap.get? p = some o /\ o.ExactDict:=by
    rcases hk with ⟨kvs,hk⟩ | ⟨kvs,hk⟩
    ·obtain ⟨_,_,_,_,o,_,_,e,ex,_⟩:=I.hok p _ hk
     exact ⟨o,e,ex⟩
    ·obtain ⟨_,_,_,_,o,_,_,e,ex,_⟩:=I.hok p _ hk
     exact ⟨o,e,ex⟩
   obtain ⟨o,e,ex⟩:=z
   refine ⟨⟨o,e,ex.1⟩,fun a e2=>?_⟩
   cases e2
   exact ⟨o,e,ex.2.1⟩
  ·obtain ⟨o,_,_,_,e,ex,_⟩:=I.hok p _ hk
   refine ⟨⟨o,e,ex.1⟩,fun a e2=>?_⟩
   cases e2
   exact ⟨o,e,ex.2.1⟩
 | _=>exact False.elim ty
noncomputable def tBM (K:W.Frag) (T:String) (r:V->List V->Hp->VK->Prop) (to:TE) (t:TA):TE:=fun σ H Q=>to σ H fun x H1=>tyV K T x H1 /\ t σ H1 fun xs H2=>r x xs H2 Q
variable {o e:Expr} {es:List Expr} {to:TE} {t:TA} {name:Str} {apos cpos:Pos} {T id:String} {r:V->List V->Hp->VK->Prop}
theorem Ep (pa:PlainAttrs T) (slot:Slot T name id) (hty:typeOf (.builtin id) = pure (.type "method_descriptor")) (hm:MtR X id r) (ho:PE X o to) (ha:PA X (e :: es) t)
  (hbase:attributeBase o name X.env (eval o X.env) = eval o X.env:=by rfl)
  (hfew:((backTo cpos (starEach (e :: es) X.env)).all (fun x=>!x.1) && (backToKw cpos (keywordEach [] X.env)).all (fun x=>x.1.isSome)
   && decide ((e :: es).length + ([]:List Keyword).length + (if ([]:List Keyword).isEmpty then 0 else 1) < 30)) = true:=by rfl)
  (hline:(apos.endLine == cpos.line) = true:=by rfl) (hs:starEach (e :: es) X.env = (false,eval e X.env) :: starEach es X.env:=by rfl) (hplain:(backTo cpos (starEach es X.env)).any (·.1) = false:=by rfl) :
  PE X (.Call (.Attribute o name apos) (e :: es) [] cpos) (tBM X.K T r to t):=by
 intro pn s σ H Q I h
 refine wpAny_Call_method_late hbase hfew hline rfl (thn (ho pn s σ H _ I h) fun v s1 ⟨x,H1,I1,r1,ty,q1⟩=>?_)
 obtain ⟨h1,h2⟩:=J4 I1 r1 ty
 refine ⟨T,id,pa,slot,hty,h1,h2,?_⟩
 have hA:=ha cpos pn s1 σ H1 _ I1 q1
 rw [hs] at hA ⊢
 refine Calls.callWith_builtin (by show (false || (backTo cpos (starEach es X.env)).any (·.1)) = false; rw [hplain] <;> rfl) (Calls.evalArgs_plain ?_)
 exact thn hA fun us s2 ⟨vs,H2,I2,r2,q2⟩=>hm pn s2 σ H2 x vs v us Q I2 r1 r2 q2
end
noncomputable def MtM (X:Cx) (id:String) (r:V->List V->Hp->VK->Prop):Prop :=
 ∀ (pn:List (Addr × Obj)) (s:Shared) (σ:St) (H:Hp) (x:V) (xs:List V) (v:Value) (us:List Value) (Q:VK),Inv X pn σ H s->RelV x v->Vals xs us->r x xs H Q ->
  wpAny (model X.prog X.w) X.A (call (.builtin id) (v :: us)) (EP X pn σ Q) X.xe s
theorem Vals.one:∀ {x:V} {us:List Value},Vals [x] us->∃ u,us = [u] /\ RelV x u
 | _,_,.cons r .nil=>⟨_,rfl,r⟩
theorem Vals.rep {xs:List V} {us:List Value} (h:Vals xs us):∀ k:Nat,Vals (List.replicate k xs).flatten (List.replicate k us).flatten
 | 0=>.nil
 | k + 1=>by
  rw [List.replicate_succ,List.replicate_succ,List.flatten_cons,List.flatten_cons]
  exact Vals.append h (Vals.rep h k)
theorem Zu (its:List Value):∀ (k:Nat) (acc:List Value),
  List.foldl (fun x1 x2=>x1 ++ x2) acc.toArray (List.replicate k its.toArray) = (acc ++ (List.replicate k its).flatten).toArray
 | 0,acc=>by simp
 | k + 1,acc=>by
  have e:acc.toArray ++ its.toArray = (acc ++ its).toArray:=by simp
  have e2:(acc ++ its) ++ (List.replicate k its).flatten = acc ++ (List.replicate (k + 1) its).flatten:=by
   rw [List.replicate_succ,List.flatten_cons,List.append_assoc]
  rw [<- e2,<- Zu its k (acc ++ its),<- e,List.replicate_succ,List.foldl_cons]
section
variable {X:Cx} {pn:List (Addr × Obj)} {σ:St} {H:Hp} {s:Shared} {l b:Addr} {xs ys zs:List V}
theorem Inv.lset {its its':List Value} {n:Nat} {f:Array Value->Array Value} {t':Nat} (I:Inv X pn σ H s) (hH:H l = some (.lst xs))
  (e:s.heap.get? l = some { cls:=.type "list", data:=.seq its.toArray n }) (hf:f its.toArray = its'.toArray) (hv:Vals ys its') (hz:ys.length <= sizeLine) :
  Inv X pn σ (upd H l (.lst ys)) { s with heap:=s.heap.update l (Obj.mapSeq f),toks:=t' }:=by
 have q:=PySem.IsL.update e f
 rw [hf] at q
 refine I.write (x:=l) (e:=l) (by rw [hH]; exact trivial) (.inl rfl) (fun b' u hb hu=>(Heap.get?_update_other s.heap (Obj.mapSeq f) (Ne.symm hb)).trans hu) ⟨_,q⟩ ?_
 exact ⟨hz,its',_,hv,q⟩
theorem Inv.lnew {its:List Value} {t':Nat} (I:Inv X pn σ H s) (hv:Vals ys its) (hz:ys.length <= sizeLine) :
  Inv X pn σ (upd H s.heap.objs.size (.lst ys)) { s with heap:=s.heap.push { cls:=.type "list", data:=.seq its.toArray },toks:=t' } :=
 I.laid (fun _ _ q=>Heap.get?_push_of_some _ q) (Nat.le_refl _) ⟨hz,its,0,hv,Heap.get?_push_size _ rfl⟩
theorem Inv.fresh (I:Inv X pn σ H s):H s.heap.objs.size = none:=I.hok.fresh (Nat.le_refl _)
theorem Inv.lstM (I:Inv X pn σ H s) (hH:H l = some (.lst xs)):xs.length <= sizeLine /\ ∃ (its:List Value) (n:Nat),Vals xs its /\ xs.length = its.length /\ s.heap.get? l = some { cls:=.type "list", data:=.seq its.toArray n }:=by
 obtain ⟨z,its,n,r,e⟩:=I.hok l _ hH
 exact ⟨z,its,n,r,r.length,e⟩
theorem Pg {n:Nat} (h:n <= sizeLine):Builtin.List.listTooLong n = false:=by
 unfold Builtin.List.listTooLong
 exact decide_eq_false (by omega)
end
section
variable {X:Cx}
noncomputable def Td:V->List V->Hp->VK->Prop:=fun x vs H Q=>∃ l xs y,x = .ref l /\ vs = [y] /\ H l = some (.lst xs) /\ xs.length < sizeLine /\ Q .non (upd H l (.lst (xs ++ [y])))
theorem Ze:MtM X "list.append" Td:=by
 intro pn s σ H x vs v us Q I rx rv h
 obtain ⟨l,xs,y,rfl,rfl,hH,hz,q⟩:=h
 cases rx
 obtain ⟨u,rfl,ru⟩:=rv.one
 obtain ⟨z,its,n,r,hl,e⟩:=I.lstM hH
 refine call_meets F.slot_list_append ⟨_,e,rfl⟩ F.entry_list_append (F.args_list_append_2 _ _) (PySem.list_append l its.toArray n u (by rw [List.size_toArray]; omega)) ⟨e,?_⟩
 refine ⟨.non,_,I.lset (its':=its ++ [u]) hH e (by simp) (r.append (.cons ru .nil)) ?_,rfl,q⟩
 rw [List.length_append,List.length_singleton]
 omega
noncomputable def rCat:R2:=fun x y H Q=>∃ l b xs zs,x = .ref l /\ y = .ref b /\ H l = some (.lst xs) /\ H b = some (.lst zs) /\ xs.length + zs.length <= sizeLine /\ ∀ p,H p = none->Q (.ref p) (upd H p (.lst (xs ++ zs)))
theorem Gg:OpR X (binaryOp .Add) rCat:=by
 intro pn s σ H x y v u Q I rx ry h
 obtain ⟨l,b,xs,zs,rfl,rfl,hH,hB,hz,q⟩:=h
 cases rx
 cases ry
 obtain ⟨z,its,n,r,hl,e⟩:=I.lstM hH
 obtain ⟨z2,its2,n2,r2,hl2,e2⟩:=I.lstM hB
 refine PySem.P.add_list e e2 ?_ (by rw [List.size_toArray,List.size_toArray]; omega)
 have ea:its.toArray ++ its2.toArray = (its ++ its2).toArray:=by simp
 rw [ea]
 exact ⟨.ref _,_,I.lnew (t':=s.toks) (r.append r2) (by rw [List.length_append]; omega),rfl,q _ I.fresh⟩
noncomputable def rRep:R2:=fun x y H Q=>∃ l k xs,x = .ref l /\ y = .int k /\ H l = some (.lst xs) /\ -(2 ^ 63) <= k /\ k < 2 ^ 63 /\ xs.length * k.toNat <= sizeLine /\
 ∀ p,H p = none->Q (.ref p) (upd H p (.lst (List.replicate k.toNat xs).flatten))
theorem Lw {α:Type} (xs:List α) (k:Nat):(List.replicate k xs).flatten.length = k * xs.length:=by
 induction k with
 | zero=>simp
 | succ k ih=>rw [List.replicate_succ,List.flatten_cons,List.length_append,ih,Nat.succ_mul,Nat.add_comm]
theorem Ga:OpR X (binaryOp .Mult) rRep:=by
 intro pn s σ H x y v u Q I rx ry h
 obtain ⟨l,k,xs,rfl,rfl,hH,h1,h2,hz,q⟩:=h
 cases rx
 obtain ⟨t,rfl⟩:=ry
 obtain ⟨z,its,n,r,hl,e⟩:=I.lstM hH
 have hlen:its.toArray.size * k.toNat <= sizeLine:=by rw [List.size_toArray,<- hl]; exact hz
 have hcap:¬ its.toArray.size * k.toNat > (2 ^ 63 - 1) / 8:=by
  have:(sizeLine:Nat) <= (2 ^ 63 - 1) / 8:=by decide
  omega
 have hfit:¬ (!Builtin.List.listFitsIndex k) = true:=by
  rw [fitsIndex_both h1 h2]
  exact Bool.false_ne_true
 have hlong:¬ Builtin.List.listTooLong (its.toArray.size * k.toNat) = true:=by
  rw [Pg hlen]
  exact Bool.false_ne_true
 have hnew:List.foldl (fun x1 x2=>x1 ++ x2) #[] (List.replicate (if its.toArray.isEmpty = true then 0 else k.toNat) its.toArray) = (List.replicate k.toNat its).flatten.toArray:=by
  have f0:∀ m:Nat,List.foldl (fun x1 x2=>x1 ++ x2) #[] (List.replicate m its.toArray) = (List.replicate m its).flatten.toArray:=fun m=>by
   have:=Zu its m []
   rw [List.nil_append] at this
   exact this
  rw [f0]
  cases its with
  | nil=>simp
  | cons a r'=>rw [if_neg (by simp)]
 refine wpAny_binaryOp_repeat_ref (T:="list") (U:="int") (by decide) ⟨_,e,rfl⟩ (fun s'=>typeIs_int s' k t) noFill_list_mul F.fills_int_mul F.slot_int_rmul repeat_list F.slot_int_index.lookup
  (call_meets F.slot_int_rmul (typeIs_int s k t) F.entry_int_rmul (F.args_int_rmul_2 _ _) (int___rmul___int_list k t l its.toArray n)
   ⟨e,rfl,⟨_,e,rfl⟩,call_meets F.slot_list_mul ⟨_,e,rfl⟩ F.entry_list_mul (F.args_list_mul_2 _ _) (AutoListH.list___mul___list_int_3 l its.toArray n k t hfit hcap hlong) ⟨e,?_⟩⟩)
 rw [hnew]
 exact ⟨.ref _,_,I.lnew (t':=s.toks) (r.rep k.toNat) (by rw [Lw,Nat.mul_comm]; exact hz),rfl,q _ I.fresh⟩
end
end L2
namespace Att
open PySem PySem.W PySem.Calls PyProof.Rows
theorem j7 {P:Params} {h:Heap}:∀ (ns:List Int) (vs:List Value),WellAll P h vs (ns.map WData.int)->IntsAre vs ns:=by
 intro ns
 induction ns with
 | nil =>
  intro vs w
  rw [List.map_nil] at w
  cases w
  exact .nil
 | cons n ns ih =>
  intro vs w
  rw [List.map_cons] at w
  cases w with
  | cons a b =>
   cases a
   exact .cons _ _ (ih _ b)
theorem T5 {l:OpenLaw} {n:Nat} (hn:l.most = some n) {P:Params} {h:Heap} {args:List WData} {vals:List Value}
  (hpre:l.row.toRowW.claim.pre args = true) (hwl:WellAll P h vals args) :
  ∃ a vs ns,vals = [Value.ref a] /\ args = [WData.list (ns.map WData.int)] /\ h.get? a = some { cls:=.type "list", data:=.seq vs.toArray } /\ IntsAre vs ns /\ ns.length <= n:=by
 have hsh:WShape.hasAll [] args [.list .int] = true:=(pre_splitW hpre).1
 have hc:l.pre.holds [] { args:=args } = true:=(pre_splitW hpre).2
 obtain ⟨d,r,rfl,h1,h2⟩:=hasAllW_cons hsh
 obtain rfl:=hasAllW_nil h2
 obtain ⟨xs,rfl,h3⟩:=hasW_list h1
 obtain ⟨ns,rfl⟩:=items_int h3
 have hlen:ns.length <= n:=by
  unfold OpenLaw.pre at hc
  have h4:(WTm.not (.lt (.lit (.int (n:Int))) (.len (.arg 0)))).holds [] { args:=[.list (ns.map .int)] } = true:=by
   have h4:=(holds_andW hc).1
   rw [hn] at h4
   exact h4
  have h5:=condW_of h4 (w_not (w_lt w_lit (w_len_list (w_arg rfl))))
  rw [List.length_map] at h5
  refine Nat.le_of_not_lt fun q=>?_
  have q':(n:Int) < ((ns.length:Nat):Int):=by omega
  first
   | (rw [decide_eq_true q'] at h5; exact absurd h5 (by decide))
   | (simp at h5; omega)
 cases hwl with
 | cons w1 w2 =>
  cases w2
  cases w1 with
  | list ho hall=>exact ⟨_,_,ns,rfl,rfl,ho,j7 ns _ hall,hlen⟩
theorem Th (l:OpenLaw) (args:List WData):l.row.toRowW.claim.post args (.bool true) args = true :=
 postW_of (r:=l.row.toRowW) (X:=(true == true))
  (show WShape.has [] (.bool true) .bool = true by first | rfl | decide | simp [WShape.has,WShape.arms,WShape.armsAll])
  (show (WTm.eq .res (.lit (.bool true))).value [] { args:=args,res:=some (.bool true),after:=args } = some (.bool (true == true)) from w_eq_bool (w_res rfl) w_lit) rfl
theorem attach_call {l:OpenLaw} {n:Nat} {q:Program} {loose:List Str} {XP:(Str->Option Value)->Heap->Prop} {YP:World->Heap->Prop} {d:DefRec}
  (hn:l.most = some n) (hdf:d.params.defaults = [])
  (call:∀ (w:World) (s₀ s₁:Shared) (mg mb:Str->Option Value) (fa:Addr) (o:Obj) (pm cd doc:Value) (a:Addr) (vs:List Value) (ns:List Int),
   Ground q loose [] XP w s₀ mg mb s₁.heap->YP w s₁.heap ->
   s₁.heap.get? fa = some o->o.data = .func (docDef d.name d.params d.body d.scope pm cd doc)->s₁.heap.CodeRec cd d.name->mg d.name = some (.ref fa) ->
   s₁.heap.get? a = some { cls:=.type "list", data:=.seq vs.toArray }->IntsAre vs ns->ns.length <= n->s₁.gens = #[] ->
   codeAny (model l.prog w) callerA (.call (.ref fa) ⟨[.ref a],[]⟩) (fun r s'=>r = .ok (.ret (.bool true)) /\ OldK s₁.heap s'.heap /\ s'.os = s₁.os /\ AllBare s'.gens) s₁) :
  WalkO q loose XP YP l.row.toRowW d [] (fun f vs=>PySem.call f vs):=by
 intro w s₀ s₁ mg mb G Y fa o pm cd doc dV kV ho hd hcd hD hmg hg args vals as hpre hlay hrd hwl hlo
 obtain rfl:dV = .none:=Dflts.none hD hdf
 obtain rfl:kV = .none:=Dflts.noKw hD
 obtain ⟨a,vs,ns,rfl,rfl,hobj,hints,hlen⟩:=T5 hn hpre hwl
 refine enter_call (codeAny_mono (call w s₀ s₁ mg mb fa o pm cd doc a vs ns G Y ho (fd_plain hd) hcd hmg hobj hints hlen hg) fun r s' hq=>?_)
 obtain ⟨rfl,h2,h3,h4⟩:=hq
 exact ⟨.inl ⟨.bool true,.bool true,[],rfl,fun _=>rfl,.bool true,Th l _,fun _=>⟨List.Pairwise.nil,fun _ hm=>(nomatch hm)⟩⟩,h2,h3,h4⟩
end Att
namespace L2
open PySem PySem.Spec PyProof.Rows
theorem bw:∀ {vs:List Value} {ns:List Int},IntsAre vs ns->Vals (ns.map V.int) vs
 | _,_,.nil=>.nil
 | _,_,.cons n t h=>.cons ⟨t,rfl⟩ (bw h)
noncomputable def Only (H:Hp):Prop:=∀ b,H b = none \/ ∃ o xs,H b = some (.frz o (.lst xs))
theorem Pt {P:Program} {w:World} {K:W.Frag} {mg mb:Str->Option Value} {CX:CXT} {k:Nat} {fa a:Addr} {fd:FuncData} {x:Str} {sp:Sp} {s₁:Shared} {vs:List Value} {ns:List Int}
  (KX:K.In s₁.heap) (hns:s₁.heap.Ns mainGlobals mg) (hb:s₁.heap.Ns builtinsNs mb) (hbb:∀ x:Str,x ≠ "__name__"->mb x = bootBuiltins x) (hlim:s₁.heap.NoLimit) (hg:s₁.gens = #[])
  (ha:s₁.heap.get? a = some { cls:=.type "list", data:=.seq vs.toArray }) (hi:IntsAre vs ns) (hl:ns.length <= sizeLine) (hr:Room k callerA)
  (F:∀ base:Heap,K.In base->base.Ns mainGlobals mg->FnOk P w K mg base CX k fa fd [x] sp) (hbind:∀ (s:Shared) (u:Value),BindsTo s fd ⟨[u],[]⟩ [(x,u)])
  (hsp:∀ H:Hp,Only H->SqL K H a (ns.map V.int)->sp [.ref a] H (fun v _=>v = .bl true) fun _ _ _=>False)
  (hCX:∀ H e s',CX [] H s₁ (fun _ _ _=>False) e s'->False) :
  codeAny (model P w) callerA (.call (.ref fa) ⟨[.ref a],[]⟩) (fun r s'=>r = .ok (.ret (.bool true)) /\ OldK s₁.heap s'.heap /\ s'.os = s₁.os /\ AllBare s'.gens) s₁:=by
 have rv:=bw hi
 have lenV:=hi.length
 have core:∀ H:Hp,Only H->SqL K H a (ns.map V.int)->HOk P w H s₁.heap->(∀ b,H b ≠ none->b = a)->(H a ≠ none->K.lookup a = none) ->
   codeAny (model P w) callerA (.call (.ref fa) ⟨[.ref a],[]⟩) (fun r s'=>r = .ok (.ret (.bool true)) /\ OldK s₁.heap s'.heap /\ s'.os = s₁.os /\ AllBare s'.gens) s₁:=by
  intro H hO hS hok hA hK
  have base_of:∀ {b:Addr} {o:Obj},s₁.heap.get? b = some o->H b = none->(hidT s₁.heap H).get? b = some o:=fun e n=>O2 e n
  have noA:∀ {b:Addr} {o:Obj} {es:Array DictEntry} {ep:Nat},s₁.heap.get? b = some o->o.data = .dict es ep->H b = none:=fun {b o es ep} e d=>by
   cases q:H b with
   | none=>rfl
   | some u =>
    have e':b = a:=hA b (by rw [q]; simp)
    subst e'
    rw [ha] at e; cases e
    have d':Data.seq vs.toArray _ = Data.dict es ep:=d
    cases d'
  have nsK:∀ {b:Addr} {m:Str->Option Value},s₁.heap.Ns b m->(hidT s₁.heap H).Ns b m:=fun {b m} ⟨o,es,ep,e,d,r⟩=>⟨o,es,ep,base_of e (noA e d),d,r⟩
  have hKb:K.In (hidT s₁.heap H):=fun b o e=>base_of (KX b o e) (by
   cases q:H b with
   | none=>rfl
   | some u =>
    have e':b = a:=hA b (by rw [q]; simp)
    subst e'
    rw [hK (by rw [q]; simp)] at e; cases e)
  have hM:Mod K mg (hidT s₁.heap H):=⟨hKb,nsK hns,⟨mb,nsK hb,hbb⟩,let ⟨mc,h1,h2⟩:=hlim; ⟨mc,nsK h1,h2⟩⟩
  have e0:Env0 P w K mg (hidT s₁.heap H) callerA [] s₁ H:=⟨rfl,hM,fun b o e=>Lm e,Nat.le_of_eq (Sm _ _),trivial,fun b hb=>absurd (show b ∈ ([]:List Addr) from hb) (by simp),hok,.of_eq hg⟩
  refine codeAny_mono ((F _ hKb (nsK hns)).run callerA [] s₁ H ⟨[.ref a],[]⟩ [.ref a] [.ref a] _ _ hr e0 (hbind s₁ (.ref a)) (.cons rfl .nil) (hsp H hO hS)) fun r s' h=>?_
  cases r with
  | error e=>exact (hCX H e s' h).elim
  | ok fl =>
   cases fl with
   | next=>exact False.elim h
   | brk=>exact False.elim h
   | cont=>exact False.elim h
   | ret u =>
    obtain ⟨v,H',os,bare,un,hok',r',q⟩:=h
    have q':v = .bl true:=q
    subst q'
    obtain rfl:u = Value.bool true:=r'
    refine ⟨rfl,OldK.of_keep fun b o e=>?_,os,bare⟩
    cases q:H b with
    | none=>exact un.keep b o e q (by intro z; exact absurd (show b ∈ ([]:List Addr) from z) (by simp)) (by simp)
    | some u =>
     rcases hO b with z | ⟨ob,xs,z⟩
     ·rw [q] at z; cases z
     ·have z2:=un.frzs b ob _ z
      obtain ⟨e1,_⟩:=hok b _ z
      obtain ⟨e2,_⟩:=hok' b _ z2
      rw [e] at e1; cases e1
      exact e2
 cases hk:K.lookup a with
 | some o =>
  have e:=KX a o hk
  rw [ha] at e
  cases e
  refine core (fun _=>none) (fun _=>.inl rfl) (.inr ⟨_,vs.toArray,_,hk,rfl,rfl,rfl,by rw [List.size_toArray,lenV]; exact hl,by simpa using rv⟩) (fun b u z=>by have z':(none:Option HO) = some u:=z; cases z') (fun b z=>absurd rfl z) fun z=>absurd rfl z
 | none =>
  refine core (fun b=>if b = a then some (.frz { cls:=.type "list", data:=.seq vs.toArray } (.lst (ns.map V.int))) else none) (fun b=>?_) (.inl (.inr ⟨{ cls:=.type "list", data:=.seq vs.toArray },if_pos rfl⟩)) (fun b u z=>?_) (fun b z=>?_) fun _=>hk
  ·by_cases hb:b = a
   ·exact .inr ⟨_,_,if_pos hb⟩
   ·exact .inl (if_neg hb)
  ·by_cases hb:b = a
   ·have z':=(if_pos hb).symm.trans z
    cases z'
    subst hb
    exact ⟨ha,by rw [List.length_map]; exact hl,vs,_,rv,ha⟩
   ·have z':=(if_neg hb).symm.trans z
    cases z'
  ·by_cases hb:b = a
   ·exact hb
   ·exact absurd (if_neg hb) z
noncomputable abbrev KOf {K:W.Frag} {h:Heap} (_:K.In h):W.Frag:=K
theorem walk_of {l:W.OpenLaw} {n k:Nat} {q:Program} {loose:List Str} {XP:(Str->Option Value)->Heap->Prop} {YP:World->Heap->Prop} {d:DefRec} {K:Params->W.Frag} {CX:World->CXT} {sp:World->Sp} {x:Str}
  (hn:l.most = some n) (hn2:n <= sizeLine) (hdf:d.params.defaults = []) (hr:Room k callerA)
  (hY:∀ (w:World) (h:Heap),YP w h->(K w.params).In h)
  (F:∀ (w:World) (mg:Str->Option Value) (fa:Addr) (h:Heap),(K w.params).In h->h.Ns mainGlobals mg->mg d.name = some (.ref fa) ->
   ∃ fd:FuncData,(∀ (s:Shared) (u:Value),BindsTo s fd ⟨[u],[]⟩ [(x,u)]) /\
    ∀ base:Heap,(K w.params).In base->base.Ns mainGlobals mg->FnOk l.prog w (K w.params) mg base (CX w) k fa fd [x] (sp w))
  (hsp:∀ (w:World) (H:Hp) (a:Addr) (ns:List Int),ns.length <= n->Only H->SqL (K w.params) H a (ns.map V.int)->sp w [.ref a] H (fun v _=>v = .bl true) fun _ _ _=>False)
  (hCX:∀ (w:World) (H:Hp) (s:Shared) (e:Value) (s':Shared),CX w [] H s (fun _ _ _=>False) e s'->False) :
  W.WalkO q loose XP YP l.row.toRowW d [] (fun f vs=>PySem.call f vs):=by
 refine Att.attach_call hn hdf fun w s₀ s₁ mg mb fa o pm cd doc a vs ns G Y ho hd hcd hmg hobj hints hlen hg=>?_
 have KX:=hY w _ Y
 obtain ⟨fd,hb,hF⟩:=F w mg fa _ KX G.T.g hmg
 exact Pt KX G.T.g G.T.b G.T.builtins G.T.nolimit hg hobj hints (Nat.le_trans hlen hn2) hr hF hb (fun H hO hS=>hsp w H a ns hlen hO hS) fun H e s'=>hCX w H s₁ e s'
end L2
namespace L2
open PySem PySem.Spec PyProof.Rows
noncomputable def x9 (s:Stmt) (j:Nat):Stmt:=match s with
 | .ClassDef _ _ _ body _ _ _ _ _ _ _=>body.getD j (.Pass ⟨0,0,0,0⟩)
 | _=>.Pass ⟨0,0,0,0⟩
noncomputable def vn (s:Stmt):Arguments:=match s with
 | .FunctionDef _ a _ _ _ _ _ _ _ _=>a
 | _=>{ posonlyargs:=[],args:=[],vararg:=none,kwonlyargs:=[],kw_defaults:=[],kwarg:=none,defaults:=[] }
noncomputable def yt (s:Stmt):List Stmt:=match s with
 | .FunctionDef _ _ b _ _ _ _ _ _ _=>b
 | _=>[]
noncomputable def zb (s:Stmt):Scope:=match s with
 | .FunctionDef _ _ _ _ _ _ sc _ _ _=>sc
 | _=>{ kind:=.function,names:=[],isGenerator:=false,isCoroutine:=false }
noncomputable abbrev CX0:CXT:=fun _ _ _ _ _ _=>False
noncomputable abbrev E0:XK:=fun _ _ _=>False
theorem Yr {X:Cx}:jt CX0 X E0:=fun _ _ _ _ _ _ _ h=>h.elim
structure Fun (K:W.Frag) (x qual:Str) (st:Stmt) (f:Addr) (fd:FuncData):Prop where
 ex:∃ (oc:Value) (od:Option Addr) (kV doc pm:Value) (an:Option Addr) (qZ ct:Value) (osl:Array (Option Value)),
  fd = W.fnOf x qual (vn st) (yt st) (zb st) .none kV doc pm an qZ ct /\ K.lookup f = some ⟨oc,od,.func fd,osl⟩ /\ W.codeIn K qZ qual = true
 kp:W.keepIn K (.ref f) = true
section
variable {P:Program} {w:World} {K:W.Frag} {mg:Str->Option Value} {base:Heap}
theorem Fun.ok {x qual:Str} {st:Stmt} {f:Addr} {fd:FuncData} {N ps:List Str} {k:Nat} {sp:Sp} (F:Fun K x qual st f fd) (S:zp N ps (zb st)) (len:∀ vs H Q E,sp vs H Q E->vs.length = ps.length)
  (qY:∀ (qZ:Value) (A:Around) (outer:List Env) (s:Shared) (H:Hp) (vs:List V) (Q:VK) (E:XK),Room k (A.deeper (envOfC qual (zb st) s.heap.objs.size f qZ))->sp vs H Q E ->
   ∃ t,PSs (cxOf CX0 P w K mg base N qual (zb st) f qZ A outer s H E).nox (yt st) t /\ t { nx:=fun _ H'=>Q .non H',rt:=Q } (start N vs) H):FnOk P w K mg base CX0 (k + 1) f fd ps sp:=by
 obtain ⟨oc,od,kV,doc,pm,an,qZ,ct,osl,rfl,lk,hcd⟩:=F.ex
 refine Fq lk hcd S len fun A outer s H vs Q E hr hsp=>?_
 obtain ⟨t,h,q⟩:=qY qZ A outer s H vs Q E hr hsp
 exact ⟨t,h.nox,q⟩
theorem Fun.binds {x qual:Str} {st:Stmt} {f:Addr} {fd:FuncData} {ps:List Str} (F:Fun K x qual st f fd)
  (h:∀ (kV doc pm:Value) (an:Option Addr) (qZ ct:Value) (us:List Value),us.length = ps.length->bindArgs (W.fnOf x qual (vn st) (yt st) (zb st) .none kV doc pm an qZ ct) ⟨us,[]⟩ = pure (ps.zip us)):vf K fd ps []:=by
 obtain ⟨oc,od,kV,doc,pm,an,qZ,ct,osl,rfl,lk,hcd⟩:=F.ex
 exact .all (h kV doc pm an qZ ct)
theorem Nq {x qual:Str} {st:Stmt} {f:Addr} {oc:Value} {od an:Option Addr} {osl:Array (Option Value)} {kV doc pm qZ ct:Value} (l:K.lookup f = some ⟨oc,od,.func (W.fnOf x qual (vn st) (yt st) (zb st) .none kV doc pm an qZ ct),osl⟩)
  (c:W.codeIn K qZ qual = true) (k:W.keepIn K (.ref f) = true):Fun K x qual st f (W.fnOf x qual (vn st) (yt st) (zb st) .none kV doc pm an qZ ct):=⟨⟨oc,od,kV,doc,pm,an,qZ,ct,osl,rfl,l,c⟩,k⟩
end
section
variable {X:Cx}
theorem pv (i:Nat) {x:Str} {pos:Pos} (hN:X.N[i]? = some x:=by rfl) (hv:Vis X.env.scope x:=by first | exact Or.inl rfl | exact Or.inr (Or.inl rfl) | exact Or.inr (Or.inr rfl)) (hd:(x == ("__debug__" : Str)) = false:=by decide)
  (hcd:(x == ("__classdict__" : Str)) = false:=by decide):PE X (.Name x pos) (tVar i):=Zb hN hv hd hcd
end
theorem iteF {A B:Prop} (h:B):if false = true then A else B:=by
 rw [if_neg Bool.false_ne_true]
 exact h
theorem iteT {A B:Prop} (h:A):if true = true then A else B:=by
 rw [if_pos rfl]
 exact h
noncomputable def Same (H H':Hp):Prop:=∀ b o,H b = some o->H' b = some o
theorem Same.refl (H:Hp):Same H H:=fun _ _ h=>h
theorem Same.trans {H H1 H2:Hp} (a:Same H H1) (b:Same H1 H2):Same H H2:=fun c o h=>b c o (a c o h)
theorem Same.free {H H':Hp} (e:Same H H') {l:Addr} (h:H' l = Option.none):H l = Option.none:=by
 cases q:H l with
 | none=>rfl
 | some o =>
  rw [e l o q] at h
  cases h
end L2
namespace L3
open PySem PySem.Spec L2
open PyProof.Rows hiding St
theorem Sr {α β:Type} {f:α->β->Sem (ForInStep β)} (R:List α->β->Prop) (h:∀ x l c,R (x :: l) c->∃ c',f x c = pure (.yield c') /\ R l c') :
  ∀ (l:List α) (c:β),R l c->∃ c',forIn l c f = pure c' /\ R [] c'
 | [],c,r=>⟨c,rfl,r⟩
 | x :: l,c,r=>by
  obtain ⟨c1,e,r1⟩:=h x l c r
  obtain ⟨c2,e2,r2⟩:=Sr R h l c1 r1
  exact ⟨c2,by rw [List.forIn_cons,e,pure_bind]; exact e2,r2⟩
theorem Xu {env:Env} {x:Str} {c:Addr} (h:env.cells.lookup x = some c):cellOf env x = pure c:=by
 unfold cellOf
 rw [h]
theorem fo {scope:Scope} {env:Env} (h:∀ y ∈ scope.names,y.2 = .free->∃ c,env.cells.lookup y.1 = some c) :
  ∃ cl,closureFor scope env = pure cl /\ (∀ x c,cl.lookup x = some c->env.cells.lookup x = some c) /\ ∀ y ∈ scope.names,y.2 = .free->∃ c,cl.lookup y.1 = some c:=by
 let f:Str × NameKind->List (Str × Addr)->Sem (ForInStep (List (Str × Addr))):=fun x r=>match x with
  | (name,kind)=>if (kind == .free) = true then (do let a <- cellOf env name; pure (.yield ((name,a) :: r))) else pure (.yield r)
 have q:=Sr (f:=f) (fun rem cs=>(∀ x c,cs.lookup x = some c->env.cells.lookup x = some c) /\ (∀ y ∈ scope.names,y.2 = .free->(∃ c,cs.lookup y.1 = some c) \/ y ∈ rem) /\ ∀ y ∈ rem,y ∈ scope.names) ?_ scope.names []
  ⟨fun x c e=>(by cases e),fun y hy _=>.inr hy,fun _ hy=>hy⟩
 ·obtain ⟨cl,e,p1,p2,_⟩:=q
  refine ⟨cl,?_,p1,fun y hy hf=>(p2 y hy hf).elim (fun z=>z) fun z=>(by cases z)⟩
  have e1:closureFor scope env = (forIn scope.names [] f >>= fun r=>pure r):=rfl
  rw [e1,e,pure_bind]
 ·rintro ⟨n,k⟩ l cs ⟨p1,p2,p3⟩
  have hm:=p3 _ (List.mem_cons_self ..)
  by_cases hk:k = .free
  ·subst hk
   obtain ⟨c,hc⟩:=h _ hm rfl
   refine ⟨(n,c) :: cs,?_,fun x c' e=>?_,fun y hy hf=>?_,fun y hy=>p3 y (List.mem_cons_of_mem _ hy)⟩
   ·show (if ((NameKind.free == NameKind.free) = true) then _ else _) = _
    rw [if_pos (by decide),Xu hc,pure_bind]
   ·rw [List.lookup_cons] at e
    cases hx:x == n with
    | true =>
     rw [hx] at e
     have ex:x = n:=eq_of_beq hx
     subst ex
     cases e
     exact hc
    | false =>
     rw [hx] at e
     exact p1 x c' e
   ·rcases p2 y hy hf with ⟨c',e⟩ | z
    ·refine .inl ?_
     rw [List.lookup_cons]
     cases hx:y.1 == n with
     | true=>exact ⟨c,rfl⟩
     | false=>exact ⟨c',e⟩
    ·rcases List.mem_cons.mp z with rfl | z
     ·exact .inl ⟨c,by rw [List.lookup_cons]; simp⟩
     ·exact .inr z
  ·refine ⟨cs,?_,p1,fun y hy hf=>?_,fun y hy=>p3 y (List.mem_cons_of_mem _ hy)⟩
   ·show (if ((k == NameKind.free) = true) then _ else _) = _
    rw [if_neg (by simpa using hk)]
   ·rcases p2 y hy hf with z | z
    ·exact .inl z
    ·rcases List.mem_cons.mp z with rfl | z
     ·exact absurd hf hk
     ·exact .inr z
theorem wj {env:Env}:∀ {names:List (Str × NameKind)} {x:Str},names.lookup x = some .free ->
  (names.map fun (n,k)=>if (k == NameKind.free && env.scope.kind == .function && env.kindOf n == some .cell) then (n,NameKind.cell) else (n,k)).lookup x = some .cell \/
  (names.map fun (n,k)=>if (k == NameKind.free && env.scope.kind == .function && env.kindOf n == some .cell) then (n,NameKind.cell) else (n,k)).lookup x = some .free
 | [],_,h=>by cases h
 | (n,k) :: r,x,h=>by
  have ih:=@wj env r x
  rw [List.map_cons]
  cases hx:x == n with
  | true =>
   rw [List.lookup_cons,hx] at h
   cases h
   by_cases hc:(NameKind.free == NameKind.free && env.scope.kind == .function && env.kindOf n == some .cell) = true
   ·refine .inl ?_
    show List.lookup x ((if (NameKind.free == NameKind.free && env.scope.kind == .function && env.kindOf n == some .cell) = true then (n,NameKind.cell) else (n,NameKind.free)) :: _) = _
    rw [if_pos hc,List.lookup_cons,hx]
   ·refine .inr ?_
    show List.lookup x ((if (NameKind.free == NameKind.free && env.scope.kind == .function && env.kindOf n == some .cell) = true then (n,NameKind.cell) else (n,NameKind.free)) :: _) = _
    rw [if_neg hc,List.lookup_cons,hx]
  | false =>
   rw [List.lookup_cons,hx] at h
   have e:∀ (b:Bool) (l:List (Str × NameKind)),List.lookup x ((if b = true then (n,NameKind.cell) else (n,k)) :: l) = l.lookup x:=fun b l=>by
    cases b with
    | true=>rw [if_pos rfl,List.lookup_cons,hx]
    | false=>rw [if_neg Bool.false_ne_true,List.lookup_cons,hx]
   rcases ih h with q | q
   ·exact .inl ((e _ _).trans q)
   ·exact .inr ((e _ _).trans q)
theorem qa {scope:Scope} {env:Env} (hnc:∀ y ∈ scope.names,y.2 ≠ .cell) {x:Str} {k:NameKind} (h:(relabel scope env).names.lookup x = some k) (hk:k = .cell \/ k = .free) :
  ∃ y ∈ scope.names,y.1 = x /\ y.2 = .free:=by
 have hm:=PySem.mem_of_lookup h
 obtain ⟨⟨n,k0⟩,hy,e⟩:=List.mem_map.mp hm
 refine ⟨(n,k0),hy,?_⟩
 have e':(if (k0 == NameKind.free && env.scope.kind == .function && env.kindOf n == some .cell) = true then (n,NameKind.cell) else (n,k0)) = (x,k):=e
 by_cases hc:(k0 == NameKind.free && env.scope.kind == .function && env.kindOf n == some .cell) = true
 ·rw [if_pos hc] at e'
  cases e'
  refine ⟨rfl,?_⟩
  rw [Bool.and_eq_true,Bool.and_eq_true] at hc
  exact eq_of_beq hc.1.1
 ·rw [if_neg hc] at e'
  cases e'
  rcases hk with rfl | rfl
  ·exact absurd rfl (hnc _ hy)
  ·exact ⟨rfl,rfl⟩
noncomputable abbrev ym (X:Cx) (N':List Str) (scope:Scope) (cl:List (Str × Addr)) (C:Addr) (fp:List Addr) (s₀:Shared) (H₀:Hp):Cx :=
 { X with N:=N',s₀:=s₀,H₀:=H₀,env:=compEnvC scope cl C X.env,outer:=X.stack,ex:=fp,fn:=fun _=>false,pn:=[],xe:=fun _ _=>False }
structure zl (psc scope:Scope) (T F:List Str):Prop where
 kind:scope.kind = .function
 nocell:∀ y ∈ scope.names,y.2 ≠ .cell
 loc:∀ y ∈ scope.names,y.2 = .local->scope.names.lookup y.1 = some .local
 fr:∀ y ∈ scope.names,y.2 = .free->psc.names.lookup y.1 = some .cell \/ psc.names.lookup y.1 = some .free
 nd:(T ++ F).Nodup
 ffree:∀ x ∈ F,scope.names.lookup x = some .free
section
variable {X:Cx} {pn:List (Addr × Obj)} {σ:St} {H H':Hp} {s s':Shared} {scope:Scope} {T F:List Str} {cl:List (Str × Addr)} {C:Addr} {fp:List Addr} {js:List Nat}
theorem jg (I:Inv X pn σ H s) (S:zl X.env.scope scope T F):∀ y ∈ scope.names,y.2 = .free->∃ c,X.env.cells.lookup y.1 = some c:=fun y hy hf=>I.ok.has y.1 (S.fr y hy hf)
theorem Lk (I:Inv X pn σ H s) (S:zl X.env.scope scope T F) (p1:∀ x c,cl.lookup x = some c->X.env.cells.lookup x = some c)
  (p2:∀ y ∈ scope.names,y.2 = .free->∃ c,cl.lookup y.1 = some c) (hC:s.heap.objs.size <= C) (hf:∀ b ∈ fp,FpOk X pn H b) (hfl:∀ b ∈ fp,b < s.heap.objs.size) :
  (ym X (T ++ F) scope cl C fp s H).Ok where
 mod:=I.ok.mod
 kind:=S.kind
 glob:=I.ok.glob
 blt:=I.ok.blt
 above:=hC
 inj:=fun x y c hx hy=>I.ok.inj x y c (p1 x c hx) (p1 y c hy)
 has:=fun x hx=>by
  have q:∃ y ∈ scope.names,y.1 = x /\ y.2 = .free:=by
   rcases hx with hx | hx
   ·exact qa (env:=X.env) S.nocell (show (relabel scope X.env).names.lookup x = some .cell from hx) (.inl rfl)
   ·exact qa (env:=X.env) S.nocell (show (relabel scope X.env).names.lookup x = some .free from hx) (.inr rfl)
  obtain ⟨y,hy,rfl,hf⟩:=q
  exact p2 y hy hf
 cab:=fun x c h=>by cases h
 hd:=I.ok.hd
 frames:=I.ok.frames
 stk:=.inl rfl
 exf:=fun b hb=>⟨Nat.ne_of_lt (Nat.lt_of_lt_of_le (hfl b hb) hC),fun x c e=>(hf b hb).2.2.2.2.1 x c (p1 x c e)⟩
 bs:=I.bs
 bsz:=Nat.le_trans I.ok.bsz I.sz
 noex:=fun b o e hb=>by
  rcases (hf b hb).2.2.2.1 with z | z
  ·exact I.ok.noex b o e z
  ·exact absurd (Nat.lt_of_lt_of_le (Heap.lt_size (I.ok.bs b o e).1) z) (Nat.lt_irrefl _)
 exfs:=fun b hb z=>by
  rcases List.mem_cons.mp (I.stkSub b z) with q | q
  ·exact (hf b hb).2.1 q
  ·exact (hf b hb).2.2.1 q
 funs:=I.stack
 frf:=I.stkFree
noncomputable def st0 (T:List Str) (js:List Nat) (σ:St):St:=List.replicate T.length none ++ js.map fun j=>(σ[j]?).join
theorem su {α β:Type} {R:α->β->Prop}:∀ {l:List α} {r:List β} {i:Nat} {b:β},Paired R l r->r[i]? = some b->∃ a,l[i]? = some a /\ R a b
 | _,_,_,_,.nil,e=>by simp at e
 | _,_,0,_,.cons h _,e=>by simp at e; subst e; exact ⟨_,rfl,h⟩
 | _,_,i + 1,b,.cons _ t,e=>by
  obtain ⟨a,q1,q2⟩:=su (i:=i) (b:=b) t (by simpa using e)
  exact ⟨a,by simpa using q1,q2⟩
theorem Pz {h₁:Heap} {m:Str->Option Value} {t':Nat} (I:Inv X pn σ H s) (S:zl X.env.scope scope T F) (p1:∀ x c,cl.lookup x = some c->X.env.cells.lookup x = some c)
  (p2:∀ y ∈ scope.names,y.2 = .free->∃ c,cl.lookup y.1 = some c) (hjs:Paired (fun x j=>X.N[j]? = some x) F js) (hC:s.heap.objs.size <= C) (hf:∀ b ∈ fp,FpOk X pn H b) (hfl:∀ b ∈ fp,b < s.heap.objs.size)
  (hn:h₁.Ns C m) (hk:∀ b o,s.heap.get? b = some o->h₁.get? b = some o):Inv (ym X (T ++ F) scope cl C fp s H) [] (st0 T js σ) H { s with heap:=h₁,toks:=t' }:=by
 refine ⟨Lk I S p1 p2 hC hf hfl,rfl,I.bare,Un.kept hk,⟨m,hn,fun i x v h1 h2 h3=>?_⟩,fun x c e=>?_,I.hok.fresh hC,fun x c e=>I.freeC x c (p1 x c e),fun p hp=>(by cases hp),I.hok.kept hk,?_⟩
 ·have hi:T.length <= i:=by
   rcases Nat.lt_or_ge i T.length with z | z
   ·exfalso
    unfold st0 at h2
    rw [List.getElem?_append_left (by simpa using z),List.getElem?_replicate] at h2
    split at h2 <;> cases h2
   ·exact z
  unfold st0 at h2
  rw [List.getElem?_append_right (by simpa using hi),List.getElem?_map,List.length_replicate] at h2
  cases ej:js[i - T.length]? with
  | none=>rw [ej] at h2; cases h2
  | some j =>
   rw [ej] at h2
   have hσ:(σ[j]?).join = some v:=Option.some.inj h2
   obtain ⟨x',hx',hX⟩:=su hjs ej
   have h1':(T ++ F)[i]? = some x:=h1
   rw [List.getElem?_append_right hi,hx'] at h1'
   cases h1'
   have hσ':σ[j]? = some (some v):=by
    cases e:σ[j]? with
    | none=>rw [e] at hσ; cases hσ
    | some o=>rw [e] at hσ; cases hσ; rfl
   have hxF:x ∈ F:=List.mem_of_getElem? hx'
   have hfree:=S.ffree x hxF
   have hpsc:=S.fr _ (PySem.mem_of_lookup hfree) rfl
   obtain ⟨m0,_,look⟩:=I.loc
   obtain ⟨u,ru,lk⟩:=look j x v hX hσ' (.inr hpsc)
   refine ⟨u,ru,?_⟩
   rcases lk with ⟨k,_⟩ | ⟨_,c,hc,hcell⟩
   ·exfalso
    have k':X.env.scope.names.lookup x = some .local:=k
    rcases hpsc with z | z
    ·rw [k'] at z; cases z
    ·rw [k'] at z; cases z
   ·obtain ⟨c',hc'⟩:=p2 _ (PySem.mem_of_lookup hfree) rfl
    have e2:=p1 x c' hc'
    rw [hc] at e2
    cases e2
    refine .inr ⟨?_,c,hc',hcell.keeps hk⟩
    exact wj (env:=X.env) hfree
 ·obtain ⟨v,q⟩:=I.cell x c (p1 x c e)
  exact ⟨v,q.keeps hk⟩
 ·show (st0 T js σ).length = (T ++ F).length
  unfold st0
  rw [List.length_append,List.length_append,List.length_replicate,List.length_map,(Paired.length hjs)]
theorem O1 {N':List Str} {σ':St} (I:Inv X pn σ H s) (J:Inv (ym X N' scope cl C fp s H) [] σ' H' s') (hf:∀ b ∈ fp,FpOk X pn H b):Inv X pn σ H' s' :=
 I.call' (ch:=fp) (show s'.os = s.os from J.os) J.base J.hok J.bare fun b hb=>⟨(hf b hb).2.2.2.1,(hf b hb).2.1,(hf b hb).2.2.2.2.1,(hf b hb).2.2.2.2.2⟩
end
section
variable {prog:Program} {w:World} {A:Around} {R:Result->Shared->Prop} {s:Shared}
theorem U9 {elt target iter:Expr} {ifs:List Expr} {scope:Scope} {pos:Pos} {it acc:Value} {env:Env} (I:Nat->Shared->Prop)
  (turn:∀ n s,I n s->wpAny (model prog w) A (pyNext it) (fun r s₁=>match r with
   | none=>R (.ok .next) s₁
   | some v=>wpAny (model prog w) A (letOwnedTupleGo target it v) (fun _ s₂=>wpAny (model prog w) A (assign target env v) (fun _ s₃ =>
     wpAny (model prog w) A (forIn ifs true fun c r=>if r = true then do let ok <- isTrue c env (eval c env); pure (ForInStep.yield ok) else pure (ForInStep.yield r)) (fun ok s₄ =>
      if ok = true then wpAny (model prog w) A (eval elt env) (fun x s₅=>wpAny (model prog w) A (call (.builtin "list.append") [acc,x]) (fun _ s₆=>∃ m,m < n /\ I m s₆) (fun _ _=>False) s₅) (fun _ _=>False) s₄
      else ∃ m,m < n /\ I m s₄) (fun _ _=>False) s₃) (fun _ _=>False) s₂) (fun _ _=>False) s₁) (fun _ _=>False) s)
  (n:Nat) (h:I n s):codeAny (model prog w) A (.compLoop (.ListComp elt [⟨target,iter,ifs,0⟩] scope pos) 0 it acc env) R s:=by
 refine codeAny_loop rfl I (fun n s hI=>?_) n h
 show wpAny _ A ((compTurn (.ListComp elt [⟨target,iter,ifs,0⟩] scope pos) 0 it acc env).onRaise (fun x=>do noteFrame x env; theTreesLotGoes x)) _ _ s
 refine wpAny_noted (wpAny_noRaise ?_)
 rw [compTurn_list]
 refine wpAny_bind (wpAny_standAt (wpAny_bind (thn (turn n s hI) fun r s₁ h₁=>?_)))
 cases r with
 | none=>exact wpAny_pure h₁
 | some v =>
  refine wpAny_bind (thn h₁ fun _ s₂ h₂=>wpAny_bind (thn h₂ fun _ s₃ h₃=>wpAny_bind (thn h₃ fun ok s₄ h₄=>?_)))
  cases ok with
  | false=>exact wpAny_pure ⟨rfl,h₄⟩
  | true=>exact wpAny_bind (wpAny_bind (thn h₄ fun x s₅ h₅=>wpAny_bind (thn h₅ fun _ s₆ h₆=>wpAny_pure (wpAny_pure ⟨rfl,h₆⟩))))
end
noncomputable def PIf (X:Cx) (ifs:List Expr) (t:TT):Prop :=
 ∀ (pn:List (Addr × Obj)) (s:Shared) (σ:St) (H:Hp) (Q:Bool->Hp->Prop),Inv X pn σ H s->t σ H Q ->
  wpAny (model X.prog X.w) X.A (forIn ifs true fun c r=>if r = true then do let ok <- isTrue c X.env (eval c X.env); pure (ForInStep.yield ok) else pure (ForInStep.yield r)) (TP X pn σ Q) X.xe s
noncomputable def tYes:TT:=fun _ H Q=>Q true H
theorem Mz {X:Cx}:PIf X [] tYes:=fun _ _ _ H _ I h=>wpAny_tests_nil ⟨H,I,h⟩
theorem Mx {X:Cx} {c:Expr} {tc:TT} (h:PT X c tc):PIf X [c] tc:=fun pn s σ H Q I q=>wpAny_tests_one (h pn s σ H Q I q)
noncomputable def xg (n:Nat) (σ σ':St):Prop:=σ'.length = σ.length /\ ∀ i,n <= i->σ'[i]? = σ[i]?
theorem xg.refl (n:Nat) (σ:St):xg n σ σ:=⟨rfl,fun _ _=>rfl⟩
theorem xg.trans {n:Nat} {a b c:St} (x:xg n a b) (y:xg n b c):xg n a c:=⟨y.1.trans x.1,fun i h=>(y.2 i h).trans (x.2 i h)⟩
theorem xg.set {n i:Nat} {σ:St} {v:V} (h:i < n):xg n σ (σ.set i (some v)):=⟨by simp,fun j hj=>by rw [List.getElem?_set_ne (by omega)]⟩
noncomputable def jz (n:Nat) (g:TG):Prop:=∀ v σ H Q,g v σ H Q->g v σ H fun σ' H'=>Q σ' H' /\ xg n σ σ'
noncomputable def Vi (n:Nat) (g:TGs):Prop:=∀ vs σ H Q,g vs σ H Q->g vs σ H fun σ' H'=>Q σ' H' /\ xg n σ σ'
theorem y9 {n i:Nat} (h:i < n):jz n (Zt i):=fun v σ H Q q=>⟨q,xg.set h⟩
theorem t8 {n:Nat}:Vi n gNil:=fun vs σ H Q q=>⟨q.1,q.2,xg.refl n σ⟩
theorem yx {n:Nat} {t:TG} {u:TGs} (mono:∀ v σ H Q Q',(∀ σ' H',Q σ' H'->Q' σ' H')->t v σ H Q->t v σ H Q') (monos:∀ v σ H Q Q',(∀ σ' H',Q σ' H'->Q' σ' H')->u v σ H Q->u v σ H Q') (h1:jz n t) (h2:Vi n u):Vi n (U6 t u):=fun vs σ H Q q=>by
 obtain ⟨v,r,e,q⟩:=q
 refine ⟨v,r,e,mono _ _ _ _ _ (fun σ' H' z=>?_) (h1 v σ H _ q)⟩
 exact monos _ _ _ _ _ (fun σ2 H2 y=>⟨y.1,z.2.trans y.2⟩) (h2 r σ' H' Q z.1)
theorem t7 {K:W.Frag} {n k:Nat} {t:TGs} (h:Vi n t):jz n (gTup K k t):=fun v σ H Q q=>by
 obtain ⟨a,xs,e,hq,hl,q⟩:=q
 exact ⟨a,xs,e,hq,hl,h xs σ H Q q⟩
theorem ya {i:Nat}:∀ v σ H (Q Q':St->Hp->Prop),(∀ σ' H',Q σ' H'->Q' σ' H')->Zt i v σ H Q->Zt i v σ H Q':=fun _ _ _ _ _ f q=>f _ _ q
theorem xr:∀ v σ H (Q Q':St->Hp->Prop),(∀ σ' H',Q σ' H'->Q' σ' H')->gNil v σ H Q->gNil v σ H Q':=fun _ _ _ _ _ f q=>⟨q.1,f _ _ q.2⟩
theorem vj {t:TG} {u:TGs} (mono:∀ v σ H Q Q',(∀ σ' H',Q σ' H'->Q' σ' H')->t v σ H Q->t v σ H Q') (monos:∀ v σ H Q Q',(∀ σ' H',Q σ' H'->Q' σ' H')->u v σ H Q->u v σ H Q') :
  ∀ v σ H (Q Q':St->Hp->Prop),(∀ σ' H',Q σ' H'->Q' σ' H')->U6 t u v σ H Q->U6 t u v σ H Q':=fun vs σ H Q Q' f q=>by
 obtain ⟨v,r,e,q⟩:=q
 exact ⟨v,r,e,mono _ _ _ _ _ (fun σ' H' z=>monos _ _ _ _ _ f z) q⟩
noncomputable def Jf (J:It) (g:TG) (tc:TT) (te:TE) (σ0:St) (D:Addr) (Z:Hp->Prop) (H:Hp):Prop :=
 ∃ W:Nat->Nat->List V->Hp->Prop,(∃ m,W 0 m [] H) /\ ∀ i m ys H,W i m ys H->H D = some (.lst ys) /\ ((J.stop i H /\ Z H) \/ (J.go i H /\ ∃ N:List V->Hp->Prop,(∀ zs H',N zs H'->∃ m',m' < m /\ W (i + 1) m' zs H') /\ ∀ x H',J.yld i H x H' ->
  g x σ0 H' fun σ2 H2=>tc σ2 H2 fun b H3=>if b = true then te σ2 H3 fun y H4=>H4 D = some (.lst ys) /\ ys.length < sizeLine /\ N (ys ++ [y]) (upd H4 D (.lst (ys ++ [y]))) else N ys H3))
noncomputable def Qm (wi:TI) (T:List Str) (js:List Nat) (g:TG) (tc:TT) (te:TE):TE:=fun σ H Q=>wi σ H fun J H1=>∀ D,H1 D = none->Jf J g tc te (st0 T js σ) D (Q (.ref D)) (upd H1 D (.lst []))
section
variable {X:Cx} {pn:List (Addr × Obj)} {σ:St} {H2:Hp} {s2:Shared} {scope:Scope} {T F:List Str} {cl:List (Str × Addr)} {fp:List Addr} {js:List Nat} {tg iter elt:Expr} {ifs:List Expr} {pos:Pos}
 {g:TG} {tc:TT} {te:TE} {J:It} {it:Addr} {tn:Nat->Heap->Prop} {E:Value->Shared->Prop} {RR:Value->Addr->Result->Shared->Prop}
theorem fm (hc:X.calm = true) (S:zl X.env.scope scope T F) (hjs:Paired (fun x j=>X.N[j]? = some x) F js)
  (hg:∀ cl C fp s H,PG (ym X (T ++ F) scope cl C fp s H) tg g) (hk:jz T.length g)
  (ht:∀ cl C fp s H,PIf (ym X (T ++ F) scope cl C fp s H) ifs tc) (he:∀ cl C fp s H,PE (ym X (T ++ F) scope cl C fp s H) elt te)
  (p1:∀ x c,cl.lookup x = some c->X.env.cells.lookup x = some c) (p2:∀ y ∈ scope.names,y.2 = .free->∃ c,cl.lookup y.1 = some c)
  (I2:Inv X pn σ H2 s2) (Tn:Turn X.prog X.w X.K tg J fp it tn) (st2:tn 0 s2.heap) (f2:∀ b ∈ fp,FpOk X pn H2 b) (Z:Addr->Hp->Prop)
  (loop:∀ D,H2 D = none->Jf J g tc te (st0 T js σ) D (Z D) (upd H2 D (.lst [])))
  (hRR:∀ D C H' s' m',s'.heap.Ns C m'->FpOk X pn H' C->Inv X pn σ H' s'->Z D H'->RR (.ref D) C (.ok .next) s') :
  wpAny (model X.prog X.w) X.A (newList []) (fun acc s₃=>wpAny (model X.prog X.w) X.A (newFunctionEnv scope X.env.globals cl [] X.env.qual none .none (some X.env)) (fun cenv s₄ =>
   codeAny (model X.prog X.w) X.A (.compStart (.ListComp elt [⟨tg,iter,ifs,0⟩] scope pos) 0 (.ref it) acc { cenv with scope:=relabel scope X.env }) (RR acc cenv.locals) s₄) E s₃) E s2:=by
 refine wpAny_newObj_type (wpAny_newFunctionEnv S.nocell (by intro y hy; cases hy) (fun h₁ hns hsb=>?_) S.kind)
 dsimp only at hns hsb ⊢
 have I3:Inv X pn σ (upd H2 s2.heap.objs.size (.lst [])) { s2 with heap:=s2.heap.push { cls:=.type "list", data:=.seq ([]:List Value).toArray } }:=I2.lnew (its:=[]) (t':=s2.toks) .nil (Nat.zero_le _)
 have hobj:∀ b ∈ fp,b < s2.heap.objs.size:=fun b hb=>by
  obtain ⟨o,e,_⟩:=Tn.obj _ _ st2 b hb
  exact Heap.lt_size e
 have f3:∀ b ∈ fp,FpOk X pn (upd H2 s2.heap.objs.size (.lst [])) b:=fun b hb=>⟨by rw [zj (Nat.ne_of_lt (hobj b hb))]; exact (f2 b hb).1,(f2 b hb).2⟩
 obtain ⟨W,⟨m0,w0⟩,turn⟩:=loop s2.heap.objs.size I2.fresh
 generalize hs3:({ s2 with heap:=s2.heap.push { cls:=.type "list", data:=.seq ([]:List Value).toArray } }:Shared) = s3 at I3
 have e3:s2.heap.push { cls:=.type "list", dict:=none,data:=.seq ([]:List Value).toArray } = s3.heap:=by rw [<- hs3]
 rw [e3] at hns hsb ⊢
 have sz3:s3.heap.objs.size = s2.heap.objs.size + 1:=by rw [<- e3,Heap.size_push]
 have hold:∀ b o,s3.heap.get? b = some o->h₁.get? b = some o:=fun b o e=>hsb.extBut b o (Nat.ne_of_lt (Heap.lt_size e)) (Heap.get?_push_of_some _ e)
 have hobj3:∀ b ∈ fp,b < s3.heap.objs.size:=fun b hb=>by rw [sz3]; exact Nat.lt_succ_of_lt (hobj b hb)
 have J0:Inv (ym X (T ++ F) scope cl s3.heap.objs.size fp s3 (upd H2 s2.heap.objs.size (.lst []))) [] (st0 T js σ) (upd H2 s2.heap.objs.size (.lst [])) { s3 with heap:=h₁,toks:=s2.toks + ([]:List (Str × Value)).length } :=
  Pz I3 S p1 p2 hjs (Nat.le_refl _) f3 hobj3 hns hold
 have stL:tn 0 h₁:=Tn.keep _ _ _ st2 fun b _ o e=>hold b o (by rw [<- e3]; exact Heap.get?_push_of_some _ e)
 have es:({ s2 with heap:=h₁,toks:=s2.toks + ([]:List (Str × Value)).length }:Shared) = { s3 with heap:=h₁,toks:=s2.toks + ([]:List (Str × Value)).length }:=by rw [<- hs3]
 have main:codeAny (model X.prog X.w) X.A (.compLoop (.ListComp elt [⟨tg,iter,ifs,0⟩] scope pos) 0 (.ref it) (.ref s2.heap.objs.size) (compEnvC scope cl s3.heap.objs.size X.env)) (RR (.ref s2.heap.objs.size) s3.heap.objs.size)
   { s3 with heap:=h₁,toks:=s2.toks + ([]:List (Str × Value)).length }:=by
  have stat:∀ {H':Hp},(∀ b ∈ fp,H' b = none)->∀ b ∈ fp,FpOk (ym X (T ++ F) scope cl s3.heap.objs.size fp s3 (upd H2 s2.heap.objs.size (.lst []))) [] H' b:=fun hn b hb =>
   ⟨hn b hb,Nat.ne_of_lt (hobj3 b hb),J0.ok.exfs b hb,.inl hb,(J0.ok.exf b hb).2,fun p hp=>(by cases hp)⟩
  refine U9 (fun n s'=>∃ i ys H',Inv (ym X (T ++ F) scope cl s3.heap.objs.size fp s3 (upd H2 s2.heap.objs.size (.lst []))) [] (st0 T js σ) H' s' /\ tn i s'.heap /\ (∀ b ∈ fp,H' b = none) /\ W i n ys H') ?_ m0
   ⟨0,[],_,J0,stL,fun b hb=>(f3 b hb).1,w0⟩
  rintro n s4 ⟨i,ys,H4,I4,st4,fr4,w4⟩
  obtain ⟨hD,alt⟩:=turn i n ys H4 w4
  rcases alt with ⟨stop,z⟩ | ⟨go,N,hN,step⟩
  ·refine thn (Tn.done (ym X (T ++ F) scope cl s3.heap.objs.size fp s3 (upd H2 s2.heap.objs.size (.lst []))) rfl rfl rfl hc i [] s4 _ H4 (fun _ _=>False) I4 (stat fr4) st4 stop) fun r s5 ⟨hr,I5⟩=>?_
   subst hr
   obtain ⟨m5,n5,_⟩:=I5.loc
   have fC:FpOk X pn H4 s3.heap.objs.size:=I2.fpOk (by rw [sz3]; exact Nat.le_succ _) I5.free
   exact hRR _ _ H4 s5 m5 n5 fC ((O1 I3 I5 f3)) z
  ·refine thn (Tn.item (ym X (T ++ F) scope cl s3.heap.objs.size fp s3 (upd H2 s2.heap.objs.size (.lst []))) rfl rfl rfl hc i [] s4 _ H4 (fun _ _=>False) I4 (stat fr4) st4 go) fun r s5 ⟨u,hr,h5⟩=>?_
   subst hr
   refine thn h5 fun _ s6 ⟨x,H6,I6,r6,y6,st6,fr6⟩=>?_
   have I6':=I6.pinned (stat fr6) (Tn.obj _ _ st6)
   refine thn (hg _ _ _ _ _ _ s6 _ H6 x u _ I6' r6 (hk x _ H6 _ (step x H6 y6))) fun _ s7 ⟨σ7,H7,I7,q7,kp⟩=>?_
   refine thn (ht _ _ _ _ _ _ s7 σ7 H7 _ I7 q7) fun ok s8 ⟨H8,I8,q8⟩=>?_
   have again:∀ {s9:Shared} {H9:Hp},Inv (ym X (T ++ F) scope cl s3.heap.objs.size fp s3 (upd H2 s2.heap.objs.size (.lst []))) ([] ++ Za fp s6.heap) σ7 H9 s9->∀ {zs:List V},(∃ m',m' < n /\ W (i + 1) m' zs H9) ->
     ∃ m,m < n /\ ∃ i ys H',Inv (ym X (T ++ F) scope cl s3.heap.objs.size fp s3 (upd H2 s2.heap.objs.size (.lst []))) [] (st0 T js σ) H' s9 /\ tn i s9.heap /\ (∀ b ∈ fp,H' b = none) /\ W i m ys H':=fun {s9 H9} I9 {zs} q9=>by
    obtain ⟨m',hm,w9⟩:=q9
    have I9':=I9.unpinned
    refine ⟨m',hm,i + 1,zs,H9,I9'.weak kp.1.symm (fun a v ea=>?_),Tn.keep _ _ _ st6 fun b hb o e=>(I9.pin (b,o) (List.mem_append_right _ (List.mem_append_right _ (ud hb e)))).1,fun b hb=>?_,w9⟩
    ·have ha:T.length <= a:=by
      rcases Nat.lt_or_ge a T.length with z | z
      ·exfalso
       unfold st0 at ea
       rw [List.getElem?_append_left (by simpa using z),List.getElem?_replicate] at ea
       split at ea <;> cases ea
      ·exact z
     rw [kp.2 a ha]
     exact ea
    ·obtain ⟨o,e,d⟩:=Tn.obj _ _ st6 b hb
     exact (I9.pin (b,o) (List.mem_append_right _ (List.mem_append_right _ (ud hb e)))).2.1
   cases ok with
   | false =>
    rw [if_neg Bool.false_ne_true] at q8 ⊢
    exact again I8 (hN _ _ q8)
   | true =>
    rw [if_pos rfl] at q8 ⊢
    refine thn (he _ _ _ _ _ _ s8 σ7 H8 _ I8 q8) fun y s9 ⟨v9,H9,I9,r9,hD9,hl9,q9⟩=>?_
    refine thn (Ze _ s9 σ7 H9 (.ref s2.heap.objs.size) [v9] (.ref s2.heap.objs.size) [y] (fun _ H10=>H10 = upd H9 s2.heap.objs.size (.lst (ys ++ [v9]))) I9 rfl (.cons r9 .nil) ⟨_,_,_,rfl,rfl,hD9,hl9,rfl⟩) fun _ s10 ⟨_,H10,I10,_,e10⟩=>?_
    subst e10
    exact again I10 (hN _ _ q9)
 show codeAny _ _ _ _ ({ s2 with heap:=h₁,toks:=s2.toks + ([]:List (Str × Value)).length }:Shared)
 rw [es]
 exact codeAny_compStart_list main (Tn.self _ 0 _ _ _ stL main)
theorem Lb {wi:TI} (hc:X.calm = true) (hi:PI X tg iter wi) (S:zl X.env.scope scope T F) (hjs:Paired (fun x j=>X.N[j]? = some x) F js)
  (hg:∀ cl C fp s H,PG (ym X (T ++ F) scope cl C fp s H) tg g) (hk:jz T.length g)
  (ht:∀ cl C fp s H,PIf (ym X (T ++ F) scope cl C fp s H) ifs tc) (he:∀ cl C fp s H,PE (ym X (T ++ F) scope cl C fp s H) elt te)
  (hs:∀ x,foldedSetIterable iter X.env x = pure x:=by intro _; rfl):PE X (.ListComp elt [⟨tg,iter,ifs,0⟩] scope pos) (Qm wi T js g tc te):=by
 intro pn s σ H Q I h
 obtain ⟨cl,hcl,p1,p2⟩:=fo (jg I S)
 rw [eval_ListComp]
 refine wpAny_comprehension_free (use:=none) rfl hs hcl S.kind S.loc (thn (hi pn s σ H _ I h) fun v s1 h1=>thn h1 fun itv s2 h2=>?_)
 obtain ⟨it,fp,tn,J,H2,e,I2,Tn,st2,f2,loop⟩:=h2
 subst e
 refine fm (RR:=fun acc C=>compPost (model X.prog X.w) X.A X.xe none (EP X pn σ Q) acc C) hc S hjs hg hk ht he p1 p2 I2 Tn st2 f2 (fun D H'=>Q (.ref D) H') loop ?_
 intro D C H' s' m' hn fC I' z
 obtain ⟨f0,f1,f2,f3,f4,f5⟩:=fC
 exact ⟨m',hn,fun h' sb=>⟨.ref D,H',I'.turned (t':=s'.toks) (fun b o hb e=>(sb.2 b hb).trans e) f0 f1 f3 f4 f5,rfl,z⟩⟩
theorem ss {wi:TI} {i:Nat} {y:Str} {py spos:Pos} (hc:X.calm = true) (hN:X.N.Nodup) (hy:X.N[i]? = some y) (hl:X.env.scope.names.lookup y = some .local \/ X.env.scope.names.lookup y = some .cell) (hi:PI X tg iter wi) (S:zl X.env.scope scope T F) (hjs:Paired (fun x j=>X.N[j]? = some x) F js)
  (hg:∀ cl C fp s H,PG (ym X (T ++ F) scope cl C fp s H) tg g) (hk:jz T.length g)
  (ht:∀ cl C fp s H,PIf (ym X (T ++ F) scope cl C fp s H) ifs tc) (he:∀ cl C fp s H,PE (ym X (T ++ F) scope cl C fp s H) elt te)
  (hsw:swapsWith (.ListComp elt [⟨tg,iter,ifs,0⟩] scope pos) (some (.Name y py)) spos.line X.env = pure true:=by rfl)
  (hs:∀ x,foldedSetIterable iter X.env x = pure x:=by intro _; rfl) (hfn:X.fn y = true \/ X.env.scope.names.lookup y = some .local:=by first | exact .inl rfl | exact .inr rfl | assumption) :
  PS X (.Assign [.Name y py] (.ListComp elt [⟨tg,iter,ifs,0⟩] scope pos) spos) (fun D σ H=>Qm wi T js g tc te σ H fun v H1=>D.nx (σ.set i (some v)) H1):=by
 intro pn s σ H D I h
 obtain ⟨cl,hcl,p1,p2⟩:=fo (jg I S)
 rw [exec_Assign_Name_used _ _ _ _ hsw]
 refine wpAny_bind (wpAny_standAt (wpAny_bind ?_))
 show wpAny _ X.A (do let _ <- comprehension (.ListComp elt [⟨tg,iter,ifs,0⟩] scope pos) scope X.env _ (newList []) false (eval iter X.env) (some (assign (.Name y py) X.env))) _ _ s
 refine wpAny_bind (thn (wpAny_comprehension_free (use:=some (assign (.Name y py) X.env)) (Q:=fun _ s'=>SP X pn D .next s') rfl hs hcl S.kind S.loc (thn (hi pn s σ H _ I h) fun v s1 h1=>thn h1 fun itv s2 h2=>?_)) fun _ s' hq=>wpAny_pure (wpAny_pure hq))
 obtain ⟨it,fp,tn,J,H2,e,I2,Tn,st2,f2,loop⟩:=h2
 subst e
 refine fm (RR:=fun acc C=>compPost (model X.prog X.w) X.A X.xe (some (assign (.Name y py) X.env)) (fun _ s'=>SP X pn D .next s') acc C) hc S hjs hg hk ht he p1 p2 I2 Tn st2 f2 (fun D0 H'=>D.nx (σ.set i (some (.ref D0))) H') loop ?_
 intro D0 C H' s' m' hn fC I' z
 obtain ⟨f0,f1,f2,f3,f4,f5⟩:=fC
 show wpAny _ X.A (assign (.Name y py) X.env (.ref D0)) _ _ s'
 refine wpAny_assign_Name (Z1 (v:=.ref D0) I' hN hy hl rfl (fun s'' I'' ch=>?_) hfn)
 obtain ⟨a,sb,ha⟩:=ch
 have hCa:C ≠ a:=by
  rcases ha with rfl | ha
  ·exact f1
  ·exact fun z=>f4 y a ha z.symm
 exact ⟨m',hn.sameBut sb hCa,fun h' sb'=>⟨_,H',I''.turned (t':=s''.toks) (fun b o hb e=>(sb'.2 b hb).trans e) f0 f1 f3 f4 f5,z⟩⟩
end
noncomputable def Itv (n:Nat) (val:Nat->V->Prop):It:=⟨fun i _=>i < n,fun i H x H'=>H' = H /\ val i x,fun i _=>i = n⟩
noncomputable def Kx (x:Str) (i:Nat) (v:V):Prop:=∃ c,x.cps[i]? = some c /\ v = .str ⟨#[c]⟩
theorem Qj {P:Program} {w:World} {K:W.Frag} {tg:Expr} {it:Addr} {x:Str} {t:Tok} {T:String}
  (W:∀ A:Around,A.handled = none->Walks P w A it [it] [it] x.cps.size (SignAt x) (fun i h=>h.IsStrIter it T x t i))
  (hs:∀ (A:Around) (i:Nat) (s:Shared) (Q:Value->Shared->Prop) (E:Value->Shared->Prop),s.heap.IsStrIter it T x t i->Q (.ref it) s->wpAny (model P w) A (pyIter (.ref it)) Q E s)
  (hT:["enumerate", "zip", "dict_itemiterator", "dict_reverseitemiterator", "odict_iterator", "itertools.zip_longest", "itertools.pairwise"].contains T = false) :
  Turn P w K tg (Itv x.cps.size (Kx x)) [it] it (fun i h=>h.IsStrIter it T x t i) where
 mem:=by simp
 obj:=fun i h st b hb=>by
  have e:b = it:=by simpa using hb
  subst e
  obtain ⟨o,e,c,d⟩:=st
  exact ⟨o,e,fun v z=>by rw [d] at z; cases z⟩
 keep:=fun i h h' st k=>let ⟨o,e,r⟩:=st; ⟨o,k it (by simp) o e,r⟩
 item:=by
  intro X hP hw hK hc i pn s σ H E I hf st hg
  subst hP hw hK
  obtain ⟨f0,f1,f2,f3,f4,f5⟩:=hf it (by simp)
  refine (W X.A (I.ok.hd hc)).item i s _ _ hg st fun v h' tk hv st' kk=>?_
  obtain ⟨c,u,hx,rfl⟩:=hv
  have I1:Inv X pn σ H { s with heap:=h',toks:=tk }:=I.turned (fun b o hb e=>kk b o (by simpa using hb) e) f0 f1 f3 f4 f5
  obtain ⟨o,e,c',d⟩:=id st'
  exact ⟨_,rfl,O7 (s:={ s with heap:=h',toks:=tk }) e c' d hT ⟨.str ⟨#[c]⟩,H,I1,⟨u,rfl⟩,⟨rfl,c,hx,rfl⟩,st',fun b hb=>(hf b hb).1⟩⟩
 done:=by
  intro X hP hw hK hc i pn s σ H E I hf st hg
  subst hP hw hK
  obtain ⟨f0,f1,f2,f3,f4,f5⟩:=hf it (by simp)
  have e:i = x.cps.size:=hg
  subst e
  exact (W X.A (I.ok.hd hc)).done s _ _ st fun h' tk kk=>⟨rfl,I.turned (fun b o hb e=>kk b o (by simpa using hb) e) f0 f1 f3 f4 f5⟩
 self:=fun A i s Q E st h=>hs A i s Q E st h
noncomputable def Vl:V->Option Bool
 | .bl b=>some b
 | .int i=>some (i != 0)
 | .non=>some false
 | _=>none
noncomputable def Yk (ys:List V) (d:Bool) (i:Nat):Bool:=((ys[i]?).bind Vl).getD d
theorem Yh (ys:List V) (h:∀ y ∈ ys,(Vl y).isSome = true):(List.range ys.length).all (Yk ys true) = ys.all fun y=>Vl y == some true:=by
 rw [Bool.eq_iff_iff,List.all_eq_true,List.all_eq_true]
 constructor
 ·intro q y hy
  obtain ⟨i,hi,e⟩:=List.getElem_of_mem hy
  have z:=q i (List.mem_range.mpr hi)
  unfold Yk at z
  rw [List.getElem?_eq_getElem hi,Option.bind_some,e] at z
  obtain ⟨b,hb⟩:=Option.isSome_iff_exists.mp (h y hy)
  rw [hb] at z ⊢
  simpa using z
 ·intro q i hi
  have hi':=List.mem_range.mp hi
  have z:=q _ (List.getElem_mem hi')
  unfold Yk
  rw [List.getElem?_eq_getElem hi',Option.bind_some,eq_of_beq z]
  rfl
theorem W1 {P:Program} {w:World} {A:Around} {ys:List V} {its:List Value} (d:Bool) (r:Vals ys its) (h:∀ y ∈ ys,(Vl y).isSome = true):TruthOf P w A (fun i v=>its.toArray[i]? = some v) (Yk ys d):=by
 intro i v s Q E hP hQ
 obtain ⟨y,hy,ry⟩:=su r (show its[i]? = some v by simpa using hP)
 unfold Yk at hQ
 rw [hy,Option.bind_some] at hQ
 have hs:=h y (List.mem_of_getElem? hy)
 cases y with
 | bl b=>cases ry; exact wpAny_truthy_bool hQ
 | int k=>obtain ⟨t,rfl⟩:=ry; exact PySem.P.truthy_int hQ
 | non=>cases ry; exact truthy_none hQ
 | _=>cases hs
section
variable {X:Cx}
theorem Zh {s:Shared} {h':Heap} {o:Obj} (hk:∀ b x,b ∉ [s.heap.objs.size]->(s.heap.push o).get? b = some x->h'.get? b = some x):∀ b x,s.heap.get? b = some x->h'.get? b = some x :=
 fun b x e=>hk b x (by simpa using Nat.ne_of_lt (Heap.lt_size e)) (Heap.get?_push_of_some _ e)
noncomputable def rAll (K:W.Frag) (f:List V->Bool):List V->Hp->VK->Prop:=fun xs H Q=>∃ p ys,xs = [.ref p] /\ (SqL K H p ys \/ SqT K H p ys) /\ (∀ y ∈ ys,(Vl y).isSome = true) /\ Q (.bl (f ys)) H
theorem Y9 (hc:X.calm = true):u0 X (.builtin "all") (rAll X.K fun ys=>ys.all fun y=>Vl y == some true):=by
 intro pn s σ H xs us Q I r h
 obtain ⟨p,ys,rfl,hq,ht,q⟩:=h
 obtain ⟨u,rfl,rx⟩:=bx r
 cases rx
 rcases hq with hq | hq
 ·obtain ⟨its,rv,pl,hz⟩:=I.list hq
  have hlt:p < s.heap.objs.size:=by obtain ⟨_,e,_⟩:=pl.isList; exact Heap.lt_size e
  refine call_all_walk (wpAny_pyIter_list pl.isList ⟨s.heap.objs.size,[s.heap.objs.size,p],[s.heap.objs.size],its.toArray.size,_,_,Yk ys true,rfl,Walks.list (A:=X.A.in1) (I.ok.hd hc) _ p (Nat.ne_of_lt hlt) its.toArray,
   ⟨⟨_,Heap.get?_push_size _ rfl,rfl,rfl⟩,pl.isList.push _⟩,W1 true rv ht,fun h' tk hk=>?_⟩)
  rw [List.size_toArray,<- rv.length,Yh ys ht]
  exact ⟨.bl _,H,I.kept (Zh hk),rfl,q⟩
 ·obtain ⟨its,rv,pl,hz⟩:=I.tuple hq
  have hlt:p < s.heap.objs.size:=by obtain ⟨_,e,_⟩:=pl; exact Heap.lt_size e
  have pl':s.heap.IsTuple p its.toArray:=pl
  refine call_all_walk (wpAny_pyIter_tuple pl' ⟨s.heap.objs.size,[s.heap.objs.size,p],[s.heap.objs.size],its.toArray.size,_,_,Yk ys true,rfl,Walks.tuple (A:=X.A.in1) (I.ok.hd hc) _ p (Nat.ne_of_lt hlt) its.toArray,
   ⟨⟨_,Heap.get?_push_size _ rfl,rfl,rfl⟩,pl'.at fun o e=>Heap.get?_push_of_some _ e⟩,W1 true rv ht,fun h' tk hk=>?_⟩)
  rw [List.size_toArray,<- rv.length,Yh ys ht]
  exact ⟨.bl _,H,I.kept (Zh hk),rfl,q⟩
end
end L3
local macro_rules | `(tactic| walk_at "o")=>`(tactic| first | exact Or.inl rfl | exact Or.inr rfl)
namespace DL
open PySem PySem.Spec L2 L3
open PyProof.Rows hiding St
inductive Cst where
 | int (i:Int) | str (x:Str) | tup (cs:List Cst)
mutual
noncomputable def CRep (K:W.Frag):Cst->V->Prop
 | .int i,v=>v = .int i
 | .str x,v=>v = .str x
 | .tup cs,v=>∃ (a:Addr) (o:Obj) (its:Array Value) (n:Nat) (xs:List V),v = .ref a /\ K.lookup a = some o /\ o.cls = .type "tuple" /\ o.data = .seq its n /\ its.size <= sizeLine /\ Vals xs its.toList /\ E9 K cs xs
noncomputable def E9 (K:W.Frag):List Cst->List V->Prop
 | [],xs=>xs = []
 | c :: cs,xs=>∃ v r,xs = v :: r /\ CRep K c v /\ E9 K cs r
end
inductive D where
 | non | bl (b:Bool) | int (i:Int) | str (x:Str) | ty (n:String)
 | tup (ds:List D) | lst (ds:List D) | dk (ks:List Key) (ds:List D) | dt (ks:List (List Key)) (ds:List D)
  | scr (ns:List Int)
  | exc (C:Addr)
  | fd (m:Int)
  | dz (rs:List (List Int × Int))
 | cn (c:Cst)
  | ob (C:Addr) (ns:List Str) (ds:List D)
noncomputable def Scr (K:W.Frag) (H:Hp) (a:Addr) (ns:List Int):Prop :=
 (∃ o,H a = some (.frz o (.lst (ns.map V.int)))) \/
  ∃ (o:Obj) (its:Array Value) (n:Nat),K.lookup a = some o /\ o.cls = .type "list" /\ o.dict = none /\ o.data = .seq its n /\ its.size <= sizeLine /\ Vals (ns.map V.int) its.toList
theorem Scr.seq {K:W.Frag} {H:Hp} {a:Addr} {ns:List Int} (h:Scr K H a ns):SqL K H a (ns.map V.int):=by
 rcases h with ⟨o,h⟩ | h
 ·exact .inl (.inr ⟨o,h⟩)
 ·exact .inr h
noncomputable def dzV (rs:List (List Int × Int)):List (List Key × V):=rs.map fun p=>(p.1.map Sum.inl,V.int p.2)
noncomputable def Dz (H:Hp) (a:Addr) (rs:List (List Int × Int)):Prop:=(∃ o,H a = some (.frz o (.dT (dzV rs)))) /\ (rs.map Prod.fst).Nodup
noncomputable def SqR (K:W.Frag) (H:Hp) (a:Addr) (xs:List V):Prop:=SqT K H a xs /\ H a = some (.tup xs)
noncomputable def ExcO (a C:Addr):HO:=.ext fun h=>∃ o,h.get? a = some o /\ o.cls = .ref C /\ W.notCls o = true
noncomputable def E8 (a:Addr) (m:Int):HO:=.ext fun h=>∃ (its:Array Value) (n:Nat),h.get? a = some { cls:=.type "list", dict:=none,data:=.seq its n,slots:=#[] } /\ its.size <= 1000 /\ (m <= 0->1 <= its.size) /\ ∀ v ∈ its,∃ (i:Int) (t:Tok),v = .int i t /\ (0 < m->0 <= i /\ i < m)
mutual
noncomputable def Rep (K:W.Frag) (H:Hp) (O:List Addr):D->V->Prop
 | .non,v=>v = .non
 | .bl b,v=>v = .bl b
 | .int i,v=>v = .int i
 | .str x,v=>v = .str x
 | .ty n,v=>v = .ty n
 | .cn c,v=>CRep K c v
 | .tup ds,v=>∃ a xs,v = .ref a /\ SqR K H a xs /\ Reps K H O ds xs
 | .lst ds,v=>∃ a xs,v = .ref a /\ H a = some (.lst xs) /\ a ∉ O /\ Reps K H O ds xs
 | .scr ns,v=>∃ a,v = .ref a /\ Scr K H a ns
 | .dz rs,v=>∃ a,v = .ref a /\ Dz H a rs
 | .exc C,v=>∃ a,v = .ref a /\ H a = some (ExcO a C) /\ a ∉ O
 | .fd m,v=>∃ a,v = .ref a /\ H a = some (E8 a m) /\ a ∉ O
 | .dk ks ds,v=>∃ a xs,v = .ref a /\ H a = some (.dK (ks.zip xs)) /\ a ∉ O /\ ks.length = ds.length /\ ks.Nodup /\ Reps K H O ds xs
 | .dt ks ds,v=>∃ a xs,v = .ref a /\ H a = some (.dT (ks.zip xs)) /\ a ∉ O /\ ks.length = ds.length /\ ks.Nodup /\ Reps K H O ds xs
 | .ob C ns ds,v=>∃ a dx xs,v = .ref a /\ H a = some (.ins C dx (ns.zip xs)) /\ a ∉ O /\ ns.length = ds.length /\ ns.Nodup /\ Reps K H O ds xs
noncomputable def Reps (K:W.Frag) (H:Hp) (O:List Addr):List D->List V->Prop
 | [],xs=>xs = []
 | d :: ds,xs=>∃ v r,xs = v :: r /\ Rep K H O d v /\ Reps K H O ds r
end
structure Grow (O O':List Addr) (H H':Hp):Prop where
 keep:∀ b u,H b = some u->b ∉ O->H' b = some u /\ b ∉ O'
 tups:∀ b xs,H b = some (.tup xs)->H' b = some (.tup xs)
 frzs:∀ b o u,H b = some (.frz o u)->H' b = some (.frz o u)
theorem Grow.same {O:List Addr} {H H':Hp} (s:Same H H'):Grow O O H H':=⟨fun b u h n=>⟨s b u h,n⟩,fun b xs h=>s b _ h,fun b o u h=>s b _ h⟩
theorem Grow.refl {O:List Addr} {H:Hp}:Grow O O H H:=Grow.same (Same.refl H)
theorem Grow.trans {O O' O'':List Addr} {H H' H'':Hp} (a:Grow O O' H H') (b:Grow O' O'' H' H''):Grow O O'' H H'' :=
 ⟨fun c u h n=>let ⟨h',n'⟩:=a.keep c u h n; b.keep c u h' n',fun c xs h=>b.tups c xs (a.tups c xs h),fun c o u h=>b.frzs c o u (a.frzs c o u h)⟩
theorem d9 {K:W.Frag} {O O':List Addr} {H H':Hp} {a:Addr} {xs:List V} (g:Grow O O' H H') (h:SqT K H a xs):SqT K H' a xs:=by
 rcases h with (h | ⟨o,h⟩) | h
 ·exact .inl (.inl (g.tups _ _ h))
 ·exact .inl (.inr ⟨o,g.frzs _ _ _ h⟩)
 ·exact .inr h
theorem W5 {K:W.Frag} {O O':List Addr} {H H':Hp} {a:Addr} {xs:List V} (g:Grow O O' H H') (h:SqR K H a xs):SqR K H' a xs:=⟨d9 g h.1,g.tups _ _ h.2⟩
theorem qt {K:W.Frag} {O O':List Addr} {H H':Hp} {a:Addr} {ns:List Int} (g:Grow O O' H H') (h:Scr K H a ns):Scr K H' a ns:=by
 rcases h with ⟨o,h⟩ | h
 ·exact .inl ⟨o,g.frzs _ _ _ h⟩
 ·exact .inr h
theorem Rn {O O':List Addr} {H H':Hp} {a:Addr} {rs:List (List Int × Int)} (g:Grow O O' H H') (h:Dz H a rs):Dz H' a rs:=⟨let ⟨o,q⟩:=h.1; ⟨o,g.frzs _ _ _ q⟩,h.2⟩
mutual
theorem Rep.grow {K:W.Frag} {O O':List Addr} {H H':Hp} (g:Grow O O' H H'):∀ (d:D) (v:V),Rep K H O d v->Rep K H' O' d v
 | .non,_,h=>h
 | .bl _,_,h=>h
 | .int _,_,h=>h
 | .str _,_,h=>h
 | .ty _,_,h=>h
 | .cn _,_,h=>h
 | .tup ds,v,h=>by
  obtain ⟨a,xs,e,q,r⟩:=h
  exact ⟨a,xs,e,W5 g q,Reps.grow g ds xs r⟩
 | .lst ds,v,h=>by
  obtain ⟨a,xs,e,q,n,r⟩:=h
  exact ⟨a,xs,e,(g.keep _ _ q n).1,(g.keep _ _ q n).2,Reps.grow g ds xs r⟩
 | .scr ns,v,h=>by
  obtain ⟨a,e,q⟩:=h
  exact ⟨a,e,qt g q⟩
 | .dz rs,v,h=>by
  obtain ⟨a,e,q⟩:=h
  exact ⟨a,e,Rn g q⟩
 | .exc C,v,h=>by
  obtain ⟨a,e,q,n⟩:=h
  exact ⟨a,e,(g.keep _ _ q n).1,(g.keep _ _ q n).2⟩
 | .fd m,v,h=>by
  obtain ⟨a,e,q,n⟩:=h
  exact ⟨a,e,(g.keep _ _ q n).1,(g.keep _ _ q n).2⟩
 | .dk ks ds,v,h=>by
  obtain ⟨a,xs,e,q,n,l,nd,r⟩:=h
  exact ⟨a,xs,e,(g.keep _ _ q n).1,(g.keep _ _ q n).2,l,nd,Reps.grow g ds xs r⟩
 | .dt ks ds,v,h=>by
  obtain ⟨a,xs,e,q,n,l,nd,r⟩:=h
  exact ⟨a,xs,e,(g.keep _ _ q n).1,(g.keep _ _ q n).2,l,nd,Reps.grow g ds xs r⟩
 | .ob C ns ds,v,h=>by
  obtain ⟨a,dx,xs,e,q,n,l,nd,r⟩:=h
  exact ⟨a,dx,xs,e,(g.keep _ _ q n).1,(g.keep _ _ q n).2,l,nd,Reps.grow g ds xs r⟩
theorem Reps.grow {K:W.Frag} {O O':List Addr} {H H':Hp} (g:Grow O O' H H'):∀ (ds:List D) (xs:List V),Reps K H O ds xs->Reps K H' O' ds xs
 | [],_,h=>h
 | d :: ds,xs,h=>by
  obtain ⟨v,r,e,q,t⟩:=h
  exact ⟨v,r,e,Rep.grow g d v q,Reps.grow g ds r t⟩
end
mutual
theorem Rep.sub {K:W.Frag} {O O':List Addr} {H:Hp} (g:∀ a ∈ O',a ∈ O):∀ (d:D) (v:V),Rep K H O d v->Rep K H O' d v
 | .non,_,h=>h
 | .bl _,_,h=>h
 | .int _,_,h=>h
 | .str _,_,h=>h
 | .ty _,_,h=>h
 | .cn _,_,h=>h
 | .tup ds,v,h=>by
  obtain ⟨a,xs,e,q,r⟩:=h
  exact ⟨a,xs,e,q,Reps.sub g ds xs r⟩
 | .lst ds,v,h=>by
  obtain ⟨a,xs,e,q,n,r⟩:=h
  exact ⟨a,xs,e,q,fun z=>n (g a z),Reps.sub g ds xs r⟩
 | .scr _,_,h=>h
 | .dz _,_,h=>h
 | .exc _,_,h=>by
  obtain ⟨a,e,q,n⟩:=h
  exact ⟨a,e,q,fun z=>n (g a z)⟩
 | .fd _,_,h=>by
  obtain ⟨a,e,q,n⟩:=h
  exact ⟨a,e,q,fun z=>n (g a z)⟩
 | .dk ks ds,v,h=>by
  obtain ⟨a,xs,e,q,n,l,nd,r⟩:=h
  exact ⟨a,xs,e,q,fun z=>n (g a z),l,nd,Reps.sub g ds xs r⟩
 | .dt ks ds,v,h=>by
  obtain ⟨a,xs,e,q,n,l,nd,r⟩:=h
  exact ⟨a,xs,e,q,fun z=>n (g a z),l,nd,Reps.sub g ds xs r⟩
 | .ob C ns ds,v,h=>by
  obtain ⟨a,dx,xs,e,q,n,l,nd,r⟩:=h
  exact ⟨a,dx,xs,e,q,fun z=>n (g a z),l,nd,Reps.sub g ds xs r⟩
theorem Reps.sub {K:W.Frag} {O O':List Addr} {H:Hp} (g:∀ a ∈ O',a ∈ O):∀ (ds:List D) (xs:List V),Reps K H O ds xs->Reps K H O' ds xs
 | [],_,h=>h
 | d :: ds,xs,h=>by
  obtain ⟨v,r,e,q,t⟩:=h
  exact ⟨v,r,e,Rep.sub g d v q,Reps.sub g ds r t⟩
end
mutual
noncomputable def dw:D->Prop
 | .tup ds=>wb ds
 | .lst _=>False
 | .dk _ _=>False
 | .dt _ _=>False
 | .ob _ _ _=>False
 | .scr _=>True
 | .dz _=>True
 | .exc _=>False
 | .fd _=>False
 | .non=>True
 | .bl _=>True
 | .int _=>True
 | .str _=>True
 | .ty _=>True
 | .cn _=>True
noncomputable def wb:List D->Prop
 | []=>True
 | d :: ds=>dw d /\ wb ds
end
theorem gi:∀ {ds:List D},wb ds ↔ ∀ d ∈ ds,dw d
 | []=>by simp [wb]
 | d :: ds=>by
  rw [wb,gi]
  simp
mutual
theorem Rep.pure {K:W.Frag} {O O':List Addr} {H:Hp}:∀ (d:D) (v:V),dw d->Rep K H O d v->Rep K H O' d v
 | .non,_,_,h=>h
 | .bl _,_,_,h=>h
 | .int _,_,_,h=>h
 | .str _,_,_,h=>h
 | .ty _,_,_,h=>h
 | .cn _,_,_,h=>h
 | .tup ds,v,p,h=>by
  obtain ⟨a,xs,e,q,r⟩:=h
  exact ⟨a,xs,e,q,Reps.pure ds xs p r⟩
 | .scr _,_,_,h=>h
 | .dz _,_,_,h=>h
 | .exc _,_,p,_=>p.elim
 | .fd _,_,p,_=>p.elim
 | .lst ds,v,p,h=>p.elim
 | .dk ks ds,v,p,h=>p.elim
 | .dt ks ds,v,p,h=>p.elim
 | .ob C ns ds,v,p,h=>p.elim
theorem Reps.pure {K:W.Frag} {O O':List Addr} {H:Hp}:∀ (ds:List D) (xs:List V),wb ds->Reps K H O ds xs->Reps K H O' ds xs
 | [],_,_,h=>h
 | d :: ds,xs,p,h=>by
  obtain ⟨v,r,e,q,t⟩:=h
  exact ⟨v,r,e,Rep.pure d v p.1 q,Reps.pure ds r p.2 t⟩
end
mutual
noncomputable def RepN (K:W.Frag) (H:Hp) (P:Addr->Prop):D->V->Prop
 | .non,v=>v = .non
 | .bl b,v=>v = .bl b
 | .int i,v=>v = .int i
 | .str x,v=>v = .str x
 | .ty n,v=>v = .ty n
 | .cn c,v=>CRep K c v
 | .tup ds,v=>∃ a xs,v = .ref a /\ SqR K H a xs /\ zx K H P ds xs
 | .lst ds,v=>∃ a xs,v = .ref a /\ H a = some (.lst xs) /\ P a /\ zx K H P ds xs
 | .scr ns,v=>∃ a,v = .ref a /\ Scr K H a ns
 | .dz rs,v=>∃ a,v = .ref a /\ Dz H a rs
 | .exc C,v=>∃ a,v = .ref a /\ H a = some (ExcO a C) /\ P a
 | .fd m,v=>∃ a,v = .ref a /\ H a = some (E8 a m) /\ P a
 | .dk ks ds,v=>∃ a xs,v = .ref a /\ H a = some (.dK (ks.zip xs)) /\ P a /\ ks.length = ds.length /\ ks.Nodup /\ zx K H P ds xs
 | .dt ks ds,v=>∃ a xs,v = .ref a /\ H a = some (.dT (ks.zip xs)) /\ P a /\ ks.length = ds.length /\ ks.Nodup /\ zx K H P ds xs
 | .ob C ns ds,v=>∃ a dx xs,v = .ref a /\ H a = some (.ins C dx (ns.zip xs)) /\ P a /\ ns.length = ds.length /\ ns.Nodup /\ zx K H P ds xs
noncomputable def zx (K:W.Frag) (H:Hp) (P:Addr->Prop):List D->List V->Prop
 | [],xs=>xs = []
 | d :: ds,xs=>∃ v r,xs = v :: r /\ RepN K H P d v /\ zx K H P ds r
end
mutual
theorem RepN.to {K:W.Frag} {P P':Addr->Prop} {H H':Hp} (s:Same H H') (g:∀ a,P a->P' a):∀ (d:D) (v:V),RepN K H P d v->RepN K H' P' d v
 | .non,_,h=>h
 | .bl _,_,h=>h
 | .int _,_,h=>h
 | .str _,_,h=>h
 | .ty _,_,h=>h
 | .cn _,_,h=>h
 | .tup ds,v,h=>by
  obtain ⟨a,xs,e,q,r⟩:=h
  exact ⟨a,xs,e,W5 (Grow.same (O:=[]) s) q,zx.to s g ds xs r⟩
 | .lst ds,v,h=>by
  obtain ⟨a,xs,e,q,n,r⟩:=h
  exact ⟨a,xs,e,s _ _ q,g a n,zx.to s g ds xs r⟩
 | .scr ns,v,h=>by
  obtain ⟨a,e,q⟩:=h
  exact ⟨a,e,qt (Grow.same (O:=[]) s) q⟩
 | .dz rs,v,h=>by
  obtain ⟨a,e,q⟩:=h
  exact ⟨a,e,Rn (Grow.same (O:=[]) s) q⟩
 | .exc C,v,h=>by
  obtain ⟨a,e,q,n⟩:=h
  exact ⟨a,e,s _ _ q,g a n⟩
 | .fd m,v,h=>by
  obtain ⟨a,e,q,n⟩:=h
  exact ⟨a,e,s _ _ q,g a n⟩
 | .dk ks ds,v,h=>by
  obtain ⟨a,xs,e,q,n,l,nd,r⟩:=h
  exact ⟨a,xs,e,s _ _ q,g a n,l,nd,zx.to s g ds xs r⟩
 | .dt ks ds,v,h=>by
  obtain ⟨a,xs,e,q,n,l,nd,r⟩:=h
  exact ⟨a,xs,e,s _ _ q,g a n,l,nd,zx.to s g ds xs r⟩
 | .ob C ns ds,v,h=>by
  obtain ⟨a,dx,xs,e,q,n,l,nd,r⟩:=h
  exact ⟨a,dx,xs,e,s _ _ q,g a n,l,nd,zx.to s g ds xs r⟩
theorem zx.to {K:W.Frag} {P P':Addr->Prop} {H H':Hp} (s:Same H H') (g:∀ a,P a->P' a):∀ (ds:List D) (xs:List V),zx K H P ds xs->zx K H' P' ds xs
 | [],_,h=>h
 | d :: ds,xs,h=>by
  obtain ⟨v,r,e,q,t⟩:=h
  exact ⟨v,r,e,RepN.to s g d v q,zx.to s g ds r t⟩
end
mutual
theorem RepN.rep {K:W.Frag} {P:Addr->Prop} {H:Hp} {O:List Addr} (g:∀ a,P a->a ∉ O):∀ (d:D) (v:V),RepN K H P d v->Rep K H O d v
 | .non,_,h=>h
 | .bl _,_,h=>h
 | .int _,_,h=>h
 | .str _,_,h=>h
 | .ty _,_,h=>h
 | .cn _,_,h=>h
 | .tup ds,v,h=>by
  obtain ⟨a,xs,e,q,r⟩:=h
  exact ⟨a,xs,e,q,zx.reps g ds xs r⟩
 | .lst ds,v,h=>by
  obtain ⟨a,xs,e,q,n,r⟩:=h
  exact ⟨a,xs,e,q,g a n,zx.reps g ds xs r⟩
 | .scr _,_,h=>h
 | .dz _,_,h=>h
 | .exc C,v,h=>by
  obtain ⟨a,e,q,n⟩:=h
  exact ⟨a,e,q,g a n⟩
 | .fd m,v,h=>by
  obtain ⟨a,e,q,n⟩:=h
  exact ⟨a,e,q,g a n⟩
 | .dk ks ds,v,h=>by
  obtain ⟨a,xs,e,q,n,l,nd,r⟩:=h
  exact ⟨a,xs,e,q,g a n,l,nd,zx.reps g ds xs r⟩
 | .dt ks ds,v,h=>by
  obtain ⟨a,xs,e,q,n,l,nd,r⟩:=h
  exact ⟨a,xs,e,q,g a n,l,nd,zx.reps g ds xs r⟩
 | .ob C ns ds,v,h=>by
  obtain ⟨a,dx,xs,e,q,n,l,nd,r⟩:=h
  exact ⟨a,dx,xs,e,q,g a n,l,nd,zx.reps g ds xs r⟩
theorem zx.reps {K:W.Frag} {P:Addr->Prop} {H:Hp} {O:List Addr} (g:∀ a,P a->a ∉ O):∀ (ds:List D) (xs:List V),zx K H P ds xs->Reps K H O ds xs
 | [],_,h=>h
 | d :: ds,xs,h=>by
  obtain ⟨v,r,e,q,t⟩:=h
  exact ⟨v,r,e,RepN.rep g d v q,zx.reps g ds r t⟩
end
mutual
theorem Rep.toN {K:W.Frag} {P:Addr->Prop} {O:List Addr} {H:Hp}:∀ (d:D) (v:V),dw d->Rep K H O d v->RepN K H P d v
 | .non,_,_,h=>h
 | .bl _,_,_,h=>h
 | .int _,_,_,h=>h
 | .str _,_,_,h=>h
 | .ty _,_,_,h=>h
 | .cn _,_,_,h=>h
 | .tup ds,v,p,h=>by
  obtain ⟨a,xs,e,q,r⟩:=h
  exact ⟨a,xs,e,q,Reps.toN ds xs p r⟩
 | .scr _,_,_,h=>h
 | .dz _,_,_,h=>h
 | .exc _,_,p,_=>p.elim
 | .fd _,_,p,_=>p.elim
 | .lst ds,v,p,h=>p.elim
 | .dk ks ds,v,p,h=>p.elim
 | .dt ks ds,v,p,h=>p.elim
 | .ob C ns ds,v,p,h=>p.elim
theorem Reps.toN {K:W.Frag} {P:Addr->Prop} {O:List Addr} {H:Hp}:∀ (ds:List D) (xs:List V),wb ds->Reps K H O ds xs->zx K H P ds xs
 | [],_,_,h=>h
 | d :: ds,xs,p,h=>by
  obtain ⟨v,r,e,q,t⟩:=h
  exact ⟨v,r,e,Rep.toN d v p.1 q,Reps.toN ds r p.2 t⟩
end
theorem zx.append {K:W.Frag} {P:Addr->Prop} {H:Hp}:∀ {ds es:List D} {xs ys:List V},zx K H P ds xs->zx K H P es ys->zx K H P (ds ++ es) (xs ++ ys)
 | [],es,xs,ys,h,h'=>by cases h; exact h'
 | d :: ds,es,xs,ys,h,h'=>by
  obtain ⟨v,r,rfl,q,t⟩:=h
  exact ⟨v,r ++ ys,rfl,q,zx.append t h'⟩
theorem zx.length {K:W.Frag} {P:Addr->Prop} {H:Hp} {ds:List D} {xs:List V} (h:zx K H P ds xs):xs.length = ds.length:=by
 induction ds generalizing xs with
 | nil=>cases (show xs = [] from h); rfl
 | cons d ds ih =>
  obtain ⟨v,r,rfl,_,t⟩:=h
  simp [ih t]
section
variable {K:W.Frag} {H:Hp} {O:List Addr}
theorem Reps.length:∀ {ds:List D} {xs:List V},Reps K H O ds xs->xs.length = ds.length
 | [],_,h=>by cases h; rfl
 | d :: ds,xs,h=>by
  obtain ⟨v,r,e,_,t⟩:=h
  subst e
  simp [Reps.length t]
theorem Reps.get:∀ {ds:List D} {xs:List V} {i:Nat} {d:D},Reps K H O ds xs->ds[i]? = some d->∃ v,xs[i]? = some v /\ Rep K H O d v
 | [],_,_,_,_,e=>by simp at e
 | d :: ds,xs,0,d',h,e=>by
  obtain ⟨v,r,rfl,q,_⟩:=h
  simp at e
  subst e
  exact ⟨v,rfl,q⟩
 | d :: ds,xs,i + 1,d',h,e=>by
  obtain ⟨v,r,rfl,_,t⟩:=h
  obtain ⟨v',e',q'⟩:=Reps.get (i:=i) t (by simpa using e)
  exact ⟨v',by simpa using e',q'⟩
theorem Reps.append:∀ {ds es:List D} {xs ys:List V},Reps K H O ds xs->Reps K H O es ys->Reps K H O (ds ++ es) (xs ++ ys)
 | [],es,xs,ys,h,h'=>by cases h; exact h'
 | d :: ds,es,xs,ys,h,h'=>by
  obtain ⟨v,r,rfl,q,t⟩:=h
  exact ⟨v,r ++ ys,rfl,q,Reps.append t h'⟩
theorem Reps.one {d:D} {v:V} (h:Rep K H O d v):Reps K H O [d] [v]:=⟨v,[],rfl,h,rfl⟩
theorem Reps.take:∀ {ds:List D} {xs:List V} (n:Nat),Reps K H O ds xs->Reps K H O (ds.take n) (xs.take n)
 | _,_,0,_=>rfl
 | [],_,n + 1,h=>by cases h; rfl
 | d :: ds,xs,n + 1,h=>by
  obtain ⟨v,r,rfl,q,t⟩:=h
  exact ⟨v,r.take n,rfl,q,Reps.take n t⟩
theorem Reps.drop:∀ {ds:List D} {xs:List V} (n:Nat),Reps K H O ds xs->Reps K H O (ds.drop n) (xs.drop n)
 | _,_,0,h=>h
 | [],_,n + 1,h=>by cases h; rfl
 | d :: ds,xs,n + 1,h=>by
  obtain ⟨v,r,rfl,q,t⟩:=h
  exact Reps.drop n t
theorem Reps.set:∀ {ds:List D} {xs:List V} (n:Nat) {d:D} {v:V},Rep K H O d v->Reps K H O ds xs->Reps K H O (ds.set n d) (xs.set n v)
 | [],_,_,_,_,_,h=>by cases h; rfl
 | d :: ds,xs,0,d',v',q',h=>by
  obtain ⟨v,r,rfl,q,t⟩:=h
  exact ⟨v',r,rfl,q',t⟩
 | d :: ds,xs,n + 1,d',v',q',h=>by
  obtain ⟨v,r,rfl,q,t⟩:=h
  exact ⟨v,r.set n v',rfl,q,Reps.set n q' t⟩
theorem Reps.ints:∀ (ns:List Int),Reps K H O (ns.map D.int) (ns.map V.int)
 | []=>rfl
 | n :: ns=>⟨_,_,rfl,rfl,Reps.ints ns⟩
theorem Reps.rep {ds:List D} {xs:List V} (h:Reps K H O ds xs):∀ k:Nat,Reps K H O (List.replicate k ds).flatten (List.replicate k xs).flatten
 | 0=>rfl
 | k + 1=>by
  rw [List.replicate_succ,List.replicate_succ,List.flatten_cons,List.flatten_cons]
  exact h.append (Reps.rep h k)
end
noncomputable def View (K:W.Frag) (H:Hp) (O:List Addr) (d:D) (v:V):Prop:=match d with
 | .lst ds=>∃ a xs,v = .ref a /\ H a = some (.lst xs) /\ Reps K H O ds xs
 | .dk ks ds=>∃ a xs,v = .ref a /\ H a = some (.dK (ks.zip xs)) /\ ks.length = ds.length /\ ks.Nodup /\ Reps K H O ds xs
 | .dt ks ds=>∃ a xs,v = .ref a /\ H a = some (.dT (ks.zip xs)) /\ ks.length = ds.length /\ ks.Nodup /\ Reps K H O ds xs
 | d=>Rep K H O d v
noncomputable def Con (K:W.Frag) (H:Hp) (O:List Addr) (d:D) (a:Addr):Prop:=match d with
 | .lst ds=>∃ xs,H a = some (.lst xs) /\ Reps K H O ds xs
 | .dk ks ds=>∃ xs,H a = some (.dK (ks.zip xs)) /\ ks.length = ds.length /\ ks.Nodup /\ Reps K H O ds xs
 | .dt ks ds=>∃ xs,H a = some (.dT (ks.zip xs)) /\ ks.length = ds.length /\ ks.Nodup /\ Reps K H O ds xs
 | _=>False
theorem Rep.view {K:W.Frag} {H:Hp} {O:List Addr} {d:D} {v:V} (h:Rep K H O d v):View K H O d v:=by
 cases d with
 | lst ds=>obtain ⟨a,xs,e,q,_,r⟩:=h; exact ⟨a,xs,e,q,r⟩
 | dk ks ds=>obtain ⟨a,xs,e,q,_,r⟩:=h; exact ⟨a,xs,e,q,r⟩
 | dt ks ds=>obtain ⟨a,xs,e,q,_,r⟩:=h; exact ⟨a,xs,e,q,r⟩
 | _=>exact h
theorem Con.view {K:W.Frag} {H:Hp} {O:List Addr} {d:D} {a:Addr} (h:Con K H O d a):View K H O d (.ref a):=by
 cases d with
 | lst ds=>obtain ⟨xs,q,r⟩:=h; exact ⟨a,xs,rfl,q,r⟩
 | dk ks ds=>obtain ⟨xs,q,r⟩:=h; exact ⟨a,xs,rfl,q,r⟩
 | dt ks ds=>obtain ⟨xs,q,r⟩:=h; exact ⟨a,xs,rfl,q,r⟩
 | _=>exact h.elim
theorem Con.rep {K:W.Frag} {H:Hp} {O:List Addr} {d:D} {a:Addr} (h:Con K H O d a) (n:a ∉ O):Rep K H O d (.ref a):=by
 cases d with
 | lst ds=>obtain ⟨xs,q,r⟩:=h; exact ⟨a,xs,rfl,q,n,r⟩
 | dk ks ds=>obtain ⟨xs,q,r⟩:=h; exact ⟨a,xs,rfl,q,n,r⟩
 | dt ks ds=>obtain ⟨xs,q,r⟩:=h; exact ⟨a,xs,rfl,q,n,r⟩
 | _=>exact h.elim
theorem Con.same {K:W.Frag} {H H':Hp} {O:List Addr} {d:D} {a:Addr} (h:Con K H O d a) (s:Same H H'):Con K H' O d a:=by
 cases d with
 | lst ds=>obtain ⟨xs,q,r⟩:=h; exact ⟨xs,s _ _ q,Reps.grow (Grow.same s) _ _ r⟩
 | dk ks ds=>obtain ⟨xs,q,l,n,r⟩:=h; exact ⟨xs,s _ _ q,l,n,Reps.grow (Grow.same s) _ _ r⟩
 | dt ks ds=>obtain ⟨xs,q,l,n,r⟩:=h; exact ⟨xs,s _ _ q,l,n,Reps.grow (Grow.same s) _ _ r⟩
 | _=>exact h.elim
theorem Con.sub {K:W.Frag} {H:Hp} {O O':List Addr} {d:D} {a:Addr} (h:Con K H O d a) (g:∀ a ∈ O',a ∈ O):Con K H O' d a:=by
 cases d with
 | lst ds=>obtain ⟨xs,q,r⟩:=h; exact ⟨xs,q,Reps.sub g _ _ r⟩
 | dk ks ds=>obtain ⟨xs,q,l,n,r⟩:=h; exact ⟨xs,q,l,n,Reps.sub g _ _ r⟩
 | dt ks ds=>obtain ⟨xs,q,l,n,r⟩:=h; exact ⟨xs,q,l,n,Reps.sub g _ _ r⟩
 | _=>exact h.elim
theorem View.sub {K:W.Frag} {H:Hp} {O O':List Addr} {d:D} {v:V} (h:View K H O d v) (g:∀ a ∈ O',a ∈ O):View K H O' d v:=by
 cases d with
 | lst ds=>obtain ⟨a,xs,e,q,r⟩:=h; exact ⟨a,xs,e,q,Reps.sub g _ _ r⟩
 | dk ks ds=>obtain ⟨a,xs,e,q,l,n,r⟩:=h; exact ⟨a,xs,e,q,l,n,Reps.sub g _ _ r⟩
 | dt ks ds=>obtain ⟨a,xs,e,q,l,n,r⟩:=h; exact ⟨a,xs,e,q,l,n,Reps.sub g _ _ r⟩
 | _=>exact Rep.sub g _ _ h
theorem View.rep0 {K:W.Frag} {H:Hp} {O:List Addr} {d:D} {v:V} (h:View K H O d v):Rep K H [] d v:=by
 have h:=h.sub (O':=[]) (fun _ z=>nomatch z)
 cases d with
 | lst ds=>obtain ⟨a,xs,e,q,r⟩:=h; exact ⟨a,xs,e,q,by simp,r⟩
 | dk ks ds=>obtain ⟨a,xs,e,q,l,n,r⟩:=h; exact ⟨a,xs,e,q,by simp,l,n,r⟩
 | dt ks ds=>obtain ⟨a,xs,e,q,l,n,r⟩:=h; exact ⟨a,xs,e,q,by simp,l,n,r⟩
 | _=>exact h
inductive Kd where | val | own | fre | new
 deriving DecidableEq
structure EV where
 k:Kd
 d:D
noncomputable abbrev DE:=List (Option EV)
noncomputable abbrev dv (d:D):EV:=⟨.val,d⟩
noncomputable abbrev df (d:D):EV:=⟨.fre,d⟩
noncomputable abbrev dO (d:D):EV:=⟨.own,d⟩
noncomputable def RV (K:W.Frag) (H0 H:Hp) (O:List Addr) (r:EV) (v:V):Prop:=match r.k with
 | .val=>Rep K H O r.d v
 | .own=>∃ a,v = .ref a /\ a ∈ O /\ Con K H O r.d a
 | .fre=>∃ a,v = .ref a /\ H0 a = none /\ a ∉ O /\ Con K H (a :: O) r.d a
 | .new=>RepN K H (fun a=>a ∉ O /\ H0 a = none) r.d v
section
variable {K:W.Frag} {H0 H1 H H':Hp} {O:List Addr} {r:EV} {v:V}
theorem RV.val {d:D} (h:Rep K H O d v):RV K H0 H O (dv d) v:=h
theorem RV.same (h:RV K H0 H O r v) (s:Same H H'):RV K H0 H' O r v:=by
 obtain ⟨k,d⟩:=r
 cases k with
 | val=>exact Rep.grow (Grow.same s) _ _ h
 | own=>obtain ⟨a,e,m,c⟩:=h; exact ⟨a,e,m,c.same s⟩
 | fre=>obtain ⟨a,e,m,n,c⟩:=h; exact ⟨a,e,m,n,c.same s⟩
 | new=>exact RepN.to s (fun _ z=>z) _ _ h
theorem RV.start (h:RV K H0 H O r v) (s:Same H1 H0):RV K H1 H O r v:=by
 obtain ⟨k,d⟩:=r
 cases k with
 | val=>exact h
 | own=>exact h
 | fre=>obtain ⟨a,e,m,n,c⟩:=h; exact ⟨a,e,s.free m,n,c⟩
 | new=>exact RepN.to (Same.refl H) (fun a z=>⟨z.1,s.free z.2⟩) _ _ h
theorem RV.view (h:RV K H0 H O r v):View K H O r.d v:=by
 obtain ⟨k,d⟩:=r
 cases k with
 | val=>exact Rep.view h
 | own=>obtain ⟨a,e,m,c⟩:=h; subst e; exact c.view
 | fre=>obtain ⟨a,e,m,n,c⟩:=h; subst e; exact (c.sub fun b hb=>List.mem_cons_of_mem _ hb).view
 | new=>exact (RepN.rep (fun a z=>z.1) _ _ h).view
theorem RV.solid (h:RV K H0 H O r v) (hk:r.k ≠ .own):Rep K H O r.d v:=by
 obtain ⟨k,d⟩:=r
 cases k with
 | val=>exact h
 | own=>exact absurd rfl hk
 | fre=>obtain ⟨a,e,m,n,c⟩:=h; subst e; exact (c.sub fun b hb=>List.mem_cons_of_mem _ hb).rep n
 | new=>exact RepN.rep (fun a z=>z.1) _ _ h
end
structure REnv (K:W.Frag) (H₀ H:Hp) (σ:St) (ρ:DE) (o:List (Nat × Addr)):Prop where
 same:Same H₀ H
 fresh:∀ p ∈ o,H₀ p.2 = none
 trk:∀ p ∈ o,∃ u,H p.2 = some u
 mtb:∀ p ∈ o,(∀ xs,H p.2 ≠ some (.tup xs)) /\ ∀ ob u,H p.2 ≠ some (.frz ob u)
 nda:(o.map Prod.snd).Nodup
 slots:∀ i r,ρ[i]? = some (some r)->∃ v,σ[i]? = some (some v) /\ ((r.k = .val /\ Rep K H (o.map Prod.snd) r.d v) \/ (r.k = .own /\ ∃ a,v = .ref a /\ (i,a) ∈ o /\ Con K H (o.map Prod.snd) r.d a))
 len:σ.length = ρ.length
section
variable {K:W.Frag} {H₀ H H':Hp} {σ:St} {ρ:DE} {o:List (Nat × Addr)}
theorem REnv.to (R:REnv K H₀ H σ ρ o) (s:Same H H'):REnv K H₀ H' σ ρ o where
 same:=R.same.trans s
 fresh:=R.fresh
 trk:=fun p hp=>let ⟨u,e⟩:=R.trk p hp; ⟨u,s _ _ e⟩
 mtb:=fun p hp=>by
  obtain ⟨u,e⟩:=R.trk p hp
  obtain ⟨m1,m2⟩:=R.mtb p hp
  refine ⟨fun xs z=>?_,fun ob w z=>?_⟩
  ·rw [s _ _ e] at z; rw [<- e] at z; exact m1 xs z
  ·rw [s _ _ e] at z; rw [<- e] at z; exact m2 ob w z
 nda:=R.nda
 slots:=fun i r e=>by
  obtain ⟨v,ev,h⟩:=R.slots i r e
  refine ⟨v,ev,?_⟩
  rcases h with ⟨k,h⟩ | ⟨k,a,e1,m,c⟩
  ·exact .inl ⟨k,Rep.grow (Grow.same s) _ _ h⟩
  ·exact .inr ⟨k,a,e1,m,c.same s⟩
 len:=R.len
theorem REnv.ofree (R:REnv K H₀ H σ ρ o) {a:Addr} (h:H a = none):a ∉ o.map Prod.snd:=fun z=>by
 obtain ⟨p,hp,e⟩:=List.mem_map.mp z
 obtain ⟨u,q⟩:=R.trk p hp
 rw [e,h] at q
 cases q
end
noncomputable abbrev TD:=DE->(EV->Prop)->Prop
noncomputable abbrev TDb:=DE->(Bool->Prop)->Prop
noncomputable abbrev TDs:=DE->(List EV->Prop)->Prop
structure DZ where
 nx:DE->Prop
 rt:EV->Prop
 bk:DE->Prop:=fun _=>False
 ct:DE->Prop:=fun _=>False
noncomputable abbrev TDS:=DE->DZ->Prop
noncomputable def RVs (K:W.Frag) (H0 H:Hp) (O:List Addr):List EV->List V->Prop
 | [],vs=>vs = []
 | r :: rs,vs=>∃ v ws,vs = v :: ws /\ RV K H0 H O r v /\ RVs K H0 H O rs ws
theorem RVs.same {K:W.Frag} {H0 H H':Hp} {O:List Addr} (s:Same H H'):∀ {rs:List EV} {vs:List V},RVs K H0 H O rs vs->RVs K H0 H' O rs vs
 | [],_,h=>h
 | r :: rs,vs,h=>by
  obtain ⟨v,ws,e,q,t⟩:=h
  exact ⟨v,ws,e,q.same s,t.same s⟩
theorem RVs.start {K:W.Frag} {H0 H1 H:Hp} {O:List Addr} (s:Same H1 H0):∀ {rs:List EV} {vs:List V},RVs K H0 H O rs vs->RVs K H1 H O rs vs
 | [],_,h=>h
 | r :: rs,vs,h=>by
  obtain ⟨v,ws,e,q,t⟩:=h
  exact ⟨v,ws,e,q.start s,t.start s⟩
theorem RVs.reps {K:W.Frag} {H0 H:Hp} {O:List Addr}:∀ {rs:List EV} {vs:List V},RVs K H0 H O rs vs->(∀ r ∈ rs,r.k ≠ .own)->Reps K H O (rs.map EV.d) vs
 | [],_,h,_=>h
 | r :: rs,vs,h,n=>by
  obtain ⟨v,ws,e,q,t⟩:=h
  exact ⟨v,ws,e,q.solid (n r (List.mem_cons_self ..)),t.reps fun r' h'=>n r' (List.mem_cons_of_mem _ h')⟩
theorem RVs.reps0 {K:W.Frag} {H0 H:Hp} {O:List Addr}:∀ {rs:List EV} {vs:List V},RVs K H0 H O rs vs->Reps K H [] (rs.map EV.d) vs
 | [],_,h=>h
 | r :: rs,vs,h=>by
  obtain ⟨v,ws,e,q,t⟩:=h
  exact ⟨v,ws,e,q.view.rep0,t.reps0⟩
noncomputable def vc (K:W.Frag) (H₀:Hp) (t:TD):TE:=fun σ H Q=>∃ ρ o,REnv K H₀ H σ ρ o /\ ∃ φ,t ρ φ /\ ∀ v r H',Same H H'->RV K H H' (o.map Prod.snd) r v->φ r->Q v H'
noncomputable def kz (K:W.Frag) (H₀:Hp) (t:TDb):TT:=fun σ H Q=>∃ ρ o,REnv K H₀ H σ ρ o /\ ∃ φ,t ρ φ /\ ∀ b H',Same H H'->φ b->Q b H'
noncomputable def Lv (K:W.Frag) (H₀:Hp) (t:TDs):TA:=fun σ H Q=>∃ ρ o,REnv K H₀ H σ ρ o /\ ∃ φ,t ρ φ /\ ∀ vs rs H',Same H H'->RVs K H H' (o.map Prod.snd) rs vs->φ rs->Q vs H'
noncomputable def Vy (K:W.Frag) (H₀:Hp) (t:TDS):TS:=fun D σ H=>∃ ρ o,REnv K H₀ H σ ρ o /\ ∃ Z,t ρ Z /\
 (∀ ρ' σ' H' o',Grow (o.map Prod.snd) (o'.map Prod.snd) H H'->REnv K H₀ H' σ' ρ' o'->Z.nx ρ'->D.nx σ' H') /\
 (∀ ρ' σ' H' o',Grow (o.map Prod.snd) (o'.map Prod.snd) H H'->REnv K H₀ H' σ' ρ' o'->Z.bk ρ'->D.bk σ' H') /\
 (∀ ρ' σ' H' o',Grow (o.map Prod.snd) (o'.map Prod.snd) H H'->REnv K H₀ H' σ' ρ' o'->Z.ct ρ'->D.ct σ' H') /\
 (∀ v r H',Same H₀ H'->RV K H₀ H' [] r v->Z.rt r->D.rt v H')
noncomputable def ED (G:Hp->Prop) (X:Cx) (e:Expr) (t:TD):Prop:=∀ H₀:{H:Hp // G H},PE X e (vc X.K H₀.1 t)
noncomputable def ET (G:Hp->Prop) (X:Cx) (e:Expr) (t:TDb):Prop:=∀ H₀:{H:Hp // G H},PT X e (kz X.K H₀.1 t)
noncomputable def EW (G:Hp->Prop) (X:Cx) (e:Expr) (t:TDb):Prop:=∀ H₀:{H:Hp // G H},PW X e (kz X.K H₀.1 t)
noncomputable def EA (G:Hp->Prop) (X:Cx) (es:List Expr) (t:TDs):Prop:=∀ H₀:{H:Hp // G H},PA X es (Lv X.K H₀.1 t)
noncomputable def SD (G:Hp->Prop) (X:Cx) (st:Stmt) (t:TDS):Prop:=∀ H₀:{H:Hp // G H},PS X st (Vy X.K H₀.1 t)
noncomputable def SDs (G:Hp->Prop) (X:Cx) (st:List Stmt) (t:TDS):Prop:=∀ H₀:{H:Hp // G H},PSs X st (Vy X.K H₀.1 t)
theorem impE {X:Cx} {e:Expr} {t t':TE} (h:PE X e t) (i:∀ σ H Q,t' σ H Q->t σ H Q):PE X e t':=fun pn s σ H Q I q=>h pn s σ H Q I (i σ H Q q)
theorem impT {X:Cx} {e:Expr} {t t':TT} (h:PT X e t) (i:∀ σ H Q,t' σ H Q->t σ H Q):PT X e t':=fun pn s σ H Q I q=>h pn s σ H Q I (i σ H Q q)
theorem impW {X:Cx} {e:Expr} {t t':TT} (h:PW X e t) (i:∀ σ H Q,t' σ H Q->t σ H Q):PW X e t':=fun wh pn s σ H Q I q=>h wh pn s σ H Q I (i σ H Q q)
theorem impA {X:Cx} {es:List Expr} {t t':TA} (h:PA X es t) (i:∀ σ H Q,t' σ H Q->t σ H Q):PA X es t':=fun pos pn s σ H Q I q=>h pos pn s σ H Q I (i σ H Q q)
theorem impS {X:Cx} {st:Stmt} {t t':TS} (h:PS X st t) (i:∀ D σ H,t' D σ H->t D σ H):PS X st t':=fun pn s σ H D I q=>h pn s σ H D I (i D σ H q)
theorem Sk {X:Cx} {st:List Stmt} {t t':TS} (h:PSs X st t) (i:∀ D σ H,t' D σ H->t D σ H):PSs X st t':=fun pn s σ H D I q=>h pn s σ H D I (i D σ H q)
end DL
namespace DL
open PySem PySem.Spec L2 L3
open PyProof.Rows hiding St
variable {Γ:Hp->Prop}
noncomputable def slot:DE->Nat->Option EV
 | [],_=>none
 | x :: _,0=>x
 | _ :: r,i + 1=>slot r i
theorem wd:∀ {ρ:DE} {i:Nat} {r:EV},slot ρ i = some r->ρ[i]? = some (some r)
 | [],_,_,h=>by cases h
 | x :: _,0,_,h=>by cases h; rfl
 | _ :: l,i + 1,r,h=>by rw [List.getElem?_cons_succ]; exact wd (ρ:=l) h
noncomputable def jy (i:Nat):TD:=fun ρ φ=>match slot ρ i with
 | some r=>φ r
 | none=>False
noncomputable def dC (d:D):TD:=fun _ φ=>φ (dv d)
section
variable {X:Cx} {a b c e:Expr} {ta tb tc te:TD} {pos:Pos}
theorem z9 (i:Nat) {x:Str} (hN:X.N[i]? = some x:=by rfl) (hv:Vis X.env.scope x:=by first | exact Or.inl rfl | exact Or.inr (Or.inl rfl) | exact Or.inr (Or.inr rfl)) (hd:(x == ("__debug__" : Str)) = false:=by decide)
  (hcd:(x == ("__classdict__" : Str)) = false:=by decide):ED Γ X (.Name x pos) (jy i):=fun H₀=>impE (Zb hN hv hd hcd) fun σ H Q h=>by
 obtain ⟨ρ,o,R,φ,hφ,k⟩:=h
 cases e:slot ρ i with
 | none =>
  simp only [jy,e] at hφ
 | some r =>
  simp only [jy,e] at hφ
  obtain ⟨v,ev,h⟩:=R.slots i r (wd e)
  refine ⟨v,ev,k v r H (Same.refl H) ?_ hφ⟩
  obtain ⟨kd,d⟩:=r
  rcases h with ⟨rfl,h⟩ | ⟨rfl,a,e1,m,c⟩
  ·exact h
  ·exact ⟨a,e1,List.mem_map.mpr ⟨_,m,rfl⟩,c⟩
theorem ed_c {x:Expr} {v:V} {d:D} (h:PE X x (tC v)) (hr:∀ H O,Rep X.K H O d v):ED Γ X x (dC d):=fun H₀=>impE h fun σ H Q h=>by
 obtain ⟨ρ,o,R,φ,hφ,k⟩:=h
 exact k v (dv d) H (Same.refl H) (hr H _) hφ
theorem zc {i:Int} {j pos}:ED Γ X (.Constant (.int i) j pos) (dC (.int i)):=ed_c Hx fun _ _=>rfl
theorem Rl {b:Bool} {j pos}:ED Γ X (.Constant (.bool b) j pos) (dC (.bl b)):=ed_c Er fun _ _=>rfl
theorem qe {j pos}:ED Γ X (.Constant .none j pos) (dC .non):=ed_c Hv fun _ _=>rfl
theorem V5 {x:Str} {j pos}:ED Γ X (.Constant (.str x) j pos) (dC (.str x)):=ed_c Nf fun _ _=>rfl
structure GC (K:W.Frag) (mg:Str->Option Value) (x:Str) (d:D):Prop where
 ex:∃ u v,mg x = some u /\ RelV v u /\ ∀ H O,Rep K H O d v
theorem Rk {x:Str} {d:D} (G:GC X.K X.mg x d) (hg:Gl X x:=by rfl) (hd:(x == ("__debug__" : Str)) = false:=by decide):ED Γ X (.Name x pos) (dC d):=by
 obtain ⟨u,v,hm,r,h⟩:=G.ex
 exact ed_c (La hg hm r hd) h
theorem Xm {x:Str} {n:String} (hm:X.mg x = none) (hv:bootBuiltins x = some (.type n)) (hg:Gl X x:=by rfl) (hn:x ≠ "__name__":=by decide) (hd:(x == ("__debug__" : Str)) = false:=by decide):ED Γ X (.Name x pos) (dC (.ty n)) :=
 ed_c (Ld hg hm hv (v:=.ty n) rfl hn hd) fun _ _=>rfl
noncomputable def qj (K:W.Frag) (rr:R2) (s:D->D->(EV->Prop)->Prop):Prop :=
 ∀ (H:Hp) (O:List Addr) (x y:D) (vx vy:V) (φ:EV->Prop) (Q:VK),(∀ a,H a = none->a ∉ O)->View K H O x vx->View K H O y vy->s x y φ ->
  (∀ v r H',Same H H'->RV K H H' O r v->φ r->Q v H')->rr vx vy H Q
noncomputable def d2 (s:D->D->(EV->Prop)->Prop) (ta tb:TD):TD:=fun ρ φ=>ta ρ fun x=>tb ρ fun y=>s x.d y.d φ
theorem Pr {rr:R2} {s:D->D->(EV->Prop)->Prop} {H₀:Hp} (hl:qj X.K rr s):∀ σ H Q,vc X.K H₀ (d2 s ta tb) σ H Q->tOp rr (vc X.K H₀ ta) (vc X.K H₀ tb) σ H Q:=fun σ H Q h=>by
 obtain ⟨ρ,o,R,φ,hφ,k⟩:=h
 refine ⟨ρ,o,R,_,hφ,fun v1 r1 H1 s1 rv1 h1=>⟨ρ,o,R.to s1,_,h1,fun v2 r2 H2 s2 rv2 h2=>?_⟩⟩
 exact hl H2 _ r1.d r2.d v1 v2 φ Q (fun a e=>R.ofree ((s1.trans s2).free e)) (rv1.same s2).view rv2.view h2 fun v r H' s3 rv h=>k v r H' (s1.trans (s2.trans s3)) (rv.start (s1.trans s2)) h
theorem fk {op:Operator} {rr:R2} {s:D->D->(EV->Prop)->Prop} (ho:OpR X (binaryOp op) rr) (hl:qj X.K rr s) (ha:ED Γ X a ta) (hb:ED Γ X b tb):ED Γ X (.BinOp a op b pos) (d2 s ta tb):=fun H₀ =>
 impE (En ho (ha H₀) (hb H₀)) (Pr hl)
theorem Nv {op:CmpOp} {rr:R2} {s:D->D->(EV->Prop)->Prop} (ho:OpR X (compareOp op) rr) (hl:qj X.K rr s) (ha:ED Γ X a ta) (hb:ED Γ X b tb) (hm:behindInMarks op b = false):ED Γ X (.Compare a [op] [b] pos) (d2 s ta tb):=fun H₀ =>
 impE (Lc ho (ha H₀) (hb H₀) hm) (Pr hl)
theorem Lg:OpR X (binaryOp .Mult) (rI IntMulOk fun i j=>.int (i * j)):=opI fun _ _ _ _ _ _ _ hc q=>PyProof.Rows.mul_int q hc
noncomputable def FdOk (i j:Int):Prop:=j ≠ 0 /\ j.natAbs.log2 < 9000
theorem Pf:OpR X (binaryOp .FloorDiv) (rI FdOk fun i j=>.int (i.fdiv j)):=opI fun _ _ _ _ _ _ _ hc q=>floordiv_int hc.1 q (.inl (PyProof.noPylong_of_log2 hc.2))
noncomputable def sI (C:Int->Int->Prop) (g:Int->Int->D):D->D->(EV->Prop)->Prop:=fun x y φ=>match x,y with
 | .int i,.int j=>C i j /\ φ (dv (g i j))
 | _,_=>False
theorem S5 {K:W.Frag} {C:Int->Int->Prop} {g:Int->Int->D} {gv:Int->Int->V} (hg:∀ i j H O,Rep K H O (g i j) (gv i j)):qj K (rI C gv) (sI C g):=by
 intro H O x y vx vy φ Q ho hx hy h k
 unfold sI at h
 split at h
 ·exact ⟨_,_,hx,hy,h.1,k _ _ H (Same.refl H) (by exact hg _ _ H O) h.2⟩
 ·exact h.elim
noncomputable def sI0 (g:Int->Int->D):D->D->(EV->Prop)->Prop:=fun x y φ=>match x,y with
 | .int i,.int j=>φ (dv (g i j))
 | _,_=>False
theorem kq {K:W.Frag} {g:Int->Int->D} {gv:Int->Int->V} (hg:∀ i j H O,Rep K H O (g i j) (gv i j)):qj K (rI0 gv) (sI0 g):=by
 intro H O x y vx vy φ Q ho hx hy h k
 unfold sI0 at h
 split at h
 ·exact ⟨_,_,hx,hy,k _ _ H (Same.refl H) (by exact hg _ _ H O) h⟩
 ·exact h.elim
noncomputable abbrev sSub:=sI0 fun i j=>.int (i - j)
noncomputable abbrev sFd:=sI FdOk fun i j=>.int (i.fdiv j)
noncomputable abbrev sMod:=sI (fun _ j=>j ≠ 0) fun i j=>.int (i.fmod j)
noncomputable abbrev sPow:=sI CPow fun i j=>.int (i ^ j.toNat)
noncomputable abbrev sLt:=sI0 fun i j=>.bl (decide (i < j))
noncomputable abbrev sLe:=sI0 fun i j=>.bl (decide (i <= j))
noncomputable abbrev sGt:=sI0 fun i j=>.bl (decide (j < i))
noncomputable abbrev sGe:=sI0 fun i j=>.bl (decide (j <= i))
theorem qd (ha:ED Γ X a ta) (hb:ED Γ X b tb):ED Γ X (.BinOp a .Sub b pos) (d2 sSub ta tb):=fk Hz (kq fun _ _ _ _=>rfl) ha hb
theorem ut (ha:ED Γ X a ta) (hb:ED Γ X b tb):ED Γ X (.BinOp a .FloorDiv b pos) (d2 sFd ta tb):=fk Pf (S5 fun _ _ _ _=>rfl) ha hb
theorem wn (ha:ED Γ X a ta) (hb:ED Γ X b tb):ED Γ X (.BinOp a .Mod b pos) (d2 sMod ta tb):=fk Lh (S5 fun _ _ _ _=>rfl) ha hb
theorem Rg (ha:ED Γ X a ta) (hb:ED Γ X b tb):ED Γ X (.BinOp a .Pow b pos) (d2 sPow ta tb):=fk Gb (S5 fun _ _ _ _=>rfl) ha hb
theorem Dh (ha:ED Γ X a ta) (hb:ED Γ X b tb):ED Γ X (.Compare a [.LtE] [b] pos) (d2 sLe ta tb):=Nv Et (kq fun _ _ _ _=>rfl) ha hb (t4 _)
noncomputable def sAdd:D->D->(EV->Prop)->Prop:=fun x y φ=>match x,y with
 | .int i,.int j=>φ (dv (.int (i + j)))
 | .str p,.str q=>p.length + q.length <= sizeLine /\ φ (dv (.str (p ++ q)))
 | .lst p,.lst q=>p.length + q.length <= sizeLine /\ φ (df (.lst (p ++ q)))
 | .tup p,.tup q=>p ≠ [] /\ q ≠ [] /\ p.length + q.length <= sizeLine /\ φ (dv (.tup (p ++ q)))
 | _,_=>False
theorem zu {H:Hp} {p:Addr} (h:H p = none) (o:HO):Same H (upd H p o):=fun b u q=>by rw [zj (ze q h)]; exact q
theorem Qz {K:W.Frag} {H:Hp} {O:List Addr} {p:Addr} {o:HO} {ds:List D} {xs:List V} (hp:H p = none) (r:Reps K H O ds xs):Reps K (upd H p o) O ds xs:=Reps.grow (Grow.same (zu hp o)) _ _ r
theorem Wx {H:Hp} {O:List Addr} {p:Addr} {o:HO} (hp:H p = none):Grow O (p :: O) H (upd H p o) :=
 ⟨fun b u h n=>⟨zu hp o b u h,fun z=>(List.mem_cons.mp z).elim (fun e=>ze h hp e) n⟩,fun b xs h=>zu hp o b _ h,fun b ob u h=>zu hp o b _ h⟩
theorem uy {K:W.Frag} {H:Hp} {O:List Addr} {p:Addr} {ds:List D} {xs:List V} (ho:∀ a,H a = none->a ∉ O) (hp:H p = none) (r:Reps K H O ds xs):RV K H (upd H p (.lst xs)) O (df (.lst ds)) (.ref p) :=
 ⟨p,rfl,hp,ho p hp,xs,zk,Reps.grow (Wx hp) _ _ r⟩
theorem Ta {K:W.Frag} {H:Hp} {O:List Addr} {p:Addr} {ds:List D} {xs:List V} (hp:H p = none) (r:Reps K H O ds xs):RV K H (upd H p (.tup xs)) O (dv (.tup ds)) (.ref p) :=
 ⟨p,xs,rfl,⟨SqT.of zk,zk⟩,Qz hp r⟩
theorem Pq:qj X.K (fun x y H Q=>rI0 (fun i j=>.int (i + j)) x y H Q \/ (∃ i j,x = .str i /\ y = .str j /\ i.length + j.length <= sizeLine /\ Q (.str (i ++ j)) H) \/ rCat x y H Q \/ Hf X.K x y H Q) sAdd:=by
 intro H O x y vx vy φ Q ho hx hy h k
 unfold sAdd at h
 split at h
 ·exact .inl ⟨_,_,hx,hy,k _ _ H (Same.refl H) (by exact rfl) h⟩
 ·exact .inr (.inl ⟨_,_,hx,hy,h.1,k _ _ H (Same.refl H) (by exact rfl) h.2⟩)
 ·obtain ⟨a1,xs,rfl,q1,r1⟩:=hx
  obtain ⟨a2,ys,rfl,q2,r2⟩:=hy
  refine .inr (.inr (.inl ⟨a1,a2,xs,ys,rfl,rfl,q1,q2,by rw [r1.length,r2.length]; exact h.1,fun p hp=>?_⟩))
  exact k _ _ _ (zu hp _) (uy ho hp (r1.append r2)) h.2
 ·obtain ⟨n1,n2,hz,hp⟩:=h
  obtain ⟨a1,xs,rfl,q1,r1⟩:=hx
  obtain ⟨a2,ys,rfl,q2,r2⟩:=hy
  refine .inr (.inr (.inr ⟨a1,a2,xs,ys,rfl,rfl,q1.1,q2.1,?_,by rw [r1.length,r2.length]; exact hz,fun z=>?_,fun _ p hpn=>?_⟩))
  ·intro z
   have e:=r1.length
   rw [z] at e
   exact n1 (List.eq_nil_of_length_eq_zero e.symm)
  ·exfalso
   have e:=r2.length
   rw [z] at e
   exact n2 (List.eq_nil_of_length_eq_zero e.symm)
  ·exact k _ _ _ (zu hpn _) (Ta hpn (r1.append r2)) hp
 ·exact h.elim
theorem xn (ha:ED Γ X a ta) (hb:ED Γ X b tb):ED Γ X (.BinOp a .Add b pos) (d2 sAdd ta tb):=fk (Gh.or (Vr.or (Gg.or Li))) Pq ha hb
noncomputable def sMul:D->D->(EV->Prop)->Prop:=fun x y φ=>match x,y with
 | .int i,.int j=>IntMulOk i j /\ φ (dv (.int (i * j)))
 | .lst p,.int k=>-(2 ^ 63) <= k /\ k < 2 ^ 63 /\ p.length * k.toNat <= sizeLine /\ φ (df (.lst (List.replicate k.toNat p).flatten))
 | _,_=>False
end
mutual
noncomputable def eqD:D->D->Bool
 | .non,.non=>true
 | .bl a,.bl b=>a == b
 | .bl a,.int b=>(if a then 1 else 0) == b
 | .int a,.bl b=>a == (if b then 1 else 0)
 | .int a,.int b=>a == b
 | .str a,.str b=>a == b
 | .tup a,.tup b=>eqDs a b
 | .lst a,.lst b=>eqDs a b
 | _,_=>false
noncomputable def eqDs:List D->List D->Bool
 | [],[]=>true
 | a :: as,b :: bs=>eqD a b && eqDs as bs
 | _,_=>false
end
noncomputable def okD:Nat->D->Prop
 | 0,d=>match d with
  | .non=>True
  | .bl _=>True
  | .int _=>True
  | .str _=>True
  | _=>False
 | n + 1,d=>match d with
  | .non=>True
  | .bl _=>True
  | .int _=>True
  | .str _=>True
  | .tup ds=>∀ x ∈ ds,okD n x
  | .lst ds=>∀ x ∈ ds,okD n x
  | _=>False
theorem tj:∀ {ds es:List D},eqDs ds es = true ↔ ds.length = es.length /\ ∀ (j:Nat) (x y:D),ds[j]? = some x->es[j]? = some y->eqD x y = true
 | [],[]=>by simp [eqDs]
 | [],y :: es=>by simp [eqDs]
 | x :: ds,[]=>by simp [eqDs]
 | x :: ds,y :: es=>by
  rw [eqDs,Bool.and_eq_true,tj]
  constructor
  ·rintro ⟨h,hl,q⟩
   refine ⟨by simp [hl],fun j a b ha hb=>?_⟩
   cases j with
   | zero=>simp at ha hb; subst ha hb; exact h
   | succ j=>exact q j a b (by simpa using ha) (by simpa using hb)
  ·rintro ⟨hl,q⟩
   exact ⟨q 0 x y rfl rfl,by simpa using hl,fun j a b ha hb=>q (j + 1) a b (by simpa using ha) (by simpa using hb)⟩
theorem rh (ds es:List D):eqDs ds es = ((List.range (min ds.length es.length)).all (fun j=>eqD (ds.getD j .non) (es.getD j .non)) && ds.length == es.length):=by
 rw [Bool.eq_iff_iff,tj,Bool.and_eq_true,List.all_eq_true]
 constructor
 ·rintro ⟨hl,q⟩
  refine ⟨fun j hj=>?_,by simp [hl]⟩
  have hj':=List.mem_range.mp hj
  have h1:j < ds.length:=by omega
  have h2:j < es.length:=by omega
  have e1:ds[j]? = some ds[j]:=by simp [h1]
  have e2:es[j]? = some es[j]:=by simp [h2]
  have:=q j _ _ e1 e2
  simpa [List.getD,e1,e2] using this
 ·rintro ⟨q,hl⟩
  have hl':ds.length = es.length:=by simpa using hl
  refine ⟨hl',fun j x y hx hy=>?_⟩
  have h1:=(List.getElem?_eq_some_iff.mp hx).1
  have:=q j (List.mem_range.mpr (by omega))
  simpa [List.getD,hx,hy] using this
theorem tm:∀ (n:Nat) (d:D),okD n d->eqD d d = true:=by
 intro n
 induction n with
 | zero=>intro d h; cases d <;> first | exact h.elim | simp [eqD]
 | succ n ih =>
  intro d h
  cases d with
  | tup ds =>
   show eqDs ds ds = true
   refine tj.mpr ⟨rfl,fun j x y hx hy=>?_⟩
   rw [hx] at hy
   cases hy
   exact ih x (h x (List.mem_of_getElem? hx))
  | lst ds =>
   show eqDs ds ds = true
   refine tj.mpr ⟨rfl,fun j x y hx hy=>?_⟩
   rw [hx] at hy
   cases hy
   exact ih x (h x (List.mem_of_getElem? hx))
  | dk _ _=>exact h.elim
  | dt _ _=>exact h.elim
  | ty _=>exact h.elim
  | cn _=>exact h.elim
  | scr _=>exact h.elim
  | dz _=>exact h.elim
  | exc _=>exact h.elim
  | fd _=>exact h.elim
  | ob _ _ _=>exact h.elim
  | _=>simp [eqD]
section
variable {X:Cx} {pn:List (Addr × Obj)} {σ:St} {H:Hp} {s:Shared}
theorem Rep.inj (I:Inv X pn σ H s):∀ (n:Nat) (d e:D) (v:V),okD n d->okD n e->Rep X.K H [] d v->Rep X.K H [] e v->d = e:=by
 intro n
 induction n with
 | zero =>
  intro d e v hd he h1 h2
  cases d <;> first | exact hd.elim | (cases e <;> first | exact he.elim | (have z:=(show v = _ from h1).symm.trans (show v = _ from h2); first | rfl | (injection z with z; rw [z]) | cases z))
 | succ n ih =>
  have lists:∀ (ds es:List D) (xs:List V),(∀ x ∈ ds,okD n x)->(∀ x ∈ es,okD n x)->Reps X.K H [] ds xs->Reps X.K H [] es xs->ds = es:=by
   intro ds
   induction ds with
   | nil =>
    intro es xs _ _ r1 r2
    have:=r1.length
    have h2:=r2.length
    rw [this] at h2
    exact (List.eq_nil_of_length_eq_zero h2.symm).symm
   | cons d ds ih2 =>
    intro es xs h1 h2 r1 r2
    obtain ⟨v,r,rfl,q,t⟩:=r1
    cases es with
    | nil=>cases r2
    | cons e es =>
     obtain ⟨v',r',e1,q',t'⟩:=r2
     cases e1
     rw [ih d e v (h1 d (List.mem_cons_self ..)) (h2 e (List.mem_cons_self ..)) q q',ih2 es r (fun x hx=>h1 x (List.mem_cons_of_mem _ hx)) (fun x hx=>h2 x (List.mem_cons_of_mem _ hx)) t t']
  intro d e v hd he h1 h2
  have noTL:∀ (a:Addr) (xs ys:List V),SqT X.K H a xs->H a = some (.lst ys)->False:=fun a xs ys q1 q2=>by
   obtain ⟨its,_,p1,_⟩:=I.tuple q1
   obtain ⟨its2,_,p2,_⟩:=I.list (SqL.of q2)
   exact SeqAt.ne_of_list_tuple p2.isList (show s.heap.IsTuple a its.toArray from p1) rfl
  cases d with
  | tup ds =>
   obtain ⟨a,xs,rfl,q1,r1⟩:=h1
   cases e with
   | tup es =>
    obtain ⟨a',ys,e1,q2,r2⟩:=h2
    cases e1
    have:=I.tuple_inj q1.1 q2.1
    subst this
    rw [lists ds es xs hd he r1 r2]
   | lst es =>
    obtain ⟨a',ys,e1,q2,_,r2⟩:=h2
    cases e1
    exact (noTL _ _ _ q1.1 q2).elim
   | dk _ _=>exact he.elim
   | dt _ _=>exact he.elim
   | scr _=>exact he.elim
   | dz _=>exact he.elim
   | exc _=>exact he.elim
   | fd _=>exact he.elim
   | ob _ _ _=>exact he.elim
   | ty _=>exact he.elim
   | cn _=>exact he.elim
   | _=>cases (show V.ref a = _ from h2)
  | lst ds =>
   obtain ⟨a,xs,rfl,q1,_,r1⟩:=h1
   cases e with
   | tup es =>
    obtain ⟨a',ys,e1,q2,r2⟩:=h2
    cases e1
    exact (noTL _ _ _ q2.1 q1).elim
   | lst es =>
    obtain ⟨a',ys,e1,q2,_,r2⟩:=h2
    cases e1
    have:=I.list_inj (SqL.of q1) (SqL.of q2)
    subst this
    rw [lists ds es xs hd he r1 r2]
   | dk _ _=>exact he.elim
   | dt _ _=>exact he.elim
   | scr _=>exact he.elim
   | dz _=>exact he.elim
   | exc _=>exact he.elim
   | fd _=>exact he.elim
   | ob _ _ _=>exact he.elim
   | ty _=>exact he.elim
   | cn _=>exact he.elim
   | _=>cases (show V.ref a = _ from h2)
  | dk _ _=>exact hd.elim
  | dt _ _=>exact hd.elim
  | scr _=>exact hd.elim
  | dz _=>exact hd.elim
  | exc _=>exact hd.elim
  | fd _=>exact hd.elim
  | ob _ _ _=>exact hd.elim
  | ty _=>exact hd.elim
  | cn _=>exact hd.elim
  | non =>
   cases e with
   | tup es=>obtain ⟨a',ys,e1,_⟩:=h2; cases (show v = _ from h1); cases e1
   | lst es=>obtain ⟨a',ys,e1,_⟩:=h2; cases (show v = _ from h1); cases e1
   | dk _ _=>exact he.elim
   | dt _ _=>exact he.elim
   | scr _=>exact he.elim
   | dz _=>exact he.elim
   | exc _=>exact he.elim
   | fd _=>exact he.elim
   | ob _ _ _=>exact he.elim
   | ty _=>exact he.elim
   | cn _=>exact he.elim
   | non=>rfl
   | _=>cases (show v = _ from h1); cases (show V.non = _ from h2)
  | bl b =>
   cases e with
   | tup es=>obtain ⟨a',ys,e1,_⟩:=h2; cases (show v = _ from h1); cases e1
   | lst es=>obtain ⟨a',ys,e1,_⟩:=h2; cases (show v = _ from h1); cases e1
   | dk _ _=>exact he.elim
   | dt _ _=>exact he.elim
   | scr _=>exact he.elim
   | dz _=>exact he.elim
   | exc _=>exact he.elim
   | fd _=>exact he.elim
   | ob _ _ _=>exact he.elim
   | ty _=>exact he.elim
   | cn _=>exact he.elim
   | _=>cases (show v = _ from h1); cases (show V.bl b = _ from h2) <;> rfl
  | int b =>
   cases e with
   | tup es=>obtain ⟨a',ys,e1,_⟩:=h2; cases (show v = _ from h1); cases e1
   | lst es=>obtain ⟨a',ys,e1,_⟩:=h2; cases (show v = _ from h1); cases e1
   | dk _ _=>exact he.elim
   | dt _ _=>exact he.elim
   | scr _=>exact he.elim
   | dz _=>exact he.elim
   | exc _=>exact he.elim
   | fd _=>exact he.elim
   | ob _ _ _=>exact he.elim
   | ty _=>exact he.elim
   | cn _=>exact he.elim
   | _=>cases (show v = _ from h1); cases (show V.int b = _ from h2) <;> rfl
  | str b =>
   cases e with
   | tup es=>obtain ⟨a',ys,e1,_⟩:=h2; cases (show v = _ from h1); cases e1
   | lst es=>obtain ⟨a',ys,e1,_⟩:=h2; cases (show v = _ from h1); cases e1
   | dk _ _=>exact he.elim
   | dt _ _=>exact he.elim
   | scr _=>exact he.elim
   | dz _=>exact he.elim
   | exc _=>exact he.elim
   | fd _=>exact he.elim
   | ob _ _ _=>exact he.elim
   | ty _=>exact he.elim
   | cn _=>exact he.elim
   | _=>cases (show v = _ from h1); cases (show V.str b = _ from h2) <;> rfl
inductive Sh (K:W.Frag) (H:Hp) (s:Shared):D->Value->Prop where
 | non:Sh K H s .non .none
 | bl (b:Bool):Sh K H s (.bl b) (.bool b)
 | int (i:Int) (t:Tok):Sh K H s (.int i) (.int i t)
 | str (x:Str) (t:Tok):Sh K H s (.str x) (.str x t)
 | tup {a:Addr} {ds:List D} {xs:List V} {its:List Value} (p:s.heap.IsTuple a its.toArray) (r:Vals xs its) (q:Reps K H [] ds xs):Sh K H s (.tup ds) (.ref a)
 | lst {a:Addr} {ds:List D} {xs:List V} {its:List Value} (p:s.heap.IsList a its.toArray) (r:Vals xs its) (q:Reps K H [] ds xs):Sh K H s (.lst ds) (.ref a)
theorem qg (I:Inv X pn σ H s) {n:Nat} {d:D} {x:V} {u:Value} (hd:okD n d) (h:Rep X.K H [] d x) (r:RelV x u):Sh X.K H s d u:=by
 cases d with
 | non=>cases (show x = _ from h); cases r; exact .non
 | bl b=>cases (show x = _ from h); cases r; exact .bl b
 | int b=>cases (show x = _ from h); obtain ⟨t,rfl⟩:=r; exact .int b t
 | str b=>cases (show x = _ from h); obtain ⟨t,rfl⟩:=r; exact .str b t
 | ty _=>cases n <;> exact hd.elim
 | cn _=>cases n <;> exact hd.elim
 | dk _ _=>cases n <;> exact hd.elim
 | dt _ _=>cases n <;> exact hd.elim
 | scr _=>cases n <;> exact hd.elim
 | dz _=>cases n <;> exact hd.elim
 | exc _=>cases n <;> exact hd.elim
 | fd _=>cases n <;> exact hd.elim
 | ob _ _ _=>cases n <;> exact hd.elim
 | tup ds =>
  obtain ⟨a,xs,rfl,q,t⟩:=h
  cases r
  obtain ⟨its,rv,p,_⟩:=I.tuple q.1
  exact .tup (show s.heap.IsTuple a its.toArray from p) rv t
 | lst ds =>
  obtain ⟨a,xs,rfl,q,_,t⟩:=h
  cases r
  obtain ⟨its,rv,p,_⟩:=I.list (SqL.of q)
  exact .lst p.isList rv t
theorem Rf (I:Inv X pn σ H s):∀ (n:Nat) (d e:D) (x y:V) (u v:Value) (A:Around),okD n d->okD n e->Rep X.K H [] d x->Rep X.K H [] e y->RelV x u->RelV y v->A.units + n < cLine ->
  SeqAt.RcAt A s u v (eqD d e) /\ SeqAt.RcNeAt A s u v (!eqD d e) /\ SeqAt.EqAt A s u v (eqD d e):=by
 intro n
 induction n with
 | zero =>
  intro d e x y u v A hd he h1 h2 r1 r2 hu
  have hu':A.units < cLine:=by omega
  cases qg I hd h1 r1 with
  | tup=>exact hd.elim
  | lst=>exact hd.elim
  | non =>
   cases qg I he h2 r2 with
   | non=>exact ⟨SeqAt.RcAt.none_none,SeqAt.RcNeAt.none_none,SeqAt.EqAt.same _⟩
   | bl b=>exact ⟨SeqAt.RcAt.none_bool b,SeqAt.RcNeAt.none_bool b,SeqAt.EqAt.none_bool b⟩
   | int i t=>exact ⟨SeqAt.RcAt.none_int i t,SeqAt.RcNeAt.none_int i t,SeqAt.EqAt.none_int i t⟩
   | str i t=>exact ⟨SeqAt.RcAt.none_str i t,SeqAt.RcNeAt.none_str i t,SeqAt.EqAt.none_str i t⟩
   | tup=>exact he.elim
   | lst=>exact he.elim
  | bl a =>
   cases qg I he h2 r2 with
   | non=>exact ⟨SeqAt.RcAt.bool_none a,SeqAt.RcNeAt.bool_none a,SeqAt.EqAt.bool_none a⟩
   | bl b=>exact ⟨SeqAt.RcAt.bool_bool a b,SeqAt.RcNeAt.bool_bool a b,SeqAt.EqAt.bool_bool a b⟩
   | int i t=>exact ⟨SeqAt.RcAt.bool_int a i t,SeqAt.RcNeAt.bool_int a i t,SeqAt.EqAt.bool_int a i t⟩
   | str i t=>exact ⟨SeqAt.RcAt.bool_str a i t,SeqAt.RcNeAt.bool_str a i t,SeqAt.EqAt.bool_str a i t⟩
   | tup=>exact he.elim
   | lst=>exact he.elim
  | int a t =>
   cases qg I he h2 r2 with
   | non=>exact ⟨SeqAt.RcAt.int_none a t,SeqAt.RcNeAt.int_none a t,SeqAt.EqAt.int_none a t⟩
   | bl b=>exact ⟨SeqAt.RcAt.int_bool a t b,SeqAt.RcNeAt.int_bool a t b,SeqAt.EqAt.int_bool a t b⟩
   | int i t'=>exact ⟨SeqAt.RcAt.int_int a t i t',SeqAt.RcNeAt.int_int a t i t',SeqAt.EqAt.int_int a t i t'⟩
   | str i t'=>exact ⟨SeqAt.RcAt.int_str a t i t',SeqAt.RcNeAt.int_str a t i t',SeqAt.EqAt.int_str a t i t'⟩
   | tup=>exact he.elim
   | lst=>exact he.elim
  | str a t =>
   cases qg I he h2 r2 with
   | non=>exact ⟨SeqAt.RcAt.str_none a t,SeqAt.RcNeAt.str_none a t,SeqAt.EqAt.str_none a t⟩
   | bl b=>exact ⟨SeqAt.RcAt.str_bool a t b,SeqAt.RcNeAt.str_bool a t b,SeqAt.EqAt.str_bool a t b⟩
   | int i t'=>exact ⟨SeqAt.RcAt.str_int a t i t',SeqAt.RcNeAt.str_int a t i t',SeqAt.EqAt.str_int a t i t'⟩
   | str i t'=>exact ⟨SeqAt.RcAt.str_str a t i t',SeqAt.RcNeAt.str_str a t i t',SeqAt.EqAt.str_str a t i t'⟩
   | tup=>exact he.elim
   | lst=>exact he.elim
 | succ n ih =>
  intro d e x y u v A hd he h1 h2 r1 r2 hu
  have hu':A.units < cLine:=by omega
  have hin:A.in1.units + n < cLine:=by
   have:A.in1.units = A.units + 1:=rfl
   omega
  have refs:∀ {l b:Addr} {k:Bool},u = .ref l->v = .ref b->k = eqD d e->SeqAt.RcAt A s (.ref l) (.ref b) k->SeqAt.EqAt A s (.ref l) (.ref b) k:=fun {l b k} e1 e2 ek h=>by
   by_cases hlb:l = b
   ·subst hlb
    have hv:x = y:=by
     have z1:x = .ref l:=by
      cases x <;> subst e1 <;> first | (have:=(show Value.ref l = Value.ref _ from r1); cases this; rfl) | (obtain ⟨t,z⟩:=r1; cases z) | cases r1
     have z2:y = .ref l:=by
      cases y <;> subst e2 <;> first | (have:=(show Value.ref l = Value.ref _ from r2); cases this; rfl) | (obtain ⟨t,z⟩:=r2; cases z) | cases r2
     rw [z1,z2]
    subst hv
    have hde:=Rep.inj I (n + 1) d e x hd he h1 h2
    subst hde
    rw [ek,tm (n + 1) d hd]
    exact SeqAt.EqAt.same _
   ·exact SeqAt.EqAt.of_refs hlb h
  have items:∀ {ds es:List D} {xs ys:List V} {its its2:List Value},(∀ z ∈ ds,okD n z)->(∀ z ∈ es,okD n z)->Reps X.K H [] ds xs->Reps X.K H [] es ys->Vals xs its->Vals ys its2 ->
    ∀ j (h1:j < its.toArray.size) (h2:j < its2.toArray.size),SeqAt.EqAt A.in1 s its.toArray[j] its2.toArray[j] (eqD (ds.getD j .non) (es.getD j .non)):=fun {ds es xs ys its its2} o1 o2 q1 q2 w1 w2 j h1 h2=>by
   have l1:=w1.length
   have l2:=w2.length
   have k1:=q1.length
   have k2:=q2.length
   have g1:j < ds.length:=by simp at h1; omega
   have g2:j < es.length:=by simp at h2; omega
   have e1:ds[j]? = some ds[j]:=by simp [g1]
   have e2:es[j]? = some es[j]:=by simp [g2]
   obtain ⟨x',ex,rx⟩:=q1.get e1
   obtain ⟨y',ey,ry⟩:=q2.get e2
   obtain ⟨u',eu,ru⟩:=w1.get ex
   obtain ⟨v',ev,rv⟩:=w2.get ey
   have f1:its.toArray[j] = u':=by
    have:=(List.getElem?_eq_some_iff.mp eu).2
    simpa using this
   have f2:its2.toArray[j] = v':=by
    have:=(List.getElem?_eq_some_iff.mp ev).2
    simpa using this
   rw [f1,f2,show ds.getD j .non = ds[j] by simp [List.getD,e1],show es.getD j .non = es[j] by simp [List.getD,e2]]
   exact (ih ds[j] es[j] x' y' u' v' A.in1 (o1 _ (List.getElem_mem g1)) (o2 _ (List.getElem_mem g2)) rx ry ru rv hin).2.2
  cases qg I hd h1 r1 with
  | non =>
   cases qg I he h2 r2 with
   | non=>exact ⟨SeqAt.RcAt.none_none,SeqAt.RcNeAt.none_none,SeqAt.EqAt.same _⟩
   | bl b=>exact ⟨SeqAt.RcAt.none_bool b,SeqAt.RcNeAt.none_bool b,SeqAt.EqAt.none_bool b⟩
   | int i t=>exact ⟨SeqAt.RcAt.none_int i t,SeqAt.RcNeAt.none_int i t,SeqAt.EqAt.none_int i t⟩
   | str i t=>exact ⟨SeqAt.RcAt.none_str i t,SeqAt.RcNeAt.none_str i t,SeqAt.EqAt.none_str i t⟩
   | tup p _ _=>exact ⟨SeqAt.RcAt.none_tuple p hu',SeqAt.RcNeAt.none_tuple p hu',SeqAt.EqAt.none_tuple p hu'⟩
   | lst p _ _=>exact ⟨SeqAt.RcAt.none_list p hu',SeqAt.RcNeAt.none_list p hu',SeqAt.EqAt.none_list p hu'⟩
  | bl a =>
   cases qg I he h2 r2 with
   | non=>exact ⟨SeqAt.RcAt.bool_none a,SeqAt.RcNeAt.bool_none a,SeqAt.EqAt.bool_none a⟩
   | bl b=>exact ⟨SeqAt.RcAt.bool_bool a b,SeqAt.RcNeAt.bool_bool a b,SeqAt.EqAt.bool_bool a b⟩
   | int i t=>exact ⟨SeqAt.RcAt.bool_int a i t,SeqAt.RcNeAt.bool_int a i t,SeqAt.EqAt.bool_int a i t⟩
   | str i t=>exact ⟨SeqAt.RcAt.bool_str a i t,SeqAt.RcNeAt.bool_str a i t,SeqAt.EqAt.bool_str a i t⟩
   | tup p _ _=>exact ⟨SeqAt.RcAt.bool_tuple a p hu',SeqAt.RcNeAt.bool_tuple a p hu',SeqAt.EqAt.bool_tuple a p hu'⟩
   | lst p _ _=>exact ⟨SeqAt.RcAt.bool_list a p hu',SeqAt.RcNeAt.bool_list a p hu',SeqAt.EqAt.bool_list a p hu'⟩
  | int a t =>
   cases qg I he h2 r2 with
   | non=>exact ⟨SeqAt.RcAt.int_none a t,SeqAt.RcNeAt.int_none a t,SeqAt.EqAt.int_none a t⟩
   | bl b=>exact ⟨SeqAt.RcAt.int_bool a t b,SeqAt.RcNeAt.int_bool a t b,SeqAt.EqAt.int_bool a t b⟩
   | int i t'=>exact ⟨SeqAt.RcAt.int_int a t i t',SeqAt.RcNeAt.int_int a t i t',SeqAt.EqAt.int_int a t i t'⟩
   | str i t'=>exact ⟨SeqAt.RcAt.int_str a t i t',SeqAt.RcNeAt.int_str a t i t',SeqAt.EqAt.int_str a t i t'⟩
   | tup p _ _=>exact ⟨SeqAt.RcAt.int_tuple a t p hu',SeqAt.RcNeAt.int_tuple a t p hu',SeqAt.EqAt.int_tuple a t p hu'⟩
   | lst p _ _=>exact ⟨SeqAt.RcAt.int_list a t p hu',SeqAt.RcNeAt.int_list a t p hu',SeqAt.EqAt.int_list a t p hu'⟩
  | str a t =>
   cases qg I he h2 r2 with
   | non=>exact ⟨SeqAt.RcAt.str_none a t,SeqAt.RcNeAt.str_none a t,SeqAt.EqAt.str_none a t⟩
   | bl b=>exact ⟨SeqAt.RcAt.str_bool a t b,SeqAt.RcNeAt.str_bool a t b,SeqAt.EqAt.str_bool a t b⟩
   | int i t'=>exact ⟨SeqAt.RcAt.str_int a t i t',SeqAt.RcNeAt.str_int a t i t',SeqAt.EqAt.str_int a t i t'⟩
   | str i t'=>exact ⟨SeqAt.RcAt.str_str a t i t',SeqAt.RcNeAt.str_str a t i t',SeqAt.EqAt.str_str a t i t'⟩
   | tup p _ _=>exact ⟨SeqAt.RcAt.str_tuple a t p hu',SeqAt.RcNeAt.str_tuple a t p hu',SeqAt.EqAt.str_tuple a t p hu'⟩
   | lst p _ _=>exact ⟨SeqAt.RcAt.str_list a t p hu',SeqAt.RcNeAt.str_list a t p hu',SeqAt.EqAt.str_list a t p hu'⟩
  | @tup l ds xs its p r q =>
   cases qg I he h2 r2 with
   | non=>exact ⟨SeqAt.RcAt.tuple_none p hu',SeqAt.RcNeAt.tuple_none p hu',SeqAt.EqAt.tuple_none p hu'⟩
   | bl b=>exact ⟨SeqAt.RcAt.tuple_bool b p hu',SeqAt.RcNeAt.tuple_bool b p hu',SeqAt.EqAt.tuple_bool b p hu'⟩
   | int i t=>exact ⟨SeqAt.RcAt.tuple_int i t p hu',SeqAt.RcNeAt.tuple_int i t p hu',SeqAt.EqAt.tuple_int i t p hu'⟩
   | str i t=>exact ⟨SeqAt.RcAt.tuple_str i t p hu',SeqAt.RcNeAt.tuple_str i t p hu',SeqAt.EqAt.tuple_str i t p hu'⟩
   | lst p2 _ _=>exact ⟨SeqAt.RcAt.tuple_list p p2 hu',SeqAt.RcNeAt.tuple_list p p2 hu',SeqAt.EqAt.tuple_list p p2 hu'⟩
   | @tup b es ys its2 p2 r' q' =>
    have e1:its.toArray.size = ds.length:=by rw [List.size_toArray,<- r.length,q.length]
    have e2:its2.toArray.size = es.length:=by rw [List.size_toArray,<- r'.length,q'.length]
    have ek:eqD (.tup ds) (.tup es) = ((List.range (min its.toArray.size its2.toArray.size)).all (fun j=>eqD (ds.getD j .non) (es.getD j .non)) && its.toArray.size == its2.toArray.size):=by
     rw [e1,e2]
     exact rh ds es
    rw [ek]
    have hrc:=SeqAt.RcAt.tuples p p2 hu' (items hd he q q' r r')
    exact ⟨hrc,SeqAt.RcNeAt.tuples p p2 hu' (items hd he q q' r r'),refs rfl rfl ek.symm hrc⟩
  | @lst l ds xs its p r q =>
   cases qg I he h2 r2 with
   | non=>exact ⟨SeqAt.RcAt.list_none p hu',SeqAt.RcNeAt.list_none p hu',SeqAt.EqAt.list_none p hu'⟩
   | bl b=>exact ⟨SeqAt.RcAt.list_bool b p hu',SeqAt.RcNeAt.list_bool b p hu',SeqAt.EqAt.list_bool b p hu'⟩
   | int i t=>exact ⟨SeqAt.RcAt.list_int i t p hu',SeqAt.RcNeAt.list_int i t p hu',SeqAt.EqAt.list_int i t p hu'⟩
   | str i t=>exact ⟨SeqAt.RcAt.list_str i t p hu',SeqAt.RcNeAt.list_str i t p hu',SeqAt.EqAt.list_str i t p hu'⟩
   | tup p2 _ _=>exact ⟨SeqAt.RcAt.list_tuple p p2 hu',SeqAt.RcNeAt.list_tuple p p2 hu',SeqAt.EqAt.list_tuple p p2 hu'⟩
   | @lst b es ys its2 p2 r' q' =>
    have e1:its.toArray.size = ds.length:=by rw [List.size_toArray,<- r.length,q.length]
    have e2:its2.toArray.size = es.length:=by rw [List.size_toArray,<- r'.length,q'.length]
    by_cases hsz:its.toArray.size = its2.toArray.size
    ·have ek:eqD (.lst ds) (.lst es) = (List.range its.toArray.size).all (fun j=>eqD (ds.getD j .non) (es.getD j .non)):=by
      show eqDs ds es = _
      rw [rh,<- e1,<- e2,<- hsz]
      simp
     rw [ek]
     have hrc:=SeqAt.RcAt.lists p p2 hsz hu' (items hd he q q' r r')
     exact ⟨hrc,SeqAt.RcNeAt.lists p p2 hsz hu' (items hd he q q' r r'),refs rfl rfl ek.symm hrc⟩
    ·have ek:eqD (.lst ds) (.lst es) = false:=by
      show eqDs ds es = _
      have hb:(its.toArray.size == its2.toArray.size) = false:=beq_eq_false_iff_ne.mpr hsz
      rw [rh,<- e1,<- e2,hb,Bool.and_false]
     rw [ek]
     have hne:(its.toArray.size != its2.toArray.size) = true:=by simpa using hsz
     have hrc:=SeqAt.RcAt.lists_lengths p p2 hne hu'
     exact ⟨hrc,SeqAt.RcNeAt.lists_lengths p p2 hne hu',refs rfl rfl ek.symm hrc⟩
end
section
variable {X:Cx} {a b:Expr} {ta tb:TD} {pos:Pos}
noncomputable def rEqD (K:W.Frag) (neg:Bool):R2:=fun x y H Q=>∃ d e,Rep K H [] d x /\ Rep K H [] e y /\ okD 40 d /\ okD 40 e /\ Q (.bl (if neg then !eqD d e else eqD d e)) H
theorem Gf (hu:X.A.units + 64 < cLine):OpR X (compareOp .Eq) (rEqD X.K false):=by
 intro pn s σ H x y v u Q I rx ry h
 obtain ⟨d,e,h1,h2,o1,o2,q⟩:=h
 exact (Rf I 40 d e x y v u X.A o1 o2 h1 h2 rx ry (by omega)).1 X.prog X.w X.xe _ ⟨.bl _,H,I,rfl,q⟩
theorem Gc (hu:X.A.units + 64 < cLine):OpR X (compareOp .NotEq) (rEqD X.K true):=by
 intro pn s σ H x y v u Q I rx ry h
 obtain ⟨d,e,h1,h2,o1,o2,q⟩:=h
 exact (Rf I 40 d e x y v u X.A o1 o2 h1 h2 rx ry (by omega)).2.1 X.prog X.w X.xe _ ⟨.bl _,H,I,rfl,q⟩
noncomputable def sEq:D->D->(EV->Prop)->Prop:=fun x y φ=>okD 40 x /\ okD 40 y /\ φ (dv (.bl (eqD x y)))
noncomputable def sNe:D->D->(EV->Prop)->Prop:=fun x y φ=>okD 40 x /\ okD 40 y /\ φ (dv (.bl (!eqD x y)))
end
section
variable {X:Cx} {a b c e:Expr} {es:List Expr} {ta tb tc te:TD} {t:TDs} {pos:Pos}
theorem Pl:qj X.K (fun x y H Q=>rI IntMulOk (fun i j=>.int (i * j)) x y H Q \/ rRep x y H Q) sMul:=by
 intro H O x y vx vy φ Q ho hx hy h k
 unfold sMul at h
 split at h
 ·exact .inl ⟨_,_,hx,hy,h.1,k _ _ H (Same.refl H) (by exact rfl) h.2⟩
 ·obtain ⟨h1,h2,h3,h4⟩:=h
  obtain ⟨a1,xs,rfl,q1,r1⟩:=hx
  refine .inr ⟨a1,_,xs,rfl,hy,q1,h1,h2,by rw [r1.length]; exact h3,fun p hp=>?_⟩
  exact k _ _ _ (zu hp _) (uy ho hp (r1.rep _)) h4
 ·exact h.elim
theorem yk (ha:ED Γ X a ta) (hb:ED Γ X b tb):ED Γ X (.BinOp a .Mult b pos) (d2 sMul ta tb):=fk (Lg.or Ga) Pl ha hb
noncomputable def sNeg:D->(EV->Prop)->Prop:=fun x φ=>match x with
 | .int i=>φ (dv (.int (-i)))
 | _=>False
noncomputable def d1 (s:D->(EV->Prop)->Prop) (ta:TD):TD:=fun ρ φ=>ta ρ fun x=>s x.d φ
theorem jd (ha:ED Γ X a ta):ED Γ X (.UnaryOp .USub a pos) (d1 sNeg ta):=fun H₀=>impE (Em J3 (ha H₀)) fun σ H Q h=>by
 obtain ⟨ρ,o,R,φ,hφ,k⟩:=h
 refine ⟨ρ,o,R,_,hφ,fun v1 r1 H1 s1 rv1 h1=>?_⟩
 obtain ⟨kd,d⟩:=r1
 have hv:=rv1.view
 cases d with
 | int i=>exact ⟨i,hv,k _ _ H1 s1 (by exact rfl) h1⟩
 | _=>exact h1.elim
noncomputable def truD:D->Option Bool
 | .non=>some false
 | .bl b=>some b
 | .int i=>some (i != 0)
 | .str x=>if x.length <= sizeLine then some ((x.length:Int) != 0) else none
 | .lst ds=>some (!ds.isEmpty)
 | .scr ns=>some (!ns.isEmpty)
 | .dz _=>none
 | .tup ds=>some (!ds.isEmpty)
 | .dk _ ds=>some (!ds.isEmpty)
 | .dt _ _=>none
 | .ty _=>none
 | .cn _=>none
 | .exc _=>none
 | .fd _=>none
 | .ob _ _ _=>none
theorem qb {K:W.Frag} {H:Hp} {O:List Addr} {ds:List D} {xs:List V} (r:Reps K H O ds xs):xs.isEmpty = ds.isEmpty:=by
 have:=r.length
 cases xs <;> cases ds <;> simp_all
theorem Qk {K:W.Frag} {H:Hp} {O:List Addr} {d:D} {v:V} {b:Bool} (h:View K H O d v) (e:truD d = some b):TruV K v H b:=by
 cases d with
 | non=>cases (show v = _ from h); cases e; rfl
 | bl i=>cases (show v = _ from h); cases e; rfl
 | int i=>cases (show v = _ from h); cases e; rfl
 | str x =>
  cases (show v = _ from h)
  have e':(if x.length <= sizeLine then some ((x.length:Int) != 0) else none) = some b:=e
  split at e'
  ·rename_i hz
   cases e'
   exact ⟨hz,rfl⟩
  ·cases e'
 | ty _=>cases e
 | cn _=>cases e
 | exc _=>cases e
 | fd _=>cases e
 | ob _ _ _=>cases e
 | lst ds =>
  obtain ⟨a,xs,rfl,q,r⟩:=h
  cases e
  exact .inl ⟨xs,SqL.of q,by rw [qb r]⟩
 | scr ns =>
  obtain ⟨a,rfl,q⟩:=h
  cases e
  exact .inl ⟨_,q.seq,by cases ns <;> rfl⟩
 | dz _=>cases e
 | tup ds =>
  obtain ⟨a,xs,rfl,q,r⟩:=h
  cases e
  exact .inr (.inl ⟨xs,q.1,by rw [qb r]⟩)
 | dk ks ds =>
  obtain ⟨a,xs,rfl,q,l,_,r⟩:=h
  cases e
  refine .inr (.inr ⟨_,q,?_⟩)
  have:=r.length
  cases ks <;> cases ds <;> cases xs <;> simp_all
 | dt ks ds=>cases e
noncomputable def tTru (t:TD):TDb:=fun ρ φ=>t ρ fun r=>match truD r.d with
 | some b=>φ b
 | none=>False
theorem t9 (h:ED Γ X a ta) (he:∀ whole,isTrue a X.env whole = (do let v <- whole; standAt a.pos; holding [v] (truthy v)):=by intro _; rfl):ET Γ X a (tTru ta):=fun H₀=>impT (P7 (h H₀) he) fun σ H Q q=>by
 obtain ⟨ρ,o,R,φ,hφ,k⟩:=q
 refine ⟨ρ,o,R,_,hφ,fun v1 r1 H1 s1 rv1 h1=>?_⟩
 cases e:truD r1.d with
 | none=>simp only [e] at h1
 | some b =>
  simp only [e] at h1
  exact ⟨b,Qk rv1.view e,k b H1 s1 h1⟩
noncomputable def tBo (t:TD):TDb:=fun ρ φ=>t ρ fun r=>match r.d with
 | .bl b=>φ b
 | _=>False
theorem jc {op:CmpOp} {rr:R2} {s:D->D->(EV->Prop)->Prop} (ho:OpR X (compareOp op) rr) (hl:qj X.K rr s) (ha:ED Γ X a ta) (hb:ED Γ X b tb) (hm:behindInMarks op b = false):ET Γ X (.Compare a [op] [b] pos) (tBo (d2 s ta tb)):=fun H₀ =>
 impT (Ms ho (ha H₀) (hb H₀) hm) fun σ H Q h=>by
  obtain ⟨ρ,o,R,φ,hφ,k⟩:=h
  refine Pr (ta:=ta) (tb:=tb) (H₀:=H₀.1) hl σ H _ ⟨ρ,o,R,_,hφ,fun v r H' s1 rv h1=>?_⟩
  obtain ⟨kd,d⟩:=r
  cases d with
  | bl b=>exact ⟨b,rv.view,k b H' s1 h1⟩
  | _=>exact h1.elim
theorem Og (ha:ED Γ X a ta) (hb:ED Γ X b tb):ET Γ X (.Compare a [.Lt] [b] pos) (tBo (d2 sLt ta tb)):=jc Es (kq fun _ _ _ _=>rfl) ha hb (t4 _)
theorem bj (ha:ED Γ X a ta) (hb:ED Γ X b tb):ET Γ X (.Compare a [.Gt] [b] pos) (tBo (d2 sGt ta tb)):=jc Eu (kq fun _ _ _ _=>rfl) ha hb (t4 _)
theorem Dg (ha:ED Γ X a ta) (hb:ED Γ X b tb):ET Γ X (.Compare a [.GtE] [b] pos) (tBo (d2 sGe ta tb)):=jc Ew (kq fun _ _ _ _=>rfl) ha hb (t4 _)
theorem Y0 (hu:X.A.units + 64 < cLine) (ha:ED Γ X a ta) (hb:ED Γ X b tb):ET Γ X (.Compare a [.Eq] [b] pos) (tBo (d2 sEq ta tb)) :=
 jc (Gf hu) (fun H O x y vx vy φ Q ho hx hy h k=>⟨x,y,hx.rep0,hy.rep0,h.1,h.2.1,k _ _ H (Same.refl H) (by exact rfl) h.2.2⟩) ha hb (t4 _)
theorem Zz (hu:X.A.units + 64 < cLine) (ha:ED Γ X a ta) (hb:ED Γ X b tb):ET Γ X (.Compare a [.NotEq] [b] pos) (tBo (d2 sNe ta tb)) :=
 jc (Gc hu) (fun H O x y vx vy φ Q ho hx hy h k=>⟨x,y,hx.rep0,hy.rep0,h.1,h.2.1,k _ _ H (Same.refl H) (by exact rfl) h.2.2⟩) ha hb (t4 _)
noncomputable def Py:D->Bool
 | .non=>true
 | _=>false
noncomputable def sIs:D->D->(EV->Prop)->Prop:=fun x y φ=>match y with
 | .non=>φ (dv (.bl (Py x)))
 | _=>False
noncomputable def Wa:D->D->(EV->Prop)->Prop:=fun x y φ=>match y with
 | .non=>φ (dv (.bl (!Py x)))
 | _=>False
theorem Xz {K:W.Frag} {H:Hp} {O:List Addr} {d:D} {v:V} (h:View K H O d v):decide (v = .non) = Py d:=by
 cases d with
 | tup ds=>obtain ⟨a,xs,rfl,_⟩:=h; rfl
 | lst ds=>obtain ⟨a,xs,rfl,_⟩:=h; rfl
 | scr ns=>obtain ⟨a,rfl,_⟩:=h; rfl
 | dz _=>obtain ⟨a,rfl,_⟩:=h; rfl
 | exc _=>obtain ⟨a,rfl,_⟩:=h; rfl
 | fd _=>obtain ⟨a,rfl,_⟩:=h; rfl
 | ob _ _ _=>obtain ⟨a,dx,xs,rfl,_⟩:=h; rfl
 | dk ks ds=>obtain ⟨a,xs,rfl,_⟩:=h; rfl
 | dt ks ds=>obtain ⟨a,xs,rfl,_⟩:=h; rfl
 | cn c =>
  cases c with
  | int i=>cases (show v = _ from h); rfl
  | str x=>cases (show v = _ from h); rfl
  | tup cs=>obtain ⟨a,o,its,n,xs,rfl,_⟩:=(show CRep K (.tup cs) v from h); rfl
 | _=>cases (show v = _ from h); rfl
theorem Ls {K:W.Frag}:qj K (fun x y H Q=>y = .non /\ Q (.bl (decide (x = .non))) H) sIs:=by
 intro H O x y vx vy φ Q ho hx hy h k
 unfold sIs at h
 split at h
 ·refine ⟨hy,?_⟩
  rw [Xz hx]
  exact k _ _ H (Same.refl H) (by exact rfl) h
 ·exact h.elim
theorem Vw {K:W.Frag}:qj K (fun x y H Q=>y = .non /\ Q (.bl (!decide (x = .non))) H) Wa:=by
 intro H O x y vx vy φ Q ho hx hy h k
 unfold Wa at h
 split at h
 ·refine ⟨hy,?_⟩
  rw [Xz hx]
  exact k _ _ H (Same.refl H) (by exact rfl) h
 ·exact h.elim
theorem Kc (ha:ED Γ X a ta) (hb:ED Γ X b tb):ET Γ X (.Compare a [.Is] [b] pos) (tBo (d2 sIs ta tb)):=jc Ge Ls ha hb (t4 _)
theorem V4 (ha:ED Γ X a ta) (hb:ED Γ X b tb):ET Γ X (.Compare a [.IsNot] [b] pos) (tBo (d2 Wa ta tb)):=jc Lf Vw ha hb (t4 _)
variable {tA tB':TDb} {rest:List Expr}
noncomputable def bAnd (t u:TDb):TDb:=fun ρ φ=>t ρ fun c=>(c = true->u ρ φ) /\ (c = false->φ false)
noncomputable def bOr (t u:TDb):TDb:=fun ρ φ=>t ρ fun c=>(c = true->φ true) /\ (c = false->u ρ φ)
noncomputable def bNot (t:TDb):TDb:=fun ρ φ=>t ρ fun c=>φ (!c)
theorem Xl (ha:ET Γ X a tA):EW Γ X (.BoolOp .And [a] pos) tA:=fun H₀=>Mq (ha H₀)
theorem j9 (ha:ET Γ X a tA):EW Γ X (.BoolOp .Or [a] pos) tA:=fun H₀=>Hi (ha H₀)
theorem Re (ha:ET Γ X a tA) (hb:EW Γ X (.BoolOp .And (b :: rest) pos) tB'):EW Γ X (.BoolOp .And (a :: b :: rest) pos) (bAnd tA tB'):=fun H₀=>impW (Hj (ha H₀) (hb H₀)) fun σ H Q h=>by
 obtain ⟨ρ,o,R,φ,hφ,k⟩:=h
 refine ⟨ρ,o,R,_,hφ,fun c H1 s1 h1=>?_⟩
 cases c with
 | true=>exact iteT ⟨ρ,o,R.to s1,φ,h1.1 rfl,fun b H2 s2 q=>k b H2 (s1.trans s2) q⟩
 | false=>exact iteF (k false H1 s1 (h1.2 rfl))
theorem ja (ha:ET Γ X a tA) (hb:EW Γ X (.BoolOp .Or (b :: rest) pos) tB'):EW Γ X (.BoolOp .Or (a :: b :: rest) pos) (bOr tA tB'):=fun H₀=>impW (Ek (ha H₀) (hb H₀)) fun σ H Q h=>by
 obtain ⟨ρ,o,R,φ,hφ,k⟩:=h
 refine ⟨ρ,o,R,_,hφ,fun c H1 s1 h1=>?_⟩
 cases c with
 | true=>exact iteT (k true H1 s1 (h1.1 rfl))
 | false=>exact iteF ⟨ρ,o,R.to s1,φ,h1.2 rfl,fun b H2 s2 q=>k b H2 (s1.trans s2) q⟩
theorem EW.et (h:EW Γ X a tA):ET Γ X a tA:=fun H₀=>PW.pt (h H₀)
theorem jb (ha:ET Γ X a tA):ET Γ X (.UnaryOp .Not a pos) (bNot tA):=fun H₀=>impT (Hm (ha H₀)) fun σ H Q h=>by
 obtain ⟨ρ,o,R,φ,hφ,k⟩:=h
 exact ⟨ρ,o,R,_,hφ,fun c H1 s1 h1=>k _ H1 s1 h1⟩
noncomputable def vAnd (ta tb:TD):TD:=fun ρ φ=>ta ρ fun x=>match x.d with
 | .bl c=>(c = true->tb ρ φ) /\ (c = false->φ (dv (.bl false)))
 | _=>False
noncomputable def vNot (ta:TD):TD:=fun ρ φ=>ta ρ fun x=>match x.d with
 | .bl c=>φ (dv (.bl (!c)))
 | _=>False
theorem Y2 {op} (h:ED Γ X a ta):ED Γ X (.BoolOp op [a] pos) ta:=fun H₀=>Ht (h H₀)
theorem Y4 (ha:ED Γ X a ta) (hb:ED Γ X (.BoolOp .And (b :: rest) pos) tb):ED Γ X (.BoolOp .And (a :: b :: rest) pos) (vAnd ta tb):=fun H₀=>impE (Hy (ha H₀) (hb H₀)) fun σ H Q h=>by
 obtain ⟨ρ,o,R,φ,hφ,k⟩:=h
 refine ⟨ρ,o,R,_,hφ,fun v r H1 s1 rv h1=>?_⟩
 obtain ⟨kd,d⟩:=r
 cases d with
 | bl c =>
  refine ⟨c,rv.view,?_⟩
  cases c with
  | true=>exact iteT ⟨ρ,o,R.to s1,φ,h1.1 rfl,fun v2 r2 H2 s2 rv2 q=>k v2 r2 H2 (s1.trans s2) (rv2.start s1) q⟩
  | false=>exact iteF (k _ _ H1 s1 (by exact rfl) (h1.2 rfl))
 | _=>exact h1.elim
theorem Rh (ha:ED Γ X a ta):ED Γ X (.UnaryOp .Not a pos) (vNot ta):=fun H₀=>impE (Hu (ha H₀)) fun σ H Q h=>by
 obtain ⟨ρ,o,R,φ,hφ,k⟩:=h
 refine ⟨ρ,o,R,_,hφ,fun v r H1 s1 rv h1=>?_⟩
 obtain ⟨kd,d⟩:=r
 cases d with
 | bl c=>exact ⟨c,rv.view,k _ _ H1 s1 (by exact rfl) h1⟩
 | _=>exact h1.elim
noncomputable def vIf (t:TDb) (ta tb:TD):TD:=fun ρ φ=>t ρ fun c=>(c = true->ta ρ φ) /\ (c = false->tb ρ φ)
theorem V7 (hc:ET Γ X c tA) (ha:ED Γ X a ta) (hb:ED Γ X b tb):ED Γ X (.IfExp c a b pos) (vIf tA ta tb):=fun H₀=>impE (Pd (hc H₀) (ha H₀) (hb H₀)) fun σ H Q h=>by
 obtain ⟨ρ,o,R,φ,hφ,k⟩:=h
 refine ⟨ρ,o,R,_,hφ,fun c H1 s1 h1=>?_⟩
 cases c with
 | true=>exact iteT ⟨ρ,o,R.to s1,φ,h1.1 rfl,fun v2 r2 H2 s2 rv2 q=>k v2 r2 H2 (s1.trans s2) (rv2.start s1) q⟩
 | false=>exact iteF ⟨ρ,o,R.to s1,φ,h1.2 rfl,fun v2 r2 H2 s2 rv2 q=>k v2 r2 H2 (s1.trans s2) (rv2.start s1) q⟩
noncomputable def aNil:TDs:=fun _ φ=>φ []
noncomputable def vq (te:TD) (t:TDs):TDs:=fun ρ φ=>te ρ fun r=>t ρ fun rs=>φ (r :: rs)
theorem zd:EA Γ X [] aNil:=fun H₀=>impA t0 fun σ H Q h=>by
 obtain ⟨ρ,o,R,φ,hφ,k⟩:=h
 exact k [] [] H (Same.refl H) (by exact rfl) hφ
theorem za (ha:ED Γ X e te) (hr:EA Γ X es t) (hs:starEach (e :: es) X.env = (false,eval e X.env) :: starEach es X.env:=by rfl):EA Γ X (e :: es) (vq te t):=fun H₀=>impA (xi (ha H₀) (hr H₀) hs) fun σ H Q h=>by
 obtain ⟨ρ,o,R,φ,hφ,k⟩:=h
 refine ⟨ρ,o,R,_,hφ,fun v r H1 s1 rv h1=>⟨ρ,o,R.to s1,_,h1,fun vs rs H2 s2 rvs h2=>?_⟩⟩
 exact k (v :: vs) (r :: rs) H2 (s1.trans s2) ⟨v,vs,rfl,rv.same s2,rvs.start s1⟩ h2
noncomputable def uw:List EV->Bool
 | []=>true
 | r :: rs=>(match r.k with | .own=>false | _=>true) && uw rs
theorem sk:∀ {rs:List EV},uw rs = true->∀ r ∈ rs,r.k ≠ .own
 | [],_=>fun r h=>nomatch h
 | ⟨k,d⟩ :: rs,h=>fun r hr=>by
  rw [uw,Bool.and_eq_true] at h
  rcases List.mem_cons.mp hr with rfl | hr
  ·intro z
   have z':k = .own:=z
   subst z'
   exact absurd h.1 (by simp)
  ·exact sk h.2 r hr
noncomputable def dTup (t:TDs):TD:=fun ρ φ=>t ρ fun rs=>uw rs = true /\ Nat.ble rs.length 1000 = true /\ φ (dv (.tup (rs.map EV.d)))
noncomputable def dLst (t:TDs):TD:=fun ρ φ=>t ρ fun rs=>uw rs = true /\ Nat.ble rs.length 1000 = true /\ φ (df (.lst (rs.map EV.d)))
theorem c7 {n:Nat} (h:Nat.ble n 1000 = true):n <= sizeLine:=Nat.le_trans (Nat.le_of_ble_eq_true h) (by decide)
theorem RVs.length {K:W.Frag} {H0 H:Hp} {O:List Addr}:∀ {rs:List EV} {vs:List V},RVs K H0 H O rs vs->vs.length = rs.length
 | [],_,h=>by cases h; rfl
 | r :: rs,vs,h=>by
  obtain ⟨v,ws,rfl,_,t⟩:=h
  simp [RVs.length t]
theorem yv {x1} (h:EA Γ X es t):ED Γ X (.Tuple es x1 pos) (dTup t):=fun H₀=>impE (Zc (h H₀)) fun σ H Q q=>by
 obtain ⟨ρ,o,R,φ,hφ,k⟩:=q
 refine ⟨ρ,o,R,_,hφ,fun vs rs H1 s1 rvs h1=>⟨by rw [rvs.length]; exact c7 h1.2.1,fun p hp=>?_⟩⟩
 exact k _ _ _ (s1.trans (zu hp _)) (RV.start (Ta hp (rvs.reps (sk h1.1))) s1) h1.2.2
theorem wx (h:EA Γ X es t):ED Γ X (.List es pos) (dLst t):=fun H₀=>impE (Hw (h H₀)) fun σ H Q q=>by
 obtain ⟨ρ,o,R,φ,hφ,k⟩:=q
 refine ⟨ρ,o,R,_,hφ,fun vs rs H1 s1 rvs h1=>⟨by rw [rvs.length]; exact c7 h1.2.1,fun p hp=>?_⟩⟩
 exact k _ _ _ (s1.trans (zu hp _)) (RV.start (uy (fun a e=>R.ofree (s1.free e)) hp (rvs.reps (sk h1.1))) s1) h1.2.2
noncomputable def sIx:D->D->(EV->Prop)->Prop:=fun x y φ=>match x,y with
 | .lst ds,.int i=>match atI ds i with
  | some d=>φ (dv d)
  | none=>False
 | .tup ds,.int i=>match atI ds i with
  | some d=>φ (dv d)
  | none=>False
 | .scr ns,.int i=>match atI ns i with
  | some n=>φ (dv (.int n))
  | none=>False
 | .str z,.int i=>z.length <= sizeLine /\ match atI z.cps.toList i with
  | some c=>φ (dv (.str ⟨#[c]⟩))
  | none=>False
 | _,_=>False
theorem Vg {K:W.Frag} {H:Hp} {O:List Addr} {ds:List D} {xs:List V} {i:Int} {d:D} (r:Reps K H O ds xs) (h:atI ds i = some d):∃ v,atI xs i = some v /\ Rep K H O d v:=by
 unfold atI at h ⊢
 rw [r.length]
 cases e:ixN ds.length i with
 | none=>rw [e] at h; cases h
 | some j =>
  rw [e] at h
  exact r.get h
theorem Lr:qj X.K (rIx X.K) sIx:=by
 intro H O x y vx vy φ Q ho hx hy h k
 unfold sIx at h
 split at h
 ·obtain ⟨a,xs,rfl,q,r⟩:=hx
  split at h
  ·rename_i d e
   obtain ⟨v,ev,rv⟩:=Vg r e
   exact .inl ⟨a,xs,_,v,rfl,hy,SqL.of q,ev,k _ _ H (Same.refl H) (RV.val rv) h⟩
  ·exact h.elim
 ·obtain ⟨a,xs,rfl,q,r⟩:=hx
  split at h
  ·rename_i d e
   obtain ⟨v,ev,rv⟩:=Vg r e
   exact .inr (.inl ⟨a,xs,_,v,rfl,hy,q.1,ev,k _ _ H (Same.refl H) (RV.val rv) h⟩)
  ·exact h.elim
 ·obtain ⟨a,rfl,q⟩:=hx
  split at h
  ·rename_i n e
   refine .inl ⟨a,_,_,.int n,rfl,hy,q.seq,?_,k _ _ H (Same.refl H) (by exact rfl) h⟩
   unfold atI at e ⊢
   rw [List.length_map]
   cases e2:ixN _ _ with
   | none=>rw [e2] at e; cases e
   | some j =>
    rw [e2] at e
    exact (List.getElem?_map ..).trans (congrArg (Option.map V.int) e)
  ·exact h.elim
 ·obtain ⟨hz,h⟩:=h
  split at h
  ·rename_i c e
   exact .inr (.inr ⟨_,_,c,hx,hy,hz,e,k _ _ H (Same.refl H) (by exact rfl) h⟩)
  ·exact h.elim
 ·exact h.elim
noncomputable abbrev TDo:=DE->(Option Int->Prop)->Prop
noncomputable def D1 (K:W.Frag) (H₀:Hp) (t:TDo):TO:=fun σ H Q=>∃ ρ o,REnv K H₀ H σ ρ o /\ ∃ φ,t ρ φ /\ ∀ b H',Same H H'->φ b->Q b H'
noncomputable def EO (G:Hp->Prop) (X:Cx) (e:Option Expr) (t:TDo):Prop:=∀ H₀:{H:Hp // G H},PO X e (D1 X.K H₀.1 t)
noncomputable def Gm:TDo:=fun _ φ=>φ none
noncomputable def Gk (t:TD):TDo:=fun ρ φ=>t ρ fun r=>match r.d with
 | .int i=>φ (some i)
 | _=>False
theorem impO {e:Option Expr} {t t':TO} (h:PO X e t) (i:∀ σ H Q,t' σ H Q->t σ H Q):PO X e t':=fun pn s σ H Q I q=>h pn s σ H Q I (i σ H Q q)
theorem ur:EO Γ X none Gm:=fun H₀=>impO Mw fun σ H Q h=>by
 obtain ⟨ρ,o,R,φ,hφ,k⟩:=h
 exact k none H (Same.refl H) hφ
theorem rj (h:ED Γ X e te):EO Γ X (some e) (Gk te):=fun H₀=>impO (Mv (h H₀)) fun σ H Q q=>by
 obtain ⟨ρ,o,R,φ,hφ,k⟩:=q
 refine ⟨ρ,o,R,_,hφ,fun v r H1 s1 rv h1=>?_⟩
 obtain ⟨kd,d⟩:=r
 cases d with
 | int i=>exact ⟨i,rv.view,k _ H1 s1 h1⟩
 | _=>exact h1.elim
noncomputable def cutD (xs:List D) (lo hi:Option Int):List D:=(xs.drop (HT.sIx xs.length 0 lo)).take (HT.sIx xs.length xs.length hi - HT.sIx xs.length 0 lo)
theorem dj {K:W.Frag} {H:Hp} {O:List Addr} {ds:List D} {xs:List V} (r:Reps K H O ds xs) (lo hi:Option Int):Reps K H O (cutD ds lo hi) (cutV xs lo hi):=by
 unfold cutD cutV
 rw [r.length]
 exact (r.drop _).take _
noncomputable def sSl:D->Option Int->Option Int->(EV->Prop)->Prop:=fun x lo hi φ=>match x with
 | .lst ds=>φ (df (.lst (cutD ds lo hi)))
 | .scr ns=>φ (df (.lst (cutD (ns.map D.int) lo hi)))
 | .tup ds=>¬ (HT.sIx ds.length 0 lo = 0 /\ HT.sIx ds.length ds.length hi = ds.length) /\ φ (dv (.tup (cutD ds lo hi)))
 | _=>False
noncomputable def dSl (te:TD) (tl th:TDo):TD:=fun ρ φ=>te ρ fun x=>tl ρ fun l=>th ρ fun u=>sSl x.d l u φ
theorem tu {lo hi:Option Expr} {tl th:TDo} {p2:Pos} (he:ED Γ X e te) (hl:EO Γ X lo tl) (hu:EO Γ X hi th):ED Γ X (.Subscript e (.Slice lo hi none p2) pos) (dSl te tl th):=fun H₀ =>
 impE (Pc (Md.or Jt) (he H₀) (hl H₀) (hu H₀)) fun σ H Q q=>by
  obtain ⟨ρ,o,R,φ,hφ,k⟩:=q
  refine ⟨ρ,o,R,_,hφ,fun v r H1 s1 rv h1=>⟨ρ,o,R.to s1,_,h1,fun l H2 s2 h2=>⟨ρ,o,R.to (s1.trans s2),_,h2,fun u H3 s3 h3=>?_⟩⟩⟩
  have s12:=s1.trans s2
  have s13:=s12.trans s3
  have vw:=(rv.same (s2.trans s3)).view
  obtain ⟨kd,d⟩:=r
  cases d with
  | lst ds =>
   obtain ⟨a,xs,rfl,q,r⟩:=vw
   refine .inl ⟨a,xs,rfl,SqL.of q,fun p hp=>?_⟩
   exact k _ _ _ (s13.trans (zu hp _)) (RV.start (uy (fun a e=>R.ofree (s13.free e)) hp (dj r l u)) s13) h3
  | scr ns =>
   obtain ⟨a,rfl,q⟩:=vw
   refine .inl ⟨a,_,rfl,q.seq,fun p hp=>?_⟩
   exact k _ _ _ (s13.trans (zu hp _)) (RV.start (uy (fun a e=>R.ofree (s13.free e)) hp (dj (Reps.ints ns) l u)) s13) h3
  | tup ds =>
   obtain ⟨a,xs,rfl,q,r⟩:=vw
   refine .inr ⟨a,xs,rfl,q.1,by rw [r.length]; exact h3.1,fun p hp=>?_⟩
   exact k _ _ _ (s13.trans (zu hp _)) (RV.start (Ta hp (dj r l u)) s13) h3.2
  | _=>exact h3.elim
end
noncomputable def wa (r:EV):Prop:=match r.k with
 | .val=>dw r.d
 | .own=>False
 | .fre=>match r.d with
  | .lst ds=>wb ds
  | .dk _ ds=>wb ds
  | .dt _ ds=>wb ds
  | _=>False
 | .new=>True
theorem RV.lift {K:W.Frag} {H0 H:Hp} {O:List Addr} {r:EV} {v:V} (h:RV K H0 H [] r v) (p:wa r) (ho:∀ a,H0 a = none->a ∉ O):RV K H0 H O r v:=by
 obtain ⟨k,d⟩:=r
 cases k with
 | val=>exact Rep.pure _ _ p h
 | own=>exact p.elim
 | fre =>
  obtain ⟨a,e,m,n,c⟩:=h
  refine ⟨a,e,m,ho a m,?_⟩
  cases d with
  | lst ds=>obtain ⟨xs,q,r⟩:=c; exact ⟨xs,q,Reps.pure _ _ p r⟩
  | dk ks ds=>obtain ⟨xs,q,l,nd,r⟩:=c; exact ⟨xs,q,l,nd,Reps.pure _ _ p r⟩
  | dt ks ds=>obtain ⟨xs,q,l,nd,r⟩:=c; exact ⟨xs,q,l,nd,Reps.pure _ _ p r⟩
  | _=>exact c.elim
 | new=>exact RepN.to (Same.refl H) (fun a z=>⟨ho a z.2,z.2⟩) _ _ h
noncomputable abbrev FT:=List D->(EV->Prop)->Prop
noncomputable def spD (K:W.Frag) (n:Nat) (T:FT):Sp:=fun vs H Q _=>∃ ds φ,ds.length = n /\ Reps K H [] ds vs /\ T ds φ /\ ∀ v r H',Same H H'->RV K H H' [] r v->wa r->φ r->Q v H'
structure FD (P:Program) (w:World) (K:W.Frag) (mg:Str->Option Value) (base:Heap) (k:Nat) (x:Str) (ps:List Str) (T:FT):Prop where
 ex:∃ f fd,FnOk P w K mg base CX0 k f fd ps (spD K ps.length T) /\ vf K fd ps [] /\ W.keepIn K (.ref f) = true /\ mg x = some (.ref f)
noncomputable def On (n:Nat) (T:FT) (t:TDs):TD:=fun ρ φ=>t ρ fun rs=>Nat.beq rs.length n = true /\ T (rs.map EV.d) φ
section
variable {X:Cx} {x:Str} {ps:List Str} {T:FT} {k:Nat} {e:Expr} {es:List Expr} {t:TDs} {p pos:Pos}
theorem S8 {H₀:Hp}:∀ σ H Q,vc X.K H₀ (On ps.length T t) σ H Q->Jl (spD X.K ps.length T) [] E0 (Lv X.K H₀ t) σ H Q:=fun σ H Q q=>by
 obtain ⟨ρ,o,R,φ,hφ,kk⟩:=q
 refine ⟨ρ,o,R,_,hφ,fun vs rs H1 s1 rvs h1=>?_⟩
 show spD X.K ps.length T (vs ++ []) H1 Q E0
 rw [List.append_nil]
 refine ⟨rs.map EV.d,φ,by rw [List.length_map]; exact Nat.eq_of_beq_eq_true h1.1,rvs.reps0,h1.2,fun v r H2 s2 rv pr h2=>?_⟩
 exact kk v r H2 (s1.trans s2) (RV.start (rv.lift pr fun a e=>R.ofree (s1.free e)) s1) h2
theorem zy (F:FD X.prog X.w X.K X.mg X.base k x ps T) (hr:Room k X.A) (ha:EA Γ X (e :: es) t) (hg:Gl X x:=by rfl) (hdb:(x == ("__debug__" : Str)) = false:=by decide)
  (he:starEach (e :: es) X.env = (false,eval e X.env) :: starEach es X.env:=by rfl) (hpl:(backTo pos (starEach es X.env)).any (·.1) = false:=by rfl):ED Γ X (.Call (.Name x p) (e :: es) [] pos) (On ps.length T t):=fun H₀=>by
 obtain ⟨f,fd,ok,b,kp,m⟩:=F.ex
 exact impE (To ok hr hg m kp b .nil Yr (ha H₀) hdb he hpl) S8
noncomputable def Kw (K:W.Frag) (H:Hp) (O:List Addr):List D->List V->Prop
 | [],vs=>vs = []
 | d :: ds,vs=>∃ v ws,vs = v :: ws /\ View K H O d v /\ Kw K H O ds ws
theorem RVs.views {K:W.Frag} {H0 H:Hp} {O:List Addr}:∀ {rs:List EV} {vs:List V},RVs K H0 H O rs vs->Kw K H O (rs.map EV.d) vs
 | [],_,h=>h
 | r :: rs,vs,h=>by
  obtain ⟨v,ws,e,q,t⟩:=h
  exact ⟨v,ws,e,q.view,t.views⟩
noncomputable def Qa (K:W.Frag) (r:List V->Hp->VK->Prop) (s:FT):Prop :=
 ∀ (H:Hp) (O:List Addr) (ds:List D) (vs:List V) (φ:EV->Prop) (Q:VK),(∀ a,H a = none->a ∉ O)->Kw K H O ds vs->s ds φ->(∀ v r H',Same H H'->RV K H H' O r v->φ r->Q v H')->r vs H Q
noncomputable def dCB (s:FT) (t:TDs):TD:=fun ρ φ=>t ρ fun rs=>s (rs.map EV.d) φ
theorem S7 {r:List V->Hp->VK->Prop} {s:FT} (hl:Qa X.K r s) {H₀:Hp}:∀ σ H Q,vc X.K H₀ (dCB s t) σ H Q->tCB r (Lv X.K H₀ t) σ H Q:=fun σ H Q q=>by
 obtain ⟨ρ,o,R,φ,hφ,kk⟩:=q
 refine ⟨ρ,o,R,_,hφ,fun vs rs H1 s1 rvs h1=>?_⟩
 exact hl H1 _ _ vs φ Q (fun a e=>R.ofree (s1.free e)) rvs.views h1 fun v r H2 s2 rv h2=>kk v r H2 (s1.trans s2) (rv.start s1) h2
theorem tz {id:String} {r:List V->Hp->VK->Prop} {s:FT} (hc:u0 X (.builtin id) r) (hl:Qa X.K r s) (hm:X.mg x = none) (hv:bootBuiltins x = some (.builtin id)) (ha:EA Γ X (e :: es) t) (hg:Gl X x:=by rfl) (hn:x ≠ "__name__":=by decide) (hdb:(x == ("__debug__" : Str)) = false:=by decide)
  (he:starEach (e :: es) X.env = (false,eval e X.env) :: starEach es X.env:=by rfl) (hpl:(backTo pos (starEach es X.env)).any (·.1) = false:=by rfl):ED Γ X (.Call (.Name x p) (e :: es) [] pos) (dCB s t):=fun H₀ =>
 impE (qu hc hg hm hv (ha H₀) hn hdb he hpl) (S7 hl)
theorem Y3 {T:String} {r:List V->Hp->VK->Prop} {s:FT} (hc:u0 X (.type T) r) (hl:Qa X.K r s) (hm:X.mg x = none) (hv:bootBuiltins x = some (.type T)) (ha:EA Γ X (e :: es) t) (hg:Gl X x:=by rfl) (hn:x ≠ "__name__":=by decide) (hdb:(x == ("__debug__" : Str)) = false:=by decide)
  (he:starEach (e :: es) X.env = (false,eval e X.env) :: starEach es X.env:=by rfl) (hpl:(backTo pos (starEach es X.env)).any (·.1) = false:=by rfl):ED Γ X (.Call (.Name x p) (e :: es) [] pos) (dCB s t):=fun H₀ =>
 impE (Tl hc hg hm hv (ha H₀) hn hdb he hpl) (S7 hl)
noncomputable def sLen:FT:=fun ds φ=>match ds with
 | [.lst l]=>φ (dv (.int l.length))
 | [.tup l]=>φ (dv (.int l.length))
 | [.scr l]=>φ (dv (.int l.length))
 | [.str z]=>z.length <= sizeLine /\ φ (dv (.int z.length))
 | _=>False
theorem Pm:Qa X.K (fun xs H Q=>(∃ p ys,xs = [.ref p] /\ (SqL X.K H p ys \/ SqT X.K H p ys) /\ Q (.int ys.length) H) \/ ∃ z,xs = [.str z] /\ z.length <= sizeLine /\ Q (.int z.length) H) sLen:=by
 intro H O ds vs φ Q ho hv h k
 unfold sLen at h
 split at h
 ·obtain ⟨v,ws,rfl,⟨a,xs,rfl,q,r⟩,rfl⟩:=hv
  refine .inl ⟨a,xs,rfl,.inl (SqL.of q),?_⟩
  rw [r.length]
  exact k _ _ H (Same.refl H) (by exact rfl) h
 ·obtain ⟨v,ws,rfl,⟨a,xs,rfl,q,r⟩,rfl⟩:=hv
  refine .inl ⟨a,xs,rfl,.inr q.1,?_⟩
  rw [r.length]
  exact k _ _ H (Same.refl H) (by exact rfl) h
 ·obtain ⟨v,ws,rfl,⟨a,rfl,q⟩,rfl⟩:=hv
  refine .inl ⟨a,_,rfl,.inl q.seq,?_⟩
  rw [List.length_map]
  exact k _ _ H (Same.refl H) (by exact rfl) h
 ·obtain ⟨v,ws,rfl,hz,rfl⟩:=hv
  cases (show v = _ from hz)
  exact .inr ⟨_,rfl,h.1,k _ _ H (Same.refl H) (by exact rfl) h.2⟩
 ·exact h.elim
theorem vv (hm:X.mg "len" = none) (ha:EA Γ X (e :: es) t) (hg:Gl X "len":=by rfl) (he:starEach (e :: es) X.env = (false,eval e X.env) :: starEach es X.env:=by rfl) (hpl:(backTo pos (starEach es X.env)).any (·.1) = false:=by rfl):ED Γ X (.Call (.Name "len" p) (e :: es) [] pos) (dCB sLen t) :=
 tz (Y8.or Y7) Pm hm PySem.boot_len ha hg (by decide) (by decide) he hpl
noncomputable def sAbs:FT:=fun ds φ=>match ds with
 | [.int i]=>φ (dv (.int (if i < 0 then -i else i)))
 | _=>False
theorem Rm (hm:X.mg "abs" = none) (ha:EA Γ X (e :: es) t) (hg:Gl X "abs":=by rfl) (he:starEach (e :: es) X.env = (false,eval e X.env) :: starEach es X.env:=by rfl) (hpl:(backTo pos (starEach es X.env)).any (·.1) = false:=by rfl):ED Γ X (.Call (.Name "abs" p) (e :: es) [] pos) (dCB sAbs t) :=
 tz Oy (fun H O ds vs φ Q ho hv h k=>by
  unfold sAbs at h
  split at h
  ·obtain ⟨v,ws,rfl,hz,rfl⟩:=hv
   cases (show v = _ from hz)
   exact ⟨_,rfl,k _ _ H (Same.refl H) (by exact rfl) h⟩
  ·exact h.elim) hm (by kernel_rfl) ha hg (by decide) (by decide) he hpl
end
noncomputable def EV.sto (r:EV):EV:=⟨match r.k with
 | .fre=>.own
 | .new=>.val
 | k=>k,r.d⟩
noncomputable def EV.ret (r:EV):EV:=⟨match r.k with
 | .own=>.fre
 | k=>k,r.d⟩
noncomputable def setS:DE->Nat->EV->DE
 | [],_,_=>[]
 | _ :: r,0,v=>some v :: r
 | x :: r,i + 1,v=>x :: setS r i v
theorem x8:∀ (ρ:DE) (i:Nat) (v:EV),setS ρ i v = ρ.set i (some v)
 | [],_,_=>rfl
 | _ :: _,0,_=>rfl
 | x :: r,i + 1,v=>by rw [setS,x8 r i v,List.set_cons_succ]
theorem Con.grow {K:W.Frag} {H H':Hp} {O O':List Addr} {d:D} {a:Addr} (h:Con K H O d a) (s:∀ u,H a = some u->H' a = some u) (g:Grow O O' H H'):Con K H' O' d a:=by
 cases d with
 | lst ds=>obtain ⟨xs,q,r⟩:=h; exact ⟨xs,s _ q,Reps.grow g _ _ r⟩
 | dk ks ds=>obtain ⟨xs,q,l,n,r⟩:=h; exact ⟨xs,s _ q,l,n,Reps.grow g _ _ r⟩
 | dt ks ds=>obtain ⟨xs,q,l,n,r⟩:=h; exact ⟨xs,s _ q,l,n,Reps.grow g _ _ r⟩
 | _=>exact h.elim
theorem Con.mtb {K:W.Frag} {H:Hp} {O:List Addr} {d:D} {a:Addr} (h:Con K H O d a):(∃ u,H a = some u) /\ (∀ xs,H a ≠ some (.tup xs)) /\ ∀ ob u,H a ≠ some (.frz ob u):=by
 cases d with
 | lst ds=>obtain ⟨xs,q,r⟩:=h; exact ⟨⟨_,q⟩,(fun xs z=>by rw [q] at z; cases z),(fun ob u z=>by rw [q] at z; cases z)⟩
 | dk ks ds=>obtain ⟨xs,q,r⟩:=h; exact ⟨⟨_,q⟩,(fun xs z=>by rw [q] at z; cases z),(fun ob u z=>by rw [q] at z; cases z)⟩
 | dt ks ds=>obtain ⟨xs,q,r⟩:=h; exact ⟨⟨_,q⟩,(fun xs z=>by rw [q] at z; cases z),(fun ob u z=>by rw [q] at z; cases z)⟩
 | _=>exact h.elim
section
variable {K:W.Frag} {H₀ H H':Hp} {σ:St} {ρ:DE} {o:List (Nat × Addr)}
theorem REnv.setV (R:REnv K H₀ H σ ρ o) (i:Nat) {d:D} {v:V} (h:Rep K H (o.map Prod.snd) d v):REnv K H₀ H (σ.set i (some v)) (setS ρ i (dv d)) o where
 same:=R.same
 fresh:=R.fresh
 trk:=R.trk
 mtb:=R.mtb
 nda:=R.nda
 len:=by rw [x8,List.length_set,List.length_set]; exact R.len
 slots:=fun j r e=>by
  rw [x8] at e
  by_cases hj:j = i
  ·subst hj
   have hl:j < ρ.length:=by
    rcases Nat.lt_or_ge j ρ.length with z | z
    ·exact z
    ·rw [List.getElem?_eq_none (by rw [List.length_set]; exact z)] at e
     cases e
   rw [List.getElem?_set_self hl] at e
   cases e
   exact ⟨v,List.getElem?_set_self (by rw [R.len]; exact hl),.inl ⟨rfl,h⟩⟩
  ·rw [List.getElem?_set_ne (Ne.symm hj)] at e
   obtain ⟨w,ew,q⟩:=R.slots j r e
   exact ⟨w,by rw [List.getElem?_set_ne (Ne.symm hj)]; exact ew,q⟩
theorem REnv.setO (R:REnv K H₀ H σ ρ o) (s:Same H H') (i:Nat) {d:D} {a:Addr} (ha:H a = none) (c:Con K H' (a :: o.map Prod.snd) d a) :
  REnv K H₀ H' (σ.set i (some (.ref a))) (setS ρ i (dO d)) ((i,a) :: o) /\ Grow (o.map Prod.snd) (((i,a) :: o).map Prod.snd) H H':=by
 have g:Grow (o.map Prod.snd) (((i,a) :: o).map Prod.snd) H H':=by
  refine ⟨fun b u h n=>⟨s b u h,fun z=>?_⟩,fun b xs h=>s b _ h,fun b ob u h=>s b _ h⟩
  rw [List.map_cons] at z
  rcases List.mem_cons.mp z with z | z
  ·exact ze h ha z
  ·exact n z
 refine ⟨?_,g⟩
 have R':=R.to s
 exact {
  same:=R'.same
  fresh:=fun p hp=>by
   rcases List.mem_cons.mp hp with rfl | hp
   ·exact R.same.free ha
   ·exact R.fresh p hp
  trk:=fun p hp=>by
   rcases List.mem_cons.mp hp with rfl | hp
   ·exact c.mtb.1
   ·exact R'.trk p hp
  mtb:=fun p hp=>by
   rcases List.mem_cons.mp hp with rfl | hp
   ·exact c.mtb.2
   ·exact R'.mtb p hp
  nda:=by
   rw [List.map_cons,List.nodup_cons]
   exact ⟨fun z=>R.ofree ha z,R.nda⟩
  len:=by rw [x8,List.length_set,List.length_set]; exact R.len
  slots:=fun j r e=>by
   rw [x8] at e
   by_cases hj:j = i
   ·subst hj
    have hl:j < ρ.length:=by
     rcases Nat.lt_or_ge j ρ.length with z | z
     ·exact z
     ·rw [List.getElem?_eq_none (by rw [List.length_set]; exact z)] at e
      cases e
    rw [List.getElem?_set_self hl] at e
    cases e
    exact ⟨_,List.getElem?_set_self (by rw [R.len]; exact hl),.inr ⟨rfl,a,rfl,List.mem_cons_self ..,c⟩⟩
   ·rw [List.getElem?_set_ne (Ne.symm hj)] at e
    obtain ⟨w,ew,q⟩:=R.slots j r e
    refine ⟨w,by rw [List.getElem?_set_ne (Ne.symm hj)]; exact ew,?_⟩
    rcases q with ⟨k,q⟩ | ⟨k,a',e1,m,c'⟩
    ·exact .inl ⟨k,Rep.grow g _ _ q⟩
    ·exact .inr ⟨k,a',e1,List.mem_cons_of_mem _ m,c'.grow (fun u q=>s _ _ q) g⟩ }
theorem REnv.put (R:REnv K H₀ H σ ρ o) (s:Same H H') (i:Nat) {r:EV} {v:V} (h:RV K H H' (o.map Prod.snd) r v) (hk:r.k ≠ .own) :
  ∃ o',REnv K H₀ H' (σ.set i (some v)) (setS ρ i r.sto) o' /\ Grow (o.map Prod.snd) (o'.map Prod.snd) H H':=by
 obtain ⟨k,d⟩:=r
 cases k with
 | val=>exact ⟨_,(R.to s).setV i h,Grow.same s⟩
 | own=>exact absurd rfl hk
 | fre =>
  obtain ⟨a,rfl,m,n,c⟩:=h
  exact ⟨_,R.setO s i m c⟩
 | new=>exact ⟨_,(R.to s).setV i (RepN.rep (fun a z=>z.1) _ _ h),Grow.same s⟩
theorem X9:∀ {o:List (Nat × Addr)},(o.map Prod.snd).Nodup->∀ {p q:Nat × Addr},p ∈ o->q ∈ o->p.2 = q.2->p = q
 | [],_,_,_,h,_,_=>nomatch h
 | x :: o,nd,p,q,hp,hq,e=>by
  rw [List.map_cons,List.nodup_cons] at nd
  rcases List.mem_cons.mp hp with h1 | hp
  ·rcases List.mem_cons.mp hq with h2 | hq
   ·rw [h1,h2]
   ·exact absurd (List.mem_map.mpr ⟨q,hq,by rw [<- e,h1]⟩) nd.1
  ·rcases List.mem_cons.mp hq with h2 | hq
   ·exact absurd (List.mem_map.mpr ⟨p,hp,by rw [e,h2]⟩) nd.1
   ·exact X9 nd.2 hp hq e
theorem REnv.chg (R:REnv K H₀ H σ ρ o) {i:Nat} {a:Addr} {d d':D} {ho:HO} (hs:ρ[i]? = some (some (dO d))) (hσ:σ[i]? = some (some (.ref a))) (hm:(i,a) ∈ o) (hho:(∀ xs,ho ≠ .tup xs) /\ ∀ ob u,ho ≠ .frz ob u)
  (c:(∀ ds xs,Reps K H (o.map Prod.snd) ds xs->Reps K (upd H a ho) (o.map Prod.snd) ds xs)->Con K (upd H a ho) (o.map Prod.snd) d' a) :
  REnv K H₀ (upd H a ho) σ (setS ρ i (dO d')) o /\ Grow (o.map Prod.snd) (o.map Prod.snd) H (upd H a ho):=by
 have ha:a ∈ o.map Prod.snd:=List.mem_map.mpr ⟨_,hm,rfl⟩
 obtain ⟨m1,m2⟩:=R.mtb _ hm
 have g:Grow (o.map Prod.snd) (o.map Prod.snd) H (upd H a ho) :=
  ⟨fun b u h n=>⟨by rw [zj (show b ≠ a from fun z=>n (by rw [z]; exact ha))]; exact h,n⟩,fun b xs h=>by rw [zj (show b ≠ a from fun z=>m1 xs (by rw [<- z]; exact h))]; exact h,fun b ob u h=>by rw [zj (show b ≠ a from fun z=>m2 ob u (by rw [<- z]; exact h))]; exact h⟩
 refine ⟨?_,g⟩
 exact {
  same:=fun b u h=>by
   have:b ≠ a:=fun z=>by
    have:=R.fresh _ hm
    rw [<- z,h] at this
    cases this
   rw [zj this]
   exact R.same b u h
  fresh:=R.fresh
  trk:=fun p hp=>by
   by_cases e:p.2 = a
   ·exact ⟨ho,by rw [e]; exact zk⟩
   ·rw [zj e]
    exact R.trk p hp
  mtb:=fun p hp=>by
   by_cases e:p.2 = a
   ·rw [e,zk]
    exact ⟨fun xs z=>hho.1 xs (Option.some.inj z),fun ob u z=>hho.2 ob u (Option.some.inj z)⟩
   ·rw [zj e]
    exact R.mtb p hp
  nda:=R.nda
  len:=by rw [x8,List.length_set]; exact R.len
  slots:=fun j r e=>by
   rw [x8] at e
   by_cases hj:j = i
   ·subst hj
    have hl:j < ρ.length:=(List.getElem?_eq_some_iff.mp hs).1
    rw [List.getElem?_set_self hl] at e
    cases e
    obtain ⟨v,ev,q⟩:=R.slots j _ hs
    rcases q with ⟨k,_⟩ | ⟨_,a',e1,m',_⟩
    ·cases k
    ·have haa:a' = a:=by
      rw [hσ] at ev
      cases ev
      cases e1
      rfl
     subst haa
     exact ⟨v,ev,.inr ⟨rfl,a',e1,hm,c fun ds xs q=>Reps.grow g _ _ q⟩⟩
   ·rw [List.getElem?_set_ne (Ne.symm hj)] at e
    obtain ⟨w,ew,q⟩:=R.slots j r e
    refine ⟨w,ew,?_⟩
    rcases q with ⟨k,q⟩ | ⟨k,a',e1,m',c'⟩
    ·exact .inl ⟨k,Rep.grow g _ _ q⟩
    ·refine .inr ⟨k,a',e1,m',c'.grow (fun u q=>?_) g⟩
     have hne:a' ≠ a:=fun z=>by
      exact hj (congrArg Prod.fst (X9 R.nda m' hm z))
     rw [zj hne]
     exact q }
end
section
variable {X:Cx} {st:Stmt} {rest:List Stmt} {t u:TDS} {e:Expr} {te:TD} {tc:TDb} {pos:Pos}
noncomputable def sNil:TDS:=fun ρ Z=>Z.nx ρ
noncomputable def sSeq (t u:TDS):TDS:=fun ρ Z=>t ρ { Z with nx:=fun ρ'=>u ρ' Z }
theorem yz:SDs Γ X [] sNil:=fun H₀=>Sk dy fun D σ H h=>by
 obtain ⟨ρ,o,R,Z,hZ,k1,_⟩:=h
 exact k1 ρ σ H o Grow.refl R hZ
theorem zg (h1:SD Γ X st t) (h2:SDs Γ X rest u):SDs Γ X (st :: rest) (sSeq t u):=fun H₀=>Sk (vi (h1 H₀) (h2 H₀)) fun D σ H h=>by
 obtain ⟨ρ,o,R,Z,hZ,k1,k2,k3,k4⟩:=h
 refine ⟨ρ,o,R,_,hZ,fun ρ' σ' H' o' g R' q=>?_,k2,k3,k4⟩
 exact ⟨ρ',o',R',Z,q,fun ρ2 σ2 H2 o2 g2 R2 q2=>k1 ρ2 σ2 H2 o2 (g.trans g2) R2 q2,fun ρ2 σ2 H2 o2 g2 R2 q2=>k2 ρ2 σ2 H2 o2 (g.trans g2) R2 q2,fun ρ2 σ2 H2 o2 g2 R2 q2=>k3 ρ2 σ2 H2 o2 (g.trans g2) R2 q2,k4⟩
theorem zm (h1:SD Γ X st t):SDs Γ X [st] t:=fun H₀=>kj (h1 H₀)
theorem di:SD Γ X st (fun _ _=>False):=fun H₀=>impS P8 fun D σ H h=>by
 obtain ⟨_,_,_,_,hZ,_⟩:=h
 exact hZ.elim
noncomputable def sRet (te:TD):TDS:=fun ρ Z=>te ρ fun r=>Z.rt r.ret
theorem RV.ret {K:W.Frag} {H₀ H H':Hp} {σ:St} {ρ:DE} {o:List (Nat × Addr)} (R:REnv K H₀ H σ ρ o) {r:EV} {v:V} (h:RV K H H' (o.map Prod.snd) r v):RV K H₀ H' [] r.ret v:=by
 obtain ⟨k,d⟩:=r
 cases k with
 | val=>exact Rep.sub (O':=[]) (fun _ z=>absurd z (by simp)) _ _ h
 | own =>
  obtain ⟨a,e,m,c⟩:=h
  obtain ⟨p,hp,ep⟩:=List.mem_map.mp m
  subst ep
  exact ⟨p.2,e,R.fresh p hp,by simp,c.sub fun b hb=>by
   have:b = p.2:=by simpa using hb
   rw [this]
   exact m⟩
 | fre =>
  obtain ⟨a,e,m,n,c⟩:=h
  exact ⟨a,e,R.same.free m,by simp,c.sub fun b hb=>by
   have:b = a:=by simpa using hb
   rw [this]
   exact List.mem_cons_self ..⟩
 | new=>exact RepN.to (Same.refl H') (fun a z=>⟨by simp,R.same.free z.2⟩) _ _ h
theorem yd (he:ED Γ X e te):SD Γ X (.Return (some e) pos) (sRet te):=fun H₀=>impS (Z9 (he H₀)) fun D σ H h=>by
 obtain ⟨ρ,o,R,Z,hZ,k1,k2,k3,k4⟩:=h
 refine ⟨ρ,o,R,_,hZ,fun v r H1 s1 rv h1=>?_⟩
 exact k4 v r.ret H1 (R.same.trans s1) (RV.ret R rv) h1
noncomputable def sIf (tc:TDb) (t u:TDS):TDS:=fun ρ Z=>tc ρ fun c=>(c = true->t ρ Z) /\ (c = false->u ρ Z)
theorem wu {c:Expr} {a b:List Stmt} (hc:ET Γ X c tc) (ha:SDs Γ X a t) (hb:SDs Γ X b u):SD Γ X (.If c a b pos) (sIf tc t u):=fun H₀=>impS (Mt (hc H₀) (ha H₀) (hb H₀)) fun D σ H h=>by
 obtain ⟨ρ,o,R,Z,hZ,k1,k2,k3,k4⟩:=h
 refine ⟨ρ,o,R,_,hZ,fun c H1 s1 h1=>?_⟩
 have g:Grow (o.map Prod.snd) (o.map Prod.snd) H H1:=Grow.same s1
 have kk:∀ {v:TDS},v ρ Z->Vy X.K H₀.1 v D σ H1:=fun hv=>⟨ρ,o,R.to s1,Z,hv,fun ρ2 σ2 H2 o2 g2 R2 q2=>k1 ρ2 σ2 H2 o2 (g.trans g2) R2 q2,fun ρ2 σ2 H2 o2 g2 R2 q2=>k2 ρ2 σ2 H2 o2 (g.trans g2) R2 q2,fun ρ2 σ2 H2 o2 g2 R2 q2=>k3 ρ2 σ2 H2 o2 (g.trans g2) R2 q2,k4⟩
 cases c with
 | true=>exact iteT (kk (h1.1 rfl))
 | false=>exact iteF (kk (h1.2 rfl))
noncomputable def sCut (t:TDS):TDS:=fun ρ Z=>∃ J:DE->Prop,t ρ { Z with nx:=J } /\ ∀ ρ',J ρ'->Z.nx ρ'
theorem yj (h:SD Γ X st t):SD Γ X st (sCut t):=fun H₀=>impS (h H₀) fun D σ H h=>by
 obtain ⟨ρ,o,R,Z,⟨J,hZ,hJ⟩,k1,k2,k3,k4⟩:=h
 exact ⟨ρ,o,R,_,hZ,fun ρ2 σ2 H2 o2 g2 R2 q2=>k1 ρ2 σ2 H2 o2 g2 R2 (hJ ρ2 q2),k2,k3,k4⟩
noncomputable def Hc (te:TD):TDS:=fun ρ Z=>te ρ fun _=>Z.nx ρ
theorem T4 (he:ED Γ X e te) (hs:swapsWith e none pos.line X.env = pure false:=by rfl):SD Γ X (.Expr e pos) (Hc te):=fun H₀=>impS (c3 (he H₀) hs) fun D σ H h=>by
 obtain ⟨ρ,o,R,Z,hZ,k1,k2,k3,k4⟩:=h
 exact ⟨ρ,o,R,_,hZ,fun v r H1 s1 rv h1=>k1 ρ σ H1 o (Grow.same s1) (R.to s1) h1⟩
noncomputable def sSet (i:Nat) (te:TD):TDS:=fun ρ Z=>te ρ fun r=>(match r.k with | .own=>False | _=>True) /\ Z.nx (setS ρ i r.sto)
theorem wv {r:EV} (h:match r.k with | .own=>False | _=>True):r.k ≠ .own:=by
 obtain ⟨k,d⟩:=r
 cases k with
 | own=>exact h.elim
 | val=>exact fun z=>nomatch z
 | fre=>exact fun z=>nomatch z
 | new=>exact fun z=>nomatch z
theorem y0 (i:Nat) {x:Str} {pos':Pos} (hN:X.N.Nodup) (he:ED Γ X e te) (hi:X.N[i]? = some x:=by rfl) (hx:Loc X.env.scope x:=by first | exact Or.inl rfl | exact Or.inr rfl) (hs:swapsWith e (some (.Name x pos')) pos.line X.env = pure false:=by rfl)
  (hf:X.fn x = true \/ X.env.scope.names.lookup x = some .local:=by first | exact .inl rfl | exact .inr rfl | assumption):SD Γ X (.Assign [.Name x pos'] e pos) (sSet i te):=fun H₀=>impS (Wg hN hi hx (he H₀) hs hf) fun D σ H h=>by
 obtain ⟨ρ,o,R,Z,hZ,k1,k2,k3,k4⟩:=h
 refine ⟨ρ,o,R,_,hZ,fun v r H1 s1 rv h1=>?_⟩
 obtain ⟨o',R',g⟩:=R.put s1 i rv (wv h1.1)
 exact k1 _ _ H1 o' g R' h1.2
noncomputable abbrev TGD:=D->DE->(DE->Prop)->Prop
noncomputable def bu (K:W.Frag) (g2:TG) (g:TGD):Prop:=∀ (H₀ H:Hp) (σ:St) (ρ:DE) (o:List (Nat × Addr)) (d:D) (v:V) (ψ:DE->Prop) (Q:St->Hp->Prop),REnv K H₀ H σ ρ o->Rep K H (o.map Prod.snd) d v->g d ρ ψ ->
 (∀ ρ' σ',REnv K H₀ H σ' ρ' o->ψ ρ'->Q σ' H)->g2 v σ H Q
noncomputable def gN (i:Nat):TGD:=fun d ρ ψ=>ψ (setS ρ i (dv d))
theorem yy {K:W.Frag} (i:Nat):bu K (Zt i) (gN i):=fun H₀ H σ ρ o d v ψ Q R h hg k=>k _ _ (R.setV i h) hg
noncomputable def gT2 (i j:Nat):TGD:=fun d ρ ψ=>match d with
 | .tup [a,b]=>ψ (setS (setS ρ i (dv a)) j (dv b))
 | _=>False
theorem xx {K:W.Frag} (i j:Nat):bu K (gTup K 2 (U6 (Zt i) (U6 (Zt j) gNil))) (gT2 i j):=fun H₀ H σ ρ o d v ψ Q R h hg k=>by
 unfold gT2 at hg
 split at hg
 ·rename_i a b
  obtain ⟨p,xs,rfl,q,r⟩:=h
  obtain ⟨v1,r1,rfl,h1,v2,r2,rfl,h2,rfl⟩:=r
  refine ⟨p,_,rfl,q.1,rfl,v1,_,rfl,v2,_,rfl,rfl,?_⟩
  have R1:=R.setV i h1
  have R2:=R1.setV j h2
  exact k _ _ R2 hg
 ·exact hg.elim
noncomputable def sPar (i j:Nat) (ta:TDs):TDS:=fun ρ Z=>ta ρ fun rs=>match rs with
 | [⟨.val,a⟩,⟨.val,b⟩]=>Z.nx (setS (setS ρ i (dv a)) j (dv b))
 | _=>False
theorem Jx {i j:Nat} {a b:Expr} {ta:TDs} (hp:∀ {ta:TA},PA X [a,b] ta->PS X st (tPar i j ta)) (ha:EA Γ X [a,b] ta):SD Γ X st (sPar i j ta):=fun H₀=>impS (hp (ha H₀)) fun D σ H h=>by
 obtain ⟨ρ,o,R,Z,hZ,k1,k2,k3,k4⟩:=h
 refine ⟨ρ,o,R,_,hZ,fun vs rs H1 s1 rvs h1=>?_⟩
 split at h1
 ·rename_i da db
  obtain ⟨v1,r1,rfl,q1,v2,r2,rfl,q2,rfl⟩:=rvs
  refine ⟨v1,v2,rfl,?_⟩
  have R1:=(R.to s1).setV i (show Rep X.K H1 (o.map Prod.snd) da v1 from q1)
  have R2:=R1.setV j (show Rep X.K H1 (o.map Prod.snd) db v2 from q2)
  exact k1 _ _ H1 _ (Grow.same s1) R2 h1
 ·exact h1.elim
noncomputable def sWh (tc:TDb) (tb:TDS):TDS:=fun ρ Z=>∃ (P:DE->Prop) (μ:DE->Nat),P ρ /\ ∀ ρ,P ρ->tc ρ fun c =>
 (c = true->tb ρ { Z with nx:=fun ρ'=>P ρ' /\ μ ρ' < μ ρ,ct:=fun ρ'=>P ρ' /\ μ ρ' < μ ρ,bk:=Z.nx }) /\ (c = false->Z.nx ρ)
theorem W8 {c:Expr} {body:List Stmt} {tb:TDS} (hc:ET Γ X c tc) (hb:SDs Γ X body tb) (hp:PassesOwn (model X.prog X.w) X.A X.env X.xe:=by exact PassesOwn.never):SD Γ X (.While c body [] pos) (sWh tc tb):=fun H₀=>impS (Wf hp (hc H₀) (hb H₀)) fun D σ H h=>by
 obtain ⟨ρ,o,R,Z,⟨P,μ,hP,turn⟩,k1,k2,k3,k4⟩:=h
 refine ⟨fun m σ' H'=>∃ ρ' o',Grow (o.map Prod.snd) (o'.map Prod.snd) H H' /\ REnv X.K H₀ H' σ' ρ' o' /\ P ρ' /\ μ ρ' = m,⟨_,ρ,o,Grow.refl,R,hP,rfl⟩,?_⟩
 rintro m σ1 H1 ⟨ρ1,o1,g1,R1,p1,rfl⟩
 refine ⟨ρ1,o1,R1,_,turn ρ1 p1,fun c H2 s2 h2=>?_⟩
 have g2:=g1.trans (Grow.same (O:=o1.map Prod.snd) s2)
 cases c with
 | true =>
  refine iteT ⟨fun σ' H'=>∃ ρ' o',Grow (o.map Prod.snd) (o'.map Prod.snd) H H' /\ REnv X.K H₀ H' σ' ρ' o' /\ P ρ' /\ μ ρ' < μ ρ1,fun σ' H' ⟨ρ',o',g,R',p,l⟩=>⟨_,l,ρ',o',g,R',p,rfl⟩,?_⟩
  exact ⟨ρ1,o1,R1.to s2,_,h2.1 rfl,fun ρ' σ' H' o' g R' q=>⟨ρ',o',g2.trans g,R',q.1,q.2⟩,fun ρ' σ' H' o' g R' q=>k1 ρ' σ' H' o' (g2.trans g) R' q,fun ρ' σ' H' o' g R' q=>⟨ρ',o',g2.trans g,R',q.1,q.2⟩,k4⟩
 | false=>exact iteF (k1 ρ1 σ1 H2 o1 g2 (R1.to s2) (h2.2 rfl))
structure ItD (K:W.Frag) (J:It) (ds:List D) (P:Hp->List Addr->Prop):Prop where
 go:∀ (H:Hp) (O:List Addr) (i:Nat) (d:D),P H O->ds[i]? = some d->J.go i H /\ ∀ x H',J.yld i H x H'->Same H H' /\ Rep K H' O d x
 stop:∀ (H:Hp) (O:List Addr),P H O->J.stop ds.length H
 keep:∀ (O O':List Addr) (H H':Hp),P H O->Grow O O' H H'->P H' O'
noncomputable abbrev TID:=DE->(List D->Prop)->Prop
noncomputable def Lu (K:W.Frag) (H₀:Hp) (t:TID):TI:=fun σ H R=>∃ ρ o,REnv K H₀ H σ ρ o /\ ∃ φ,t ρ φ /\ ∀ J ds P H',Same H H'->ItD K J ds P->P H' (o.map Prod.snd)->φ ds->R J H'
noncomputable def EI (G:Hp->Prop) (X:Cx) (tg iter:Expr) (t:TID):Prop:=∀ H₀:{H:Hp // G H},PI X tg iter (Lu X.K H₀.1 t)
noncomputable def sFor (ti:TID) (g:TGD) (tb:TDS):TDS:=fun ρ Z=>ti ρ fun ds=>∃ P:Nat->DE->Prop,P 0 ρ /\ (∀ i d ρ,ds[i]? = some d->P i ρ->g d ρ fun ρ'=>tb ρ' { Z with nx:=P (i + 1),ct:=P (i + 1),bk:=Z.nx }) /\ ∀ ρ,P ds.length ρ->Z.nx ρ
theorem rq {tg iter:Expr} {body:List Stmt} {ti:TID} {g2:TG} {g:TGD} {tb:TDS} (hi:EI Γ X tg iter ti) (hg:PG X tg g2) (hl:bu X.K g2 g) (hb:SDs Γ X body tb) (hc:X.calm = true:=by rfl) (hp:PassesOwn (model X.prog X.w) X.A X.env X.xe:=by exact PassesOwn.never)
  (hs:∀ x,foldedSetIterable iter X.env x = pure x:=by intro _; rfl):SD Γ X (.For tg iter body [] pos) (sFor ti g tb):=fun H₀=>impS (Ho hp hc (hi H₀) hg (hb H₀) hs) fun D σ H h=>by
 obtain ⟨ρ,o,R,Z,hZ,k1,k2,k3,k4⟩:=h
 refine ⟨ρ,o,R,_,hZ,fun J ds PJ H1 s1 I hP ⟨P,p0,turn,fin⟩=>?_⟩
 refine ⟨fun i m σ' H'=>m = ds.length - i /\ i <= ds.length /\ ∃ ρ' o',Grow (o.map Prod.snd) (o'.map Prod.snd) H1 H' /\ REnv X.K H₀ H' σ' ρ' o' /\ P i ρ',⟨_,rfl,Nat.zero_le _,ρ,o,Grow.refl,R.to s1,p0⟩,?_⟩
 rintro i m σ' H' ⟨rfl,hi',ρ',o',g',R',p'⟩
 have hP':=I.keep _ _ _ _ hP g'
 have gg:Grow (o.map Prod.snd) (o'.map Prod.snd) H H':=(Grow.same s1).trans g'
 by_cases hlt:i < ds.length
 ·have ed:ds[i]? = some ds[i]:=by simp [hlt]
  obtain ⟨j1,j2⟩:=I.go H' _ i _ hP' ed
  refine .inr ⟨j1,fun σ2 H2=>∃ ρ2 o2,Grow (o.map Prod.snd) (o2.map Prod.snd) H1 H2 /\ REnv X.K H₀ H2 σ2 ρ2 o2 /\ P (i + 1) ρ2,fun σ2 H2 ⟨ρ2,o2,g2,R2,p2⟩=>⟨_,(by omega:ds.length - (i + 1) < ds.length - i),rfl,hlt,ρ2,o2,g2,R2,p2⟩,fun x H2 y=>?_⟩
  obtain ⟨s2,rp⟩:=j2 x H2 y
  refine hl H₀.1 H2 σ' ρ' o' _ x _ _ (R'.to s2) rp (turn i _ ρ' ed p') fun ρ3 σ3 R3 q3=>?_
  have g13:Grow (o.map Prod.snd) (o'.map Prod.snd) H1 H2:=g'.trans (Grow.same s2)
  have gg3:Grow (o.map Prod.snd) (o'.map Prod.snd) H H2:=gg.trans (Grow.same s2)
  exact ⟨ρ3,o',R3,_,q3,fun ρ4 σ4 H4 o4 g4 R4 q4=>⟨ρ4,o4,g13.trans g4,R4,q4⟩,fun ρ4 σ4 H4 o4 g4 R4 q4=>k1 ρ4 σ4 H4 o4 (gg3.trans g4) R4 q4,fun ρ4 σ4 H4 o4 g4 R4 q4=>⟨ρ4,o4,g13.trans g4,R4,q4⟩,k4⟩
 ·have e:i = ds.length:=by omega
  subst e
  exact .inl ⟨I.stop H' _ hP',k1 ρ' σ' H' o' gg R' (fin ρ' p')⟩
end
section
variable {X:Cx} {tg e:Expr} {te:TD} {t:TDs} {pos:Pos}
theorem impI {iter:Expr} {t t':TI} (h:PI X tg iter t) (i:∀ σ H R,t' σ H R->t σ H R):PI X tg iter t':=fun pn s σ H R I q=>h pn s σ H R I (i σ H R q)
noncomputable def PV (X:Cx) (tg:Expr) (r:V->Hp->(It->Hp->Prop)->Prop):Prop :=
 ∀ (pn:List (Addr × Obj)) (s:Shared) (σ:St) (H:Hp) (x:V) (v:Value) (R:It->Hp->Prop),Inv X pn σ H s->RelV x v->r x H R->wpAny (model X.prog X.w) X.A (pyIter v) (PIE X pn σ tg R) X.xe s
theorem El {l:Expr} {tl:TE} {r:V->Hp->(It->Hp->Prop)->Prop} (hl:PE X l tl) (hv:PV X tg r):PI X tg l (fun σ H R=>tl σ H fun x H1=>r x H1 R):=fun pn s σ H R I h =>
 thn (hl pn s σ H _ I h) fun v s1 ⟨x,H1,I1,r1,q1⟩=>hv pn s1 σ H1 x v R I1 r1 q1
theorem Mr:PV X tg (fun x H R=>∃ a,x = .ref a /\ (∃ xs,SqL X.K H a xs) /\ R (Itl X.K a) H):=by
 intro pn s1 σ H1 x v R I1 r1 q1
 obtain ⟨a,e,⟨xs,hq⟩,q⟩:=q1
 subst e
 cases r1
 obtain ⟨its,rv,p,hz⟩:=I1.list hq
 refine wpAny_pyIter_list p.isList ?_
 refine ⟨s1.heap.objs.size,[s1.heap.objs.size],_,_,H1,rfl,I1.kept (t':=s1.toks) fun b o e=>Heap.get?_push_of_some _ e,Ug a _,⟨_,Heap.get?_push_size _ rfl,rfl,rfl⟩,fun b hb=>?_,q⟩
 have e:b = s1.heap.objs.size:=by simpa using hb
 subst e
 exact I1.fpOk (Nat.le_refl _) (I1.hok.fresh (Nat.le_refl _))
theorem Hk:PV X tg (fun x H R=>∃ a,x = .ref a /\ (∃ xs,SqT X.K H a xs) /\ R (Itt X.K a) H):=by
 intro pn s1 σ H1 x v R I1 r1 q1
 obtain ⟨a,e,⟨xs,hq⟩,q⟩:=q1
 subst e
 cases r1
 obtain ⟨its,rv,p,hz⟩:=I1.tuple hq
 refine wpAny_pyIter_tuple (show s1.heap.IsTuple a its.toArray from p) ?_
 refine ⟨s1.heap.objs.size,[s1.heap.objs.size],_,_,H1,rfl,I1.kept (t':=s1.toks) fun b o e=>Heap.get?_push_of_some _ e,Vj a _,⟨_,Heap.get?_push_size _ rfl,rfl,rfl⟩,fun b hb=>?_,q⟩
 have e:b = s1.heap.objs.size:=by simpa using hb
 subst e
 exact I1.fpOk (Nat.le_refl _) (I1.hok.fresh (Nat.le_refl _))
theorem Hl:PV X tg (fun x H R=>∃ z,x = .str z /\ R (Itv z.cps.size (Kx z)) H):=by
 intro pn s1 σ H1 x v R I1 r1 q1
 obtain ⟨z,e,q⟩:=q1
 subst e
 obtain ⟨t,rfl⟩:=r1
 have lay:∀ (T:String),(∀ A:Around,A.handled = none->Walks X.prog X.w A s1.heap.objs.size [s1.heap.objs.size] [s1.heap.objs.size] z.cps.size (SignAt z) (fun i h=>h.IsStrIter s1.heap.objs.size T z t i)) ->
   (∀ (A:Around) (i:Nat) (s:Shared) (Q:Value->Shared->Prop) (E:Value->Shared->Prop),s.heap.IsStrIter s1.heap.objs.size T z t i->Q (.ref s1.heap.objs.size) s->wpAny (model X.prog X.w) A (pyIter (.ref s1.heap.objs.size)) Q E s) ->
   ["enumerate", "zip", "dict_itemiterator", "dict_reverseitemiterator", "odict_iterator", "itertools.zip_longest", "itertools.pairwise"].contains T = false ->
   PIE X pn σ tg R (.ref s1.heap.objs.size) { s1 with heap:=s1.heap.push { cls:=.type T,data:=.fields #[.str z t,.int 0 0] } }:=fun T W hs hT=>by
  have I2:Inv X pn σ H1 { s1 with heap:=s1.heap.push { cls:=.type T,data:=.fields #[.str z t,.int 0 0] } }:=I1.kept (t':=s1.toks) fun b u e=>Heap.get?_push_of_some _ e
  refine ⟨s1.heap.objs.size,[s1.heap.objs.size],_,_,H1,rfl,I2,Qj W hs hT,⟨_,Heap.get?_push_size _ rfl,rfl,rfl⟩,fun b hb=>?_,q⟩
  have e:b = s1.heap.objs.size:=by simpa using hb
  subst e
  exact I1.fpOk (Nat.le_refl _) I1.fresh
 cases ha:z.cps.all (· < 128)
 ·exact wpAny_pyIter_wide ha (lay "str_iterator" (fun A hA=>Walks.strWide hA _ z t) (fun A i s Q E st q=>wpAny_pyIter_striter_wide st q) (by decide))
 ·exact wpAny_pyIter_ascii ha (lay "str_ascii_iterator" (fun A hA=>Walks.strAscii hA _ z t) (fun A i s Q E st q=>wpAny_pyIter_striter_ascii st q) (by decide))
noncomputable def Sg:D->Option (List D)
 | .lst ds=>some ds
 | .tup ds=>some ds
 | .scr ns=>some (ns.map D.int)
 | .str z=>some (z.cps.toList.map fun c=>D.str ⟨#[c]⟩)
 | _=>none
noncomputable def iSeq (te:TD):TID:=fun ρ φ=>te ρ fun r=>(match r.k with | .own=>False | _=>True) /\ match Sg r.d with
 | some ds=>φ ds
 | none=>False
theorem Fk {K:W.Frag} {a:Addr} {ds:List D}:ItD K (Itl K a) ds (fun H O=>∃ xs,H a = some (.lst xs) /\ a ∉ O /\ Reps K H O ds xs) where
 go:=fun H O i d ⟨xs,q,n,r⟩ e=>by
  obtain ⟨v,ev,rv⟩:=r.get e
  refine ⟨⟨xs,v,SqL.of q,ev⟩,fun x H' y=>?_⟩
  obtain ⟨e1,y⟩:=y
  subst e1
  have:=y xs (SqL.of q)
  rw [ev] at this
  cases this
  exact ⟨Same.refl _,rv⟩
 stop:=fun H O ⟨xs,q,n,r⟩=>⟨xs,SqL.of q,by rw [r.length]; exact Nat.le_refl _⟩
 keep:=fun O O' H H' ⟨xs,q,n,r⟩ g=>⟨xs,(g.keep _ _ q n).1,(g.keep _ _ q n).2,Reps.grow g _ _ r⟩
theorem Fg {K:W.Frag} {a:Addr} {ds:List D}:ItD K (Itt K a) ds (fun H O=>∃ xs,SqT K H a xs /\ Reps K H O ds xs) where
 go:=fun H O i d ⟨xs,q,r⟩ e=>by
  obtain ⟨v,ev,rv⟩:=r.get e
  refine ⟨⟨xs,v,q,ev⟩,fun x H' y=>?_⟩
  obtain ⟨e1,y⟩:=y
  subst e1
  have:=y xs q
  rw [ev] at this
  cases this
  exact ⟨Same.refl _,rv⟩
 stop:=fun H O ⟨xs,q,r⟩=>⟨xs,q,by rw [r.length]; exact Nat.le_refl _⟩
 keep:=fun O O' H H' ⟨xs,q,r⟩ g=>⟨xs,d9 g q,Reps.grow g _ _ r⟩
theorem Fi {K:W.Frag} {a:Addr} {ns:List Int}:ItD K (Itl K a) (ns.map D.int) (fun H _=>Scr K H a ns) where
 go:=fun H O i d q e=>by
  rw [List.getElem?_map] at e
  cases en:ns[i]? with
  | none=>rw [en] at e; cases e
  | some n =>
   rw [en] at e
   cases e
   have ev:(ns.map V.int)[i]? = some (.int n):=by rw [List.getElem?_map,en]; rfl
   refine ⟨⟨_,_,q.seq,ev⟩,fun x H' y=>?_⟩
   obtain ⟨e1,y⟩:=y
   subst e1
   have:=y _ q.seq
   rw [ev] at this
   cases this
   exact ⟨Same.refl _,rfl⟩
 stop:=fun H O q=>⟨_,q.seq,by rw [List.length_map,List.length_map]; exact Nat.le_refl _⟩
 keep:=fun O O' H H' q g=>qt g q
theorem Fh {K:W.Frag} {z:Str}:ItD K (Itv z.cps.size (Kx z)) (z.cps.toList.map fun c=>D.str ⟨#[c]⟩) (fun _ _=>True) where
 go:=fun H O i d _ e=>by
  rw [List.getElem?_map] at e
  cases en:z.cps.toList[i]? with
  | none=>rw [en] at e; cases e
  | some n =>
   rw [en] at e
   cases e
   have hl:=(List.getElem?_eq_some_iff.mp en).1
   refine ⟨(show i < z.cps.size by simpa using hl),fun x H' y=>?_⟩
   obtain ⟨e1,c,hc,ex⟩:=y
   subst e1 ex
   have:z.cps.toList[i]? = some c:=by rw [Array.getElem?_toList]; exact hc
   rw [en] at this
   cases this
   exact ⟨Same.refl _,rfl⟩
 stop:=fun H O _=>by show _ = _; simp
 keep:=fun _ _ _ _ _ _=>trivial
noncomputable def rngD (lo:Int) (n:Nat):List D:=(List.range n).map fun (i:Nat)=>D.int (lo + (i:Int))
theorem Fj {K:W.Frag} {lo:Int} {n:Nat}:ItD K (Itr lo n) (rngD lo n) (fun _ _=>True) where
 go:=fun H O i d _ e=>by
  unfold rngD at e
  rw [List.getElem?_map] at e
  cases en:(List.range n)[i]? with
  | none=>rw [en] at e; cases e
  | some m =>
   rw [en] at e
   cases e
   have hl:=(List.getElem?_eq_some_iff.mp en).1
   rw [List.length_range] at hl
   have:m = i:=by
    rw [List.getElem?_range hl] at en
    exact (Option.some.inj en).symm
   subst this
   refine ⟨hl,fun x H' y=>?_⟩
   obtain ⟨e1,ex⟩:=y
   subst e1 ex
   exact ⟨Same.refl _,rfl⟩
 stop:=fun H O _=>by show n <= _; unfold rngD; simp
 keep:=fun _ _ _ _ _ _=>trivial
theorem PV.or {r r':V->Hp->(It->Hp->Prop)->Prop} (h:PV X tg r) (h':PV X tg r'):PV X tg (fun x H R=>r x H R \/ r' x H R):=fun pn s σ H x v R I rx q=>q.elim (h pn s σ H x v R I rx) (h' pn s σ H x v R I rx)
theorem vt (he:ED Γ X e te):EI Γ X tg e (iSeq te):=fun H₀=>impI (El (he H₀) (Mr.or (Hk.or Hl))) fun σ H R q=>by
 obtain ⟨ρ,o,RE,φ,hφ,k⟩:=q
 refine ⟨ρ,o,RE,_,hφ,fun v r H1 s1 rv h1=>?_⟩
 obtain ⟨h0,h1⟩:=h1
 have rp:=rv.solid (wv h0)
 obtain ⟨kd,d⟩:=r
 cases d with
 | lst ds =>
  obtain ⟨a,xs,rfl,q,n,r⟩:=rp
  exact .inl ⟨a,rfl,⟨xs,SqL.of q⟩,k _ _ _ H1 s1 Fk ⟨xs,q,n,r⟩ h1⟩
 | tup ds =>
  obtain ⟨a,xs,rfl,q,r⟩:=rp
  exact .inr (.inl ⟨a,rfl,⟨xs,q.1⟩,k _ _ _ H1 s1 Fg ⟨xs,q.1,r⟩ h1⟩)
 | scr ns =>
  obtain ⟨a,rfl,q⟩:=rp
  exact .inl ⟨a,rfl,⟨_,q.seq⟩,k _ _ _ H1 s1 Fi q h1⟩
 | str z =>
  cases (show v = _ from rp)
  exact .inr (.inr ⟨z,rfl,k _ _ _ H1 s1 Fh trivial h1⟩)
 | _=>exact h1.elim
noncomputable def iR1 (t:TDs):TID:=fun ρ φ=>t ρ fun rs=>match rs with
 | [⟨_,.int j⟩]=>-(2 ^ 62) <= j /\ j < 2 ^ 62 /\ φ (rngD 0 j.toNat)
 | _=>False
theorem wm {a:Expr} {p:Pos} (hm:X.mg "range" = none) (ha:EA Γ X [a] t) (hg:Gl X "range":=by rfl) (hs:starEach [a] X.env = [(false,eval a X.env)]:=by rfl):EI Γ X tg (.Call (.Name "range" p) [a] [] pos) (iR1 t):=fun H₀=>impI (Ti hg hm (ha H₀) hs) fun σ H R q=>by
 obtain ⟨ρ,o,RE,φ,hφ,k⟩:=q
 refine ⟨ρ,o,RE,_,hφ,fun vs rs H1 s1 rvs h1=>?_⟩
 split at h1
 ·rename_i kd j
  obtain ⟨v,ws,rfl,rv,rfl⟩:=rvs
  cases (show v = _ from rv.view)
  exact ⟨j,rfl,h1.1,h1.2.1,k _ _ _ H1 s1 Fj trivial h1.2.2⟩
 ·exact h1.elim
end
section
variable {X:Cx} {σ:St} {scope:Scope} {T F:List Str} {js:List Nat} {tg iter elt:Expr} {ifs:List Expr} {pos:Pos} {ti:TID} {g2:TG} {g:TGD} {tc:TDb} {te:TD}
noncomputable def ρ0 (n:Nat) (js:List Nat) (ρ:DE):DE:=List.replicate n none ++ js.map fun j=>slot ρ j
noncomputable def ixO (n:Nat) (js:List Nat) (j:Nat):Nat:=if j ∈ js then n + js.idxOf j else n + js.length + 1 + j
theorem gf {K:W.Frag} {H₀ H H':Hp} {σ:St} {ρ:DE} {o:List (Nat × Addr)} {n:Nat} {js:List Nat} {D:Addr} {ys:List V} (R:REnv K H₀ H σ ρ o) (nd:js.Nodup) (hD:H D = none) (s:Same H H') (hD':H' D = some (.lst ys)) (Tn:List Str) (hT:Tn.length = n) :
  REnv K H₀ H' (st0 Tn js σ) (ρ0 n js ρ) ((n + js.length,D) :: o.map fun p=>(ixO n js p.1,p.2)):=by
 have hO:((n + js.length,D) :: o.map fun p=>(ixO n js p.1,p.2)).map Prod.snd = D :: o.map Prod.snd:=by
  rw [List.map_cons,List.map_map]
  rfl
 have g:Grow (o.map Prod.snd) (D :: o.map Prod.snd) H H':=⟨fun b u h nb=>⟨s b u h,fun z=>(List.mem_cons.mp z).elim (fun e=>ze h hD e) nb⟩,fun b xs h=>s b _ h,fun b ob u h=>s b _ h⟩
 have R':=R.to s
 exact {
  same:=R'.same
  fresh:=fun p hp=>by
   rcases List.mem_cons.mp hp with rfl | hp
   ·exact R.same.free hD
   ·obtain ⟨q,hq,rfl⟩:=List.mem_map.mp hp
    exact R.fresh q hq
  trk:=fun p hp=>by
   rcases List.mem_cons.mp hp with rfl | hp
   ·exact ⟨_,hD'⟩
   ·obtain ⟨q,hq,rfl⟩:=List.mem_map.mp hp
    exact R'.trk q hq
  mtb:=fun p hp=>by
   rcases List.mem_cons.mp hp with rfl | hp
   ·exact ⟨(fun xs z=>by rw [hD'] at z; cases z),(fun ob u z=>by rw [hD'] at z; cases z)⟩
   ·obtain ⟨q,hq,rfl⟩:=List.mem_map.mp hp
    exact R'.mtb q hq
  nda:=by
   rw [hO,List.nodup_cons]
   exact ⟨R.ofree hD,R.nda⟩
  len:=by
   unfold st0 ρ0
   simp [hT]
  slots:=fun i r e=>by
   rw [hO]
   unfold ρ0 at e
   have hi:n <= i:=by
    rcases Nat.lt_or_ge i n with z | z
    ·rw [List.getElem?_append_left (by simpa using z),List.getElem?_replicate] at e
     split at e <;> cases e
    ·exact z
   rw [List.getElem?_append_right (by simpa using hi),List.length_replicate,List.getElem?_map] at e
   cases ej:js[i - n]? with
   | none=>rw [ej] at e; cases e
   | some j =>
    rw [ej] at e
    have e':slot ρ j = some r:=Option.some.inj e
    obtain ⟨v,ev,q⟩:=R.slots j r (wd e')
    refine ⟨v,?_,?_⟩
    ·unfold st0
     rw [List.getElem?_append_right (by simpa [hT] using hi),List.length_replicate,List.getElem?_map,hT,ej]
     show some ((σ[j]?).join) = _
     rw [ev]
     rfl
    ·rcases q with ⟨k,q⟩ | ⟨k,a,e1,m,c⟩
     ·exact .inl ⟨k,Rep.grow g _ _ q⟩
     ·refine .inr ⟨k,a,e1,List.mem_cons_of_mem _ (List.mem_map.mpr ⟨_,m,?_⟩),c.grow (fun u q=>s _ _ q) g⟩
      have hmem:j ∈ js:=List.mem_of_getElem? ej
      have hidx:js.idxOf j = i - n:=by
       have h1:=(List.getElem?_eq_some_iff.mp ej)
       have h2:=List.getElem_idxOf (List.idxOf_lt_length_iff.mpr hmem)
       exact (List.getElem_inj nd).mp (h2.trans h1.2.symm)
      show (ixO n js j,a) = (i,a)
      unfold ixO
      rw [if_pos hmem,hidx]
      congr 1
      omega }
noncomputable def bYes:TDb:=fun _ φ=>φ true
noncomputable def Ry (ti:TID) (n:Nat) (js:List Nat) (g:TGD) (tc:TDb) (te:TD):TD:=fun ρ φ=>ti ρ fun ds=>∃ f:D->Option D,ds.length <= 100000 /\
 (∀ d ∈ ds,g d (ρ0 n js ρ) fun ρ'=>tc ρ' fun c=>(c = true->te ρ' fun r=>(match r.k with | .own=>False | _=>True) /\ f d = some r.d) /\ (c = false->f d = none)) /\ φ (df (.lst (ds.filterMap f)))
noncomputable def EIf (G:Hp->Prop) (X:Cx) (ifs:List Expr) (t:TDb):Prop:=∀ H₀:{H:Hp // G H},PIf X ifs (kz X.K H₀.1 t)
theorem yn:EIf Γ X [] bYes:=fun H₀ pn s σ H Q I h=>by
 obtain ⟨ρ,o,R,φ,hφ,k⟩:=h
 exact Mz pn s σ H Q I (k true H (Same.refl H) hφ)
theorem Kf {c:Expr} (h:ET Γ X c tc):EIf Γ X [c] tc:=fun H₀=>Mx (h H₀)
theorem ky {H₀:Hp} (nd:js.Nodup) (hl:bu X.K g2 g):∀ σ H Q,vc X.K H₀ (Ry ti T.length js g tc te) σ H Q->Qm (Lu X.K H₀ ti) T js g2 (kz X.K H₀ tc) (vc X.K H₀ te) σ H Q:=fun σ H Q q=>by
  obtain ⟨ρ,o,R,φ,hφ,k⟩:=q
  refine ⟨ρ,o,R,_,hφ,fun J ds P H1 s1 I hP ⟨f,hlen,turn,fin⟩ Da hDa=>?_⟩
  have R1:=R.to s1
  have gD:∀ {H':Hp},Same H1 H'->Grow (o.map Prod.snd) (Da :: o.map Prod.snd) H1 H':=fun s=>⟨fun b u h nb=>⟨s b u h,fun z=>(List.mem_cons.mp z).elim (fun e=>ze h hDa e) nb⟩,fun b xs h=>s b _ h,fun b ob u h=>s b _ h⟩
  refine ⟨fun i m ys H'=>m = ds.length - i /\ i <= ds.length /\ Same H1 H' /\ H' Da = some (.lst ys) /\ Reps X.K H' (Da :: o.map Prod.snd) ((ds.take i).filterMap f) ys,
   ⟨_,rfl,Nat.zero_le _,zu hDa _,zk,rfl⟩,?_⟩
  rintro i m ys H' ⟨rfl,hi',s2,hD',rp⟩
  refine ⟨hD',?_⟩
  have hP':=I.keep _ _ _ _ hP (gD s2)
  by_cases hlt:i < ds.length
  ·have ed:ds[i]? = some ds[i]:=by simp [hlt]
   obtain ⟨j1,j2⟩:=I.go H' _ i _ hP' ed
   refine .inr ⟨j1,fun zs H2=>Same H1 H2 /\ H2 Da = some (.lst zs) /\ Reps X.K H2 (Da :: o.map Prod.snd) ((ds.take (i + 1)).filterMap f) zs,fun zs H2 ⟨a1,a2,a3⟩=>⟨_,(by omega:ds.length - (i + 1) < ds.length - i),rfl,hlt,a1,a2,a3⟩,fun x H2 y=>?_⟩
   obtain ⟨s3,rx⟩:=j2 x H2 y
   have s13:=s2.trans s3
   have hD2:=s3 _ _ hD'
   have RB:=gf (n:=T.length) R1 nd hDa s13 hD2 T rfl
   have hO:((T.length + js.length,Da) :: o.map fun p=>(ixO T.length js p.1,p.2)).map Prod.snd = Da :: o.map Prod.snd:=by
    rw [List.map_cons,List.map_map]
    rfl
   have tk:(ds.take (i + 1)).filterMap f = (ds.take i).filterMap f ++ (f ds[i]).toList:=by
    rw [List.take_succ,ed,List.filterMap_append]
    cases e:f ds[i] <;> simp [e]
   have rpl:ys.length <= 100000:=by
    rw [rp.length]
    refine Nat.le_trans (List.length_filterMap_le _ _) ?_
    rw [List.length_take]
    omega
   refine hl H₀ H2 (st0 T js σ) (ρ0 T.length js ρ) _ _ x _ _ RB (by rw [hO]; exact rx) (turn _ (List.getElem_mem hlt)) fun ρ' σ' R' q'=>?_
   refine ⟨ρ',_,R',_,q',fun c H3 s4 h4=>?_⟩
   have hD3:=s4 _ _ hD2
   cases c with
   | false =>
    refine iteF ⟨s13.trans s4,hD3,?_⟩
    rw [tk,h4.2 rfl]
    simpa using Reps.grow (Grow.same (s3.trans s4)) _ _ rp
   | true =>
    refine iteT ⟨ρ',_,R'.to s4,_,h4.1 rfl,fun v r H4 s5 rv h5=>?_⟩
    have hD4:=s5 _ _ hD3
    have rd:=rv.solid (wv h5.1)
    rw [hO] at rd
    have ne:∀ b u,H1 b = some u->b ≠ Da:=fun b u h=>ze h hDa
    have gu:Grow (Da :: o.map Prod.snd) (Da :: o.map Prod.snd) H4 (upd H4 Da (.lst (ys ++ [v]))) :=
     ⟨fun b u h n=>⟨by rw [zj (fun z=>n (List.mem_cons.mpr (.inl z)))]; exact h,n⟩,fun b xs h=>by rw [zj (fun z=>by rw [z,hD4] at h; cases h)]; exact h,fun b ob u h=>by rw [zj (fun z=>by rw [z,hD4] at h; cases h)]; exact h⟩
    refine ⟨hD4,Nat.lt_of_le_of_lt rpl (by decide),⟨fun b u h=>?_,zk,?_⟩⟩
    ·rw [zj (ne b u h)]
     exact s5 _ _ (s4 _ _ (s13 b u h))
    ·rw [tk,h5.2]
     exact Reps.grow gu _ _ ((Reps.grow (Grow.same (s3.trans (s4.trans s5))) _ _ rp).append (Reps.one rd))
  ·have e:i = ds.length:=by omega
   subst e
   rw [List.take_length] at rp
   refine .inl ⟨I.stop H' _ hP',?_⟩
   exact k (.ref Da) (df (.lst (ds.filterMap f))) H' (s1.trans s2) ⟨Da,rfl,s1.free hDa,R.ofree (s1.free hDa),ys,hD',rp⟩ fin
theorem xa (hi:EI Γ X tg iter ti) (S:zl X.env.scope scope T F) (hjs:Paired (fun x j=>X.N[j]? = some x) F js) (nd:js.Nodup)
  (hg:∀ cl C fp s H,PG (ym X (T ++ F) scope cl C fp s H) tg g2) (hk:jz T.length g2) (hl:bu X.K g2 g)
  (ht:∀ cl C fp s H,EIf Γ (ym X (T ++ F) scope cl C fp s H) ifs tc) (he:∀ cl C fp s H,ED Γ (ym X (T ++ F) scope cl C fp s H) elt te)
  (hc:X.calm = true:=by rfl) (hs:∀ x,foldedSetIterable iter X.env x = pure x:=by intro _; rfl):ED Γ X (.ListComp elt [⟨tg,iter,ifs,0⟩] scope pos) (Ry ti T.length js g tc te):=fun H₀ =>
 impE (Lb (tc:=kz X.K H₀.1 tc) (te:=vc X.K H₀.1 te) hc (hi H₀) S hjs hg hk (fun cl C fp s H=>ht cl C fp s H H₀) (fun cl C fp s H=>he cl C fp s H H₀) hs) (ky nd hl)
theorem h9 (i:Nat) {y:Str} {py spos:Pos} (hN:X.N.Nodup) (hi:EI Γ X tg iter ti) (S:zl X.env.scope scope T F) (hjs:Paired (fun x j=>X.N[j]? = some x) F js) (nd:js.Nodup)
  (hg:∀ cl C fp s H,PG (ym X (T ++ F) scope cl C fp s H) tg g2) (hk:jz T.length g2) (hl:bu X.K g2 g)
  (ht:∀ cl C fp s H,EIf Γ (ym X (T ++ F) scope cl C fp s H) ifs tc) (he:∀ cl C fp s H,ED Γ (ym X (T ++ F) scope cl C fp s H) elt te)
  (hc:X.calm = true:=by rfl) (hs:∀ x,foldedSetIterable iter X.env x = pure x:=by intro _; rfl) (hy:X.N[i]? = some y:=by rfl) (hlo:X.env.scope.names.lookup y = some .local:=by rfl) (hsw:swapsWith (.ListComp elt [⟨tg,iter,ifs,0⟩] scope pos) (some (.Name y py)) spos.line X.env = pure true:=by rfl):SD Γ X (.Assign [.Name y py] (.ListComp elt [⟨tg,iter,ifs,0⟩] scope pos) spos) (sSet i (Ry ti T.length js g tc te)):=fun H₀ =>
 impS (ss (tc:=kz X.K H₀.1 tc) (te:=vc X.K H₀.1 te) hc hN hy (.inl hlo) (hi H₀) S hjs hg hk (fun cl C fp s H=>ht cl C fp s H H₀) (fun cl C fp s H=>he cl C fp s H H₀) hsw hs (.inr hlo)) fun D σ H h=>by
  obtain ⟨ρ,o,R,Z,hZ,k1,k2,k3,k4⟩:=h
  refine ky nd hl σ H _ ⟨ρ,o,R,_,hZ,fun v r H1 s1 rv h1=>?_⟩
  obtain ⟨o',R',g'⟩:=R.put s1 i rv (wv h1.1)
  exact k1 _ _ H1 o' g' R' h1.2
end
section
variable {X:Cx} {x:Str} {e a b:Expr} {es:List Expr} {t:TDs} {ta tb:TD} {p pos:Pos}
structure Kit (K:W.Frag):Prop where
 ne:∀ q ∈ ([("NoneType", "int"),("NoneType", "bool"),("NoneType", "str"),("NoneType", "tuple"),("NoneType", "list"),("NoneType", "dict"),("bool", "str"),("bool", "tuple"),("bool", "list"),("bool", "dict"),
  ("int", "bool"),("int", "str"),("int", "tuple"),("int", "list"),("int", "dict"),("str", "int"),("str", "bool"),("str", "tuple"),("str", "list"),("str", "dict"),
  ("tuple", "int"),("tuple", "bool"),("tuple", "str"),("tuple", "list"),("tuple", "dict"),("list", "int"),("list", "bool"),("list", "str"),("list", "tuple"),("list", "dict"),
  ("dict", "int"),("dict", "bool"),("dict", "str"),("dict", "tuple"),("dict", "list")]:List (String × String)),W.kitOne K (.type q.1) (.type q.2) = some false
 bi:W.kitOne K (.type "bool") (.type "int") = some true
theorem S9 {K:W.Frag}:Kit K:=by
 constructor
 ·intro q hq
  simp only [List.mem_cons,List.not_mem_nil,or_false] at hq
  rcases hq with rfl | rfl | rfl | rfl | rfl | rfl | rfl | rfl | rfl | rfl | rfl | rfl | rfl | rfl | rfl | rfl | rfl | rfl | rfl | rfl | rfl | rfl | rfl | rfl | rfl | rfl | rfl | rfl | rfl | rfl | rfl | rfl | rfl | rfl | rfl <;> kernel_rfl
 ·kernel_rfl
theorem Pv {K:W.Frag} {T:String}:W.kitOne K (.type T) (.type T) = some true:=by
 unfold W.kitOne
 rw [if_pos (by simp)]
theorem Yb:bootBuiltins "int" = some (.type "int"):=by decide +kernel
theorem fu:bootBuiltins "bool" = some (.type "bool"):=by decide +kernel
theorem jj:bootBuiltins "tuple" = some (.type "tuple"):=by decide +kernel
theorem fq:bootBuiltins "list" = some (.type "list"):=by decide +kernel
theorem Ub:bootBuiltins "dict" = some (.type "dict"):=by decide +kernel
theorem xf:bootBuiltins "isinstance" = some (.builtin "isinstance"):=by decide +kernel
theorem Gx {K:W.Frag} (a T:String) (h:(a,T) ∈ ([("NoneType", "int"),("NoneType", "bool"),("NoneType", "str"),("NoneType", "tuple"),("NoneType", "list"),("NoneType", "dict"),("bool", "str"),("bool", "tuple"),("bool", "list"),("bool", "dict"),
  ("int", "bool"),("int", "str"),("int", "tuple"),("int", "list"),("int", "dict"),("str", "int"),("str", "bool"),("str", "tuple"),("str", "list"),("str", "dict"),
  ("tuple", "int"),("tuple", "bool"),("tuple", "str"),("tuple", "list"),("tuple", "dict"),("list", "int"),("list", "bool"),("list", "str"),("list", "tuple"),("list", "dict"),
  ("dict", "int"),("dict", "bool"),("dict", "str"),("dict", "tuple"),("dict", "list")]:List (String × String))):W.kitOne K (.type a) (.type T) = some false:=S9.ne (a,T) h
noncomputable def N0:D->String
 | .non=>"NoneType"
 | .bl _=>"bool"
 | .int _=>"int"
 | .str _=>"str"
 | .tup _=>"tuple"
 | .lst _=>"list"
 | .dk _ _=>"dict"
 | .dt _ _=>"dict"
 | .ty _=>"type"
 | .cn _=>"tuple"
 | .scr _=>"list"
 | .dz _=>"exc"
 | .exc _=>"exc"
 | .fd _=>"exc"
 | .ob _ _ _=>"exc"
noncomputable def Pw:List (String × String):=[("NoneType", "int"),("NoneType", "bool"),("NoneType", "str"),("NoneType", "tuple"),("NoneType", "list"),("NoneType", "dict"),("bool", "str"),("bool", "tuple"),("bool", "list"),("bool", "dict"),
  ("int", "bool"),("int", "str"),("int", "tuple"),("int", "list"),("int", "dict"),("str", "int"),("str", "bool"),("str", "tuple"),("str", "list"),("str", "dict"),
  ("tuple", "int"),("tuple", "bool"),("tuple", "str"),("tuple", "list"),("tuple", "dict"),("list", "int"),("list", "bool"),("list", "str"),("list", "tuple"),("list", "dict"),
  ("dict", "int"),("dict", "bool"),("dict", "str"),("dict", "tuple"),("dict", "list")]
noncomputable def isN (a T:String):Option Bool:=if a = T then some true else if a = "bool" /\ T = "int" then some true else if (a,T) ∈ Pw then some false else none
noncomputable def isT (d:D) (T:String):Option Bool:=match d with
 | .ty _=>none
 | .cn _=>none
 | .scr _=>none
 | .dz _=>none
 | .exc _=>none
 | .fd _=>none
 | .ob _ _ _=>none
 | d=>isN (N0 d) T
theorem K6 {K:W.Frag} {a T:String} {b:Bool} (h:isN a T = some b):W.kitOne K (.type a) (.type T) = some b:=by
 unfold isN at h
 split at h
 ·rename_i q
  cases h
  subst q
  exact Pv
 ·split at h
  ·rename_i q
   cases h
   obtain ⟨rfl,rfl⟩:=q
   exact S9.bi
  ·split at h
   ·rename_i q
    cases h
    exact Gx a T q
   ·cases h
theorem K5 {K:W.Frag} {d:D} {T:String} {b:Bool} (h:isT d T = some b):W.kitOne K (.type (N0 d)) (.type T) = some b:=by
 cases d with
 | ty _=>cases h
 | cn _=>cases h
 | scr _=>cases h
 | dz _=>cases h
 | exc _=>cases h
 | fd _=>cases h
 | ob _ _ _=>cases h
 | _=>exact K6 h
theorem X2:isT .non "int" = some false:=(by decide:isN "NoneType" "int" = some false)
theorem Zm:isT .non "bool" = some false:=(by decide:isN "NoneType" "bool" = some false)
theorem cq:isT .non "tuple" = some false:=(by decide:isN "NoneType" "tuple" = some false)
theorem U2 (b:Bool):isT (.bl b) "int" = some true:=(by decide:isN "bool" "int" = some true)
theorem X8 (b:Bool):isT (.bl b) "bool" = some true:=(by decide:isN "bool" "bool" = some true)
theorem Zr (b:Bool):isT (.bl b) "tuple" = some false:=(by decide:isN "bool" "tuple" = some false)
theorem X5 (i:Int):isT (.int i) "int" = some true:=(by decide:isN "int" "int" = some true)
theorem Zp (i:Int):isT (.int i) "bool" = some false:=(by decide:isN "int" "bool" = some false)
theorem X4 (i:Int):isT (.int i) "str" = some false:=(by decide:isN "int" "str" = some false)
theorem cv (i:Int):isT (.int i) "tuple" = some false:=(by decide:isN "int" "tuple" = some false)
theorem X1 (x:Str):isT (.str x) "int" = some false:=(by decide:isN "str" "int" = some false)
theorem Zl (x:Str):isT (.str x) "bool" = some false:=(by decide:isN "str" "bool" = some false)
theorem Yz (x:Str):isT (.str x) "str" = some true:=(by decide:isN "str" "str" = some true)
theorem cm (x:Str):isT (.str x) "tuple" = some false:=(by decide:isN "str" "tuple" = some false)
theorem Yy (l:List D):isT (.tup l) "int" = some false:=(by decide:isN "tuple" "int" = some false)
theorem Zk (l:List D):isT (.tup l) "bool" = some false:=(by decide:isN "tuple" "bool" = some false)
theorem ck (l:List D):isT (.tup l) "tuple" = some true:=(by decide:isN "tuple" "tuple" = some true)
theorem Zj (l:List D):isT (.tup l) "list" = some false:=(by decide:isN "tuple" "list" = some false)
theorem X3 (l:List D):isT (.lst l) "int" = some false:=(by decide:isN "list" "int" = some false)
theorem Zo (l:List D):isT (.lst l) "bool" = some false:=(by decide:isN "list" "bool" = some false)
theorem cu (l:List D):isT (.lst l) "tuple" = some false:=(by decide:isN "list" "tuple" = some false)
theorem Zn (l:List D):isT (.lst l) "list" = some true:=(by decide:isN "list" "list" = some true)
theorem U1 (k:List Key) (l:List D):isT (.dk k l) "int" = some false:=(by decide:isN "dict" "int" = some false)
theorem X7 (k:List Key) (l:List D):isT (.dk k l) "bool" = some false:=(by decide:isN "dict" "bool" = some false)
theorem Zq (k:List Key) (l:List D):isT (.dk k l) "tuple" = some false:=(by decide:isN "dict" "tuple" = some false)
theorem X6 (k:List Key) (l:List D):isT (.dk k l) "dict" = some true:=(by decide:isN "dict" "dict" = some true)
theorem Ow:u0 X (.builtin "isinstance") (fun xs H Q=>∃ d x T b,xs = [x,.ty T] /\ Rep X.K H [] d x /\ isT d T = some b /\ Q (.bl b) H):=by
 intro pn s σ H xs us Q I r h
 obtain ⟨d,x,T,b,rfl,rp,e,q⟩:=h
 obtain ⟨u,v,rfl,ru,rv⟩:=Qf r
 cases rv
 have ek:=K5 (K:=X.K) e
 have fin:∀ tk,EP X pn σ Q (.bool b) { s with toks:=tk }:=fun tk=>⟨.bl b,H,I.tok tk,rfl,q⟩
 cases d with
 | non=>cases (show x = _ from rp); exact wk I ru .non ek fin
 | bl c=>cases (show x = _ from rp); exact wk I ru (.bl c) ek fin
 | int c=>cases (show x = _ from rp); exact wk I ru (.int c) ek fin
 | str c=>cases (show x = _ from rp); exact wk I ru (.str c) ek fin
 | ty _=>cases e
 | cn _=>cases e
 | scr _=>cases e
 | dz _=>cases e
 | exc _=>cases e
 | fd _=>cases e
 | ob _ _ _=>cases e
 | lst ds=>obtain ⟨a,xs,rfl,q1,_⟩:=rp; exact wk I ru (.lst q1) ek fin
 | dk ks ds=>obtain ⟨a,xs,rfl,q1,_⟩:=rp; exact wk I ru (.dK q1) ek fin
 | dt ks ds=>obtain ⟨a,xs,rfl,q1,_⟩:=rp; exact wk I ru (.dT q1) ek fin
 | tup ds =>
  obtain ⟨a,xs,rfl,q1,_⟩:=rp
  cases (show u = Value.ref a from ru)
  obtain ⟨its,_,p,_⟩:=I.tuple q1.1
  obtain ⟨o,h1,h2,_⟩:=p
  exact W.kia_one W.kitx_tuple I.kIn ⟨o,h1,h2⟩ ek (fun z=>nomatch z) fin
noncomputable def sIsI:FT:=fun ds φ=>match ds with
 | [d,.ty T]=>match isT d T with
  | some b=>φ (dv (.bl b))
  | none=>False
 | _=>False
theorem wo (hm:X.mg "isinstance" = none) (ha:EA Γ X (e :: es) t) (hg:Gl X "isinstance":=by rfl) (he:starEach (e :: es) X.env = (false,eval e X.env) :: starEach es X.env:=by rfl) (hpl:(backTo pos (starEach es X.env)).any (·.1) = false:=by rfl):ED Γ X (.Call (.Name "isinstance" p) (e :: es) [] pos) (dCB sIsI t) :=
 tz Ow (fun H O ds vs φ Q ho hv h k=>by
  unfold sIsI at h
  split at h
  ·split at h
   ·rename_i d T b eb
    obtain ⟨v,ws,rfl,h1,v2,ws2,rfl,h2,rfl⟩:=hv
    cases (show v2 = _ from h2)
    exact ⟨_,v,_,_,rfl,h1.rep0,eb,k _ _ H (Same.refl H) (by exact rfl) h⟩
   ·exact h.elim
  ·exact h.elim) hm xf ha hg (by decide) (by decide) he hpl
noncomputable def Eg:FT:=fun ds φ=>match ds with
 | [.lst l]=>φ (dv (.tup l))
 | [.tup l]=>φ (dv (.tup l))
 | _=>False
noncomputable def sListC:FT:=fun ds φ=>match ds with
 | [.lst l]=>φ (df (.lst l))
 | [.tup l]=>φ (df (.lst l))
 | _=>False
theorem V6 (hm:X.mg "list" = none) (ha:EA Γ X (e :: es) t) (hg:Gl X "list":=by rfl) (he:starEach (e :: es) X.env = (false,eval e X.env) :: starEach es X.env:=by rfl) (hpl:(backTo pos (starEach es X.env)).any (·.1) = false:=by rfl):ED Γ X (.Call (.Name "list" p) (e :: es) [] pos) (dCB sListC t) :=
 Y3 Y6 (fun H O ds vs φ Q ho hv h k=>by
  unfold sListC at h
  split at h
  ·obtain ⟨v,ws,rfl,⟨a,xs,rfl,q,r⟩,rfl⟩:=hv
   exact ⟨a,xs,rfl,.inl (SqL.of q),fun l hl=>k _ _ _ (zu hl _) (uy ho hl r) h⟩
  ·obtain ⟨v,ws,rfl,⟨a,xs,rfl,q,r⟩,rfl⟩:=hv
   exact ⟨a,xs,rfl,.inr q.1,fun l hl=>k _ _ _ (zu hl _) (uy ho hl r) h⟩
  ·exact h.elim) hm fq ha hg (by decide) (by decide) he hpl
end
section
variable {X:Cx} {x:Str} {e:Expr} {te:TD} {apos np cpos pos:Pos}
noncomputable def sApp (i:Nat) (te:TD):TDS:=fun ρ Z=>match slot ρ i with
 | some ⟨.own,.lst ds⟩=>te ρ fun r=>(match r.k with | .own=>False | _=>True) /\ ds.length <= 100000 /\ Z.nx (setS ρ i (dO (.lst (ds ++ [r.d]))))
 | _=>False
theorem Z4 (i:Nat) (he:ED Γ X e te) (hN:X.N[i]? = some x:=by rfl) (hv:Vis X.env.scope x:=by first | exact Or.inl rfl | exact Or.inr (Or.inl rfl) | exact Or.inr (Or.inr rfl)) (hd:(x == ("__debug__" : Str)) = false:=by decide)
  (hcd:(x == ("__classdict__" : Str)) = false:=by decide)
  (hp:∀ {ta tb:TE},PE X (.Name x np) ta->PE X e tb->PS X (.Expr (.Call (.Attribute (.Name x np) "append" apos) [e] [] cpos) pos) (Ji (tBM X.K "list" Td ta (Jk tb tNil))):=by
   intro ta tb h1 h2
   exact c3 (Ep PySem.F.plainAttrs_list PySem.F.slot_list_append PySem.F.type_list_append Ze h1 (xi h2 t0))) :
  SD Γ X (.Expr (.Call (.Attribute (.Name x np) "append" apos) [e] [] cpos) pos) (sApp i te):=fun H₀=>impS (hp (Zb hN hv hd hcd) (he H₀)) fun D σ H h=>by
 obtain ⟨ρ,o,R,Z,hZ,k1,k2,k3,k4⟩:=h
 unfold sApp at hZ
 split at hZ
 ·rename_i ds es
  obtain ⟨v0,ev0,q0⟩:=R.slots i _ (wd es)
  rcases q0 with ⟨k,_⟩ | ⟨_,a,rfl,m,c⟩
  ·cases k
  obtain ⟨xs,hx,rx⟩:=c
  refine ⟨.ref a,ev0,.inl ⟨rfl,xs,SqL.of hx⟩,?_⟩
  refine ⟨ρ,o,R,_,hZ,fun v r H1 s1 rv h1=>?_⟩
  obtain ⟨h0,hl,hn⟩:=h1
  have hx1:=s1 _ _ hx
  have R1:=R.to s1
  have rx1:=Reps.grow (Grow.same s1) _ _ rx
  refine ⟨a,xs,v,rfl,rfl,hx1,?_,?_⟩
  ·rw [rx.length]
   exact Nat.lt_of_le_of_lt hl (by decide)
  ·obtain ⟨R2,g2⟩:=R1.chg (d':=.lst (ds ++ [r.d])) (ho:=.lst (xs ++ [v])) (wd es) ev0 m ⟨fun _ z=>(by cases z),fun _ _ z=>(by cases z)⟩ fun gr=>⟨xs ++ [v],zk,gr _ _ (rx1.append (Reps.one (rv.solid (wv h0))))⟩
   exact k1 _ σ _ o ((Grow.same s1).trans g2) R2 hn
 ·exact hZ.elim
end
section
variable {P:Program} {w:World} {K:W.Frag} {mg:Str->Option Value} {base:Heap}
noncomputable def yu (n:Nat) (ds:List D):DE:=ds.map (fun d=>some (dv d)) ++ List.replicate (n - ds.length) none
theorem Ss {x qual:Str} {st:Stmt} {f:Addr} {fd:FuncData} {N ps:List Str} {k:Nat} {T:FT} (F:Fun K x qual st f fd) (S:zp N ps (zb st))
  (qY:∀ (qZ:Value) (A:Around) (outer:List Env) (s:Shared) (H:Hp) (E:XK) (ds:List D) (φ:EV->Prop),Room k (A.deeper (envOfC qual (zb st) s.heap.objs.size f qZ))->ds.length = ps.length->T ds φ ->
   ∃ t,SDs (fun _=>True) (cxOf CX0 P w K mg base N qual (zb st) f qZ A outer s H E).nox (yt st) t /\ t (yu N.length ds) { nx:=fun _=>φ (dv .non),rt:=fun r=>wa r /\ φ r }):FnOk P w K mg base CX0 (k + 1) f fd ps (spD K ps.length T):=by
 refine F.ok S (fun vs H Q E h=>?_) (fun qZ A outer s H vs Q E hr h=>?_)
 ·obtain ⟨ds,φ,hl,r,_⟩:=h
  rw [r.length,hl]
 ·obtain ⟨ds,φ,hl,r,hT,kk⟩:=h
  obtain ⟨t,ht,hq⟩:=qY qZ A outer s H E ds φ hr hl hT
  have rl:=r.length
  refine ⟨Vy K H t,ht ⟨H,trivial⟩,yu N.length ds,[],⟨Same.refl H,(fun _ z=>absurd z (by simp)),(fun _ z=>absurd z (by simp)),(fun _ z=>absurd z (by simp)),List.nodup_nil,fun i r' e=>?_,?_⟩,_,hq,fun ρ' σ' H' o' g R' q=>?_,fun _ _ _ _ _ _ q=>q.elim,fun _ _ _ _ _ _ q=>q.elim,fun v r' H' s' rv q=>kk v r' H' s' rv q.1 q.2⟩
  ·unfold yu at e
   rcases Nat.lt_or_ge i ds.length with hi | hi
   ·rw [List.getElem?_append_left (by simpa using hi),List.getElem?_map] at e
    have ed:ds[i]? = some ds[i]:=by simp [hi]
    rw [ed] at e
    have e':some (dv ds[i]) = some r':=Option.some.inj e
    cases e'
    obtain ⟨v,ev,rv⟩:=r.get ed
    refine ⟨v,?_,.inl ⟨rfl,rv⟩⟩
    unfold L2.start
    rw [List.getElem?_append_left (by rw [List.length_map,rl]; exact hi),List.getElem?_map,ev]
    rfl
   ·rw [List.getElem?_append_right (by simpa using hi),List.getElem?_replicate] at e
    split at e <;> cases e
  ·unfold L2.start yu
   simp [rl]
  ·exact kk .non (dv .non) H' R'.same rfl trivial q
theorem ue {x qual:Str} {st:Stmt} {f:Addr} {fd:FuncData} {N ps:List Str} {k:Nat} {T:FT} (F:Fun K x qual st f fd) (S:zp N ps (zb st)) (b:vf K fd ps []) (m:mg x = some (.ref f))
  (qY:∀ (qZ:Value) (A:Around) (outer:List Env) (s:Shared) (H:Hp) (E:XK) (ds:List D) (φ:EV->Prop),Room k (A.deeper (envOfC qual (zb st) s.heap.objs.size f qZ))->ds.length = ps.length->T ds φ ->
   ∃ t,SDs (fun _=>True) (cxOf CX0 P w K mg base N qual (zb st) f qZ A outer s H E).nox (yt st) t /\ t (yu N.length ds) { nx:=fun _=>φ (dv .non),rt:=fun r=>wa r /\ φ r }):FD P w K mg base (k + 1) x ps T:=⟨f,fd,Ss F S qY,b,F.kp,m⟩
end
noncomputable def lawT:FT:=fun ds φ=>∃ ns:List Int,ds = [.scr ns] /\ ns.length <= 63 /\ φ (dv (.bl true))
theorem walkD {l:W.OpenLaw} {q:Program} {loose:List Str} {XP:(Str->Option Value)->Heap->Prop} {YP:World->Heap->Prop} {d:DefRec} {K:Params->W.Frag} {x:Str} {k:Nat} (hn:l.most = some 63) (hdf:d.params.defaults = []) (hr:Room k callerA)
  (hY:∀ (w:World) (h:Heap),YP w h->(K w.params).In h)
  (F:∀ (w:World) (mg:Str->Option Value) (fa:Addr) (h:Heap),(K w.params).In h->h.Ns mainGlobals mg->mg d.name = some (.ref fa) ->
   ∃ fd:FuncData,(∀ (s:Shared) (u:Value),BindsTo s fd ⟨[u],[]⟩ [(x,u)]) /\ ∀ base:Heap,(K w.params).In base->base.Ns mainGlobals mg->FnOk l.prog w (K w.params) mg base CX0 k fa fd [x] (spD (K w.params) 1 lawT)) :
  W.WalkO q loose XP YP l.row.toRowW d [] (fun f vs=>PySem.call f vs) :=
 L2.walk_of (n:=63) (k:=k) (x:=x) (CX:=fun _=>CX0) (sp:=fun w=>spD (K w.params) 1 lawT) hn (by decide) hdf hr hY F (fun w H a ns hl ho hS=>by
  refine ⟨[.scr ns],fun r=>r = dv (.bl true),rfl,⟨.ref a,[],rfl,⟨a,rfl,?_⟩,rfl⟩,⟨ns,rfl,hl,rfl⟩,fun v r H' s rv p e=>by subst e; exact rv⟩
  rcases hS with (h | ⟨o,h⟩) | h
  ·rcases ho a with z | ⟨o,xs,z⟩
   ·rw [z] at h; cases h
   ·rw [z] at h; cases h
  ·exact .inl ⟨o,h⟩
  ·exact .inr h) fun _ _ _ _ _ z=>z
end DL
namespace L3
open PySem PySem.Spec PyProof.Rows
section
variable {P:Program} {w:World} {A:Around} {E:Value->Shared->Prop} {s:Shared}
theorem Vs {it l:Addr} {i:Nat} {xs:Array Value} {x:Value} {Q:Value->Shared->Prop} (hi:s.heap.IsTupleIter it l i) (hl:s.heap.IsTuple l xs) (hx:xs[i]? = some x)
  (hQ:∀ g,g.IsTupleIter it l (i + 1)->Heap.SameBut it s.heap g->Q x { s with heap:=g }):wpAny (model P w) A (Builtin.SmallTypes.nextOf (.ref it)) Q E s:=by
 obtain ⟨o,ho,hc,hd⟩:=id hi
 obtain ⟨ol,hol,_,nl,hdl⟩:=hl
 unfold Builtin.SmallTypes.nextOf
 refine wpAny_bind (wpAny_callSpecial?_slot (name:=Str.ofString "__next__") hi.typeIs F.slot_tuple_iterator_next (wpAny_call_entry F.slot_tuple_iterator_next hi.typeIs F.entry_tuple_iterator_next ?_ (F.args_tuple_iterator_next_1 _)))
 show wpAny _ _ (field (.ref it) 0 >>= _) _ _ s
 refine wpAny_bind (wpAny_field ho hd (x:=.ref l) rfl ?_)
 show wpAny _ _ (if (Value.ref l == Value.none) = true then _ else _) _ _ s
 rw [if_neg (show ¬ ((Value.ref l == Value.none) = true) from Bool.false_ne_true)]
 show wpAny _ _ (field (.ref it) 1 >>= _) _ _ s
 refine wpAny_bind (wpAny_field ho hd (x:=.int i 0) rfl ?_)
 show wpAny _ _ (seqItems? (.ref l) >>= _) _ _ s
 refine wpAny_bind (wpAny_seqItems hol hdl ?_)
 simp only [Int.toNat_natCast,hx]
 refine wpAny_bind (wpAny_setField ho hd (by simp) (wpAny_pure ⟨x,rfl,wpAny_pure (hQ _ ⟨_,Heap.get?_update_self _ ho (Obj.isFreed_of_fields (Obj.data_mapFields hd _)),(Obj.cls_mapFields ..).trans hc,?_⟩ (Heap.SameBut.update ..))⟩))
 rw [Obj.data_mapFields hd]
 simp [rawInt]
theorem Tt {it l:Addr} {i:Nat} {xs:Array Value} {Q:Value->Shared->Prop} (hh:A.handled = none) (hi:s.heap.IsTupleIter it l i) (hl:s.heap.IsTuple l xs) (hx:xs[i]? = none)
  (hE:∀ g e,Heap.ExtBut it s.heap g->(∃ o,g.get? e = some o /\ o.cls = .type "StopIteration")->E (.ref e) { s with heap:=g }):wpAny (model P w) A (Builtin.SmallTypes.nextOf (.ref it)) Q E s:=by
 obtain ⟨o,ho,hc,hd⟩:=id hi
 obtain ⟨ol,hol,_,nl,hdl⟩:=hl
 unfold Builtin.SmallTypes.nextOf
 refine wpAny_bind (wpAny_callSpecial?_slot (name:=Str.ofString "__next__") hi.typeIs F.slot_tuple_iterator_next (wpAny_call_entry F.slot_tuple_iterator_next hi.typeIs F.entry_tuple_iterator_next ?_ (F.args_tuple_iterator_next_1 _)))
 show wpAny _ _ (field (.ref it) 0 >>= _) _ _ s
 refine wpAny_bind (wpAny_field ho hd (x:=.ref l) rfl ?_)
 show wpAny _ _ (if (Value.ref l == Value.none) = true then _ else _) _ _ s
 rw [if_neg (show ¬ ((Value.ref l == Value.none) = true) from Bool.false_ne_true)]
 show wpAny _ _ (field (.ref it) 1 >>= _) _ _ s
 refine wpAny_bind (wpAny_field ho hd (x:=.int i 0) rfl ?_)
 show wpAny _ _ (seqItems? (.ref l) >>= _) _ _ s
 refine wpAny_bind (wpAny_seqItems hol hdl ?_)
 simp only [Int.toNat_natCast,hx]
 refine wpAny_bind (wpAny_rule (wpAny_bind (wpAny_setField ho hd (by simp) ?_)))
 show wpAny _ _ (newExc (.type "StopIteration") [] >>= _) _ _ _
 refine wpAny_bind ?_
 simp only [newExc,newTuple]
 refine wpAny_bind (wpAny_newObj_type ?_ (by size_fits))
 refine wpAny_bind (m:=firstArgMember _ _) (wpAny_of_eq (a:=Value.none) (by first | rfl | (simp only [firstArgMember]; rfl)) ?_)
 refine wpAny_newObj_type ?_ (by size_fits)
 simp only [raiseNew]
 refine wpAny_bind (wpAny_handled ?_)
 first | rw [show A.in1.handled = none from hh] | rw [hh]
 exact wpAny_bind (wpAny_pure (wpAny_throw (hE _ _ (((Heap.SameBut.update ..).extBut.push _).push _) ⟨_,Heap.get?_push_size _ rfl,rfl⟩)))
noncomputable def SqAt (b:Bool) (h:Heap) (l:Addr) (xs:Array Value):Prop:=match b with
 | true=>h.IsTuple l xs
 | false=>h.IsList l xs
noncomputable def ItAt (b:Bool) (h:Heap) (it l:Addr) (i:Nat):Prop:=match b with
 | true=>h.IsTupleIter it l i
 | false=>h.IsListIter it l i
theorem SqAt.at {b:Bool} {h g:Heap} {l:Addr} {xs:Array Value} (x:SqAt b h l xs) (k:∀ o,h.get? l = some o->g.get? l = some o):SqAt b g l xs:=by
 cases b with
 | true=>exact Heap.IsTuple.at (show h.IsTuple l xs from x) k
 | false=>exact Heap.IsList.at (show h.IsList l xs from x) k
theorem ItAt.at {b:Bool} {h g:Heap} {it l:Addr} {i:Nat} (x:ItAt b h it l i) (k:∀ o,h.get? it = some o->g.get? it = some o):ItAt b g it l i:=by
 cases b with
 | true=>exact Heap.IsTupleIter.at (show h.IsTupleIter it l i from x) k
 | false=>exact Heap.IsListIter.at (show h.IsListIter it l i from x) k
theorem sv {b:Bool} {it l:Addr} {i:Nat} {xs:Array Value} {x:Value} {Q:Value->Shared->Prop} (hi:ItAt b s.heap it l i) (hl:SqAt b s.heap l xs) (hx:xs[i]? = some x)
  (hQ:∀ g,ItAt b g it l (i + 1)->Heap.SameBut it s.heap g->Q x { s with heap:=g }):wpAny (model P w) A (Builtin.SmallTypes.nextOf (.ref it)) Q E s:=by
 cases b with
 | true=>exact Vs hi hl hx hQ
 | false=>exact wpAny_nextOf_list_item hi hl hx hQ
theorem Zd {b:Bool} {it l:Addr} {i:Nat} {xs:Array Value} {Q:Value->Shared->Prop} (hh:A.handled = none) (hi:ItAt b s.heap it l i) (hl:SqAt b s.heap l xs) (hx:xs[i]? = none)
  (hE:∀ g e,Heap.ExtBut it s.heap g->(∃ o,g.get? e = some o /\ o.cls = .type "StopIteration")->E (.ref e) { s with heap:=g }):wpAny (model P w) A (Builtin.SmallTypes.nextOf (.ref it)) Q E s:=by
 cases b with
 | true=>exact Tt hh hi hl hx hE
 | false=>exact wpAny_nextOf_list_end hh hi hl hx hE
structure ZAt (b1 b2:Bool) (g:Heap) (z ti to i1 i2 l1 l2:Addr) (f:Value) (k:Nat):Prop where
 zz:IsZip g z ti to f
 its:IsPair g ti (.ref i1) (.ref i2)
 out:∃ a b,IsPair g to a b
 one:ItAt b1 g i1 l1 k
 two:ItAt b2 g i2 l2 k
structure ZNe (z ti to i1 i2:Addr):Prop where
 ab:ti ≠ z
 ac:to ≠ z
 ad:i1 ≠ z
 ae:i2 ≠ z
 bc:ti ≠ to
 bd:ti ≠ i1
 be:ti ≠ i2
 cd:to ≠ i1
 ce:to ≠ i2
 de:i1 ≠ i2
noncomputable def ZOff (z to i1 i2 c:Addr):Prop:=c ≠ z /\ c ≠ to /\ c ≠ i1 /\ c ≠ i2
theorem Qb {b1 b2:Bool} {z ti to i1 i2 l1 l2:Addr} {k:Nat} {xs ys:Array Value} {x y:Value} {Q:Value->Shared->Prop} (D:ZNe z ti to i1 i2) (d1:ZOff z to i1 i2 l1) (d2:ZOff z to i1 i2 l2) (Z:ZAt b1 b2 s.heap z ti to i1 i2 l1 l2 .none k)
  (t1:SqAt b1 s.heap l1 xs) (t2:SqAt b2 s.heap l2 ys) (hx:xs[k]? = some x) (hy:ys[k]? = some y)
  (hQ:∀ g,ZAt b1 b2 g z ti to i1 i2 l1 l2 (rawInt s.heap.objs.size) (k + 1)->IsPair g s.heap.objs.size x y->(∀ c o,ZOff z to i1 i2 c->s.heap.get? c = some o->g.get? c = some o)->Q (.ref s.heap.objs.size) { s with heap:=g }) :
  wpAny (model P w) A (Builtin.«zip.__next__» ⟨[.ref z],[]⟩) (fun fin s'=>∃ v,fin = .done (.ret v) /\ Q v s') E s:=by
 obtain ⟨hz,hti,⟨a,b,hto⟩,h1,h2⟩:=Z
 show wpAny _ _ (field (.ref z) 2 >>= _) _ _ _
 refine wpAny_bind (wpAny_field hz rfl (x:=.bool false) rfl ?_)
 show wpAny _ _ (field (.ref z) 3 >>= _) _ _ _
 refine wpAny_bind (wpAny_field hz rfl (x:=.ref ti) rfl ?_)
 refine wpAny_bind (wpAny_seqItems hti rfl ?_)
 show wpAny _ _ (Builtin.SmallTypes.ownedTupleIsFree (.ref z) >>= _) _ _ _
 refine wpAny_bind ?_
 unfold Builtin.SmallTypes.ownedTupleIsFree
 refine wpAny_bind (wpAny_field hz rfl (x:=.none) rfl (wpAny_pure ?_))
 simp only [if_true]
 refine wpAny_bind (wpAny_rule ?_)
 refine wpAny_bind (wpAny_field hz rfl (x:=.ref to) rfl ?_)
 refine wpAny_bind (wpAny_setField_rec hz (by simp) fun g1 z1 s1=>?_)
 replace z1:IsZip g1 z ti to .ellipsis:=z1
 refine wpAny_bind ?_
 simp only [List.zipIdx_cons,List.zipIdx_nil,List.forIn_cons,List.forIn_nil]
 refine wpAny_bind (wpAny_bind (wpAny_onRaise ?_))
 show wpAny _ _ (Builtin.SmallTypes.nextOf (.ref i1) >>= _) _ _ _
 refine wpAny_bind (sv (h1.at fun o e=>s1.extBut _ o D.ad e) (t1.at fun o e=>s1.extBut _ o d1.1 e) hx fun g2 p2 s2=>wpAny_pure ?_)
 have to2:IsPair g2 to a b:=s2.extBut _ _ D.cd (s1.extBut _ _ D.ac hto)
 refine wpAny_bind (wpAny_seqItems to2 rfl (wpAny_bind (wpAny_updateSeq_pair to2 fun g3 to3 s3=>?_)))
 replace to3:IsPair g3 to x b:=to3
 refine wpAny_bind (wpAny_letGo (wpAny_pure (wpAny_bind (wpAny_bind (wpAny_onRaise ?_)))))
 show wpAny _ _ (Builtin.SmallTypes.nextOf (.ref i2) >>= _) _ _ _
 refine wpAny_bind (sv (h2.at fun o e=>s3.extBut _ o D.ce.symm (s2.extBut _ o D.de.symm (s1.extBut _ o D.ae e))) (t2.at fun o e=>s3.extBut _ o d2.2.1 (s2.extBut _ o d2.2.2.1 (s1.extBut _ o d2.1 e))) hy fun g4 p4 s4=>wpAny_pure ?_)
 have to4:IsPair g4 to x b:=s4.extBut _ _ D.ce to3
 refine wpAny_bind (wpAny_seqItems to4 rfl (wpAny_bind (wpAny_updateSeq_pair to4 fun g5 to5 s5=>?_)))
 replace to5:IsPair g5 to x y:=to5
 refine wpAny_bind (wpAny_letGo (wpAny_pure (wpAny_pure (wpAny_bind (wpAny_seqItems to5 rfl (wpAny_bind (wpAny_newTuple ?_)))))))
 have sz:g5.objs.size = s.heap.objs.size:=by rw [s5.1,s4.1,s3.1,s2.1,s1.1]
 have z5:IsZip g5 z ti to .ellipsis:=s5.extBut _ _ D.ac.symm (s4.extBut _ _ D.ae.symm (s3.extBut _ _ D.ac.symm (s2.extBut _ _ D.ad.symm z1)))
 have kp5:∀ c o,ZOff z to i1 i2 c->s.heap.get? c = some o->g5.get? c = some o:=fun c o q e=>s5.extBut _ _ q.2.1 (s4.extBut _ _ q.2.2.2 (s3.extBut _ _ q.2.1 (s2.extBut _ _ q.2.2.1 (s1.extBut _ _ q.1 e))))
 have q1:ItAt b1 g5 i1 l1 (k + 1):=p2.at fun o e=>s5.extBut _ o D.cd.symm (s4.extBut _ o D.de (s3.extBut _ o D.cd.symm e))
 have q2:ItAt b2 g5 i2 l2 (k + 1):=p4.at fun o e=>s5.extBut _ o D.ce.symm e
 have lz:z < g5.objs.size:=Heap.lt_size z5
 show wpAny _ _ (Builtin.SmallTypes.ownedTupleHandOut (.ref z) (.ref g5.objs.size) >>= _) _ _ _
 refine wpAny_bind ?_
 unfold Builtin.SmallTypes.ownedTupleHandOut
 have z6:IsZip (g5.push { cls:=.type "tuple", data:=.seq #[x,y] }) z ti to .ellipsis:=Heap.get?_push_of_some _ z5
 refine wpAny_bind (wpAny_setField_rec z6 (by simp) fun g7 z7 s7=>?_)
 replace z7:IsZip g7 z ti to (rawInt g5.objs.size):=z7
 refine wpAny_setField_rec z7 (by simp) fun g8 z8 s8=>?_
 replace z8:IsZip g8 z ti to (rawInt g5.objs.size):=z8
 have up:∀ c o,c ≠ z->g5.get? c = some o->g8.get? c = some o:=fun c o c1 e=>s8.extBut _ _ c1 (s7.extBut _ _ c1 (Heap.get?_push_of_some _ e))
 have pr:IsPair g8 g5.objs.size x y:=s8.extBut _ _ (Nat.ne_of_gt lz) (s7.extBut _ _ (Nat.ne_of_gt lz) (Heap.get?_push_size _ rfl))
 rw [sz] at z8 pr
 refine wpAny_pure ⟨_,rfl,?_⟩
 show Q (.ref g5.objs.size) _
 rw [sz]
 exact hQ g8 ⟨z8,up _ _ D.ab (kp5 _ _ ⟨D.ab,D.bc,D.bd,D.be⟩ hti),⟨_,_,up _ _ D.ac to5⟩,q1.at fun o e=>up _ o D.ad e,q2.at fun o e=>up _ o D.ae e⟩ pr fun c o q e=>up c o q.1 (kp5 c o q e)
theorem M0 {b1 b2:Bool} {z ti to i1 i2 l1 l2:Addr} {k:Nat} {xs ys:Array Value} {Q:Fin->Shared->Prop} (hh:A.handled = none) (D:ZNe z ti to i1 i2) (d1:ZOff z to i1 i2 l1) (d2:ZOff z to i1 i2 l2) (Z:ZAt b1 b2 s.heap z ti to i1 i2 l1 l2 .none k)
  (t1:SqAt b1 s.heap l1 xs) (t2:SqAt b2 s.heap l2 ys) (hend:xs[k]? = none \/ ys[k]? = none)
  (hE:∀ g e,(∀ c o,ZOff z to i1 i2 c->s.heap.get? c = some o->g.get? c = some o)->(∃ o,g.get? e = some o /\ o.cls = .type "StopIteration")->E (.ref e) { s with heap:=g }) :
  wpAny (model P w) A (Builtin.«zip.__next__» ⟨[.ref z],[]⟩) Q E s:=by
 obtain ⟨hz,hti,⟨a,b,hto⟩,h1,h2⟩:=Z
 show wpAny _ _ (field (.ref z) 2 >>= _) _ _ _
 refine wpAny_bind (wpAny_field hz rfl (x:=.bool false) rfl ?_)
 show wpAny _ _ (field (.ref z) 3 >>= _) _ _ _
 refine wpAny_bind (wpAny_field hz rfl (x:=.ref ti) rfl ?_)
 refine wpAny_bind (wpAny_seqItems hti rfl ?_)
 show wpAny _ _ (Builtin.SmallTypes.ownedTupleIsFree (.ref z) >>= _) _ _ _
 refine wpAny_bind ?_
 unfold Builtin.SmallTypes.ownedTupleIsFree
 refine wpAny_bind (wpAny_field hz rfl (x:=.none) rfl (wpAny_pure ?_))
 simp only [if_true]
 refine wpAny_bind (wpAny_rule ?_)
 refine wpAny_bind (wpAny_field hz rfl (x:=.ref to) rfl ?_)
 refine wpAny_bind (wpAny_setField_rec hz (by simp) fun g1 z1 s1=>?_)
 replace z1:IsZip g1 z ti to .ellipsis:=z1
 refine wpAny_bind ?_
 simp only [List.zipIdx_cons,List.zipIdx_nil,List.forIn_cons,List.forIn_nil]
 refine wpAny_bind (wpAny_bind (wpAny_onRaise ?_))
 show wpAny _ _ (Builtin.SmallTypes.nextOf (.ref i1) >>= _) _ _ _
 cases hx:xs[k]? with
 | none =>
  refine wpAny_bind (Zd hh (h1.at fun o e=>s1.extBut _ o D.ad e) (t1.at fun o e=>s1.extBut _ o d1.1 e) hx fun g2 e s2 he=>?_)
  obtain ⟨oe,hoe,hce⟩:=he
  have z2:IsZip g2 z ti to .ellipsis:=s2 _ _ D.ad.symm z1
  have ez:e ≠ z:=fun x=>by subst x; rw [z2] at hoe; cases hoe; simp at hce
  exact wpAny_setField_rec z2 (by simp) fun g3 _ s3=>hE g3 e (fun c o q x=>s3.extBut _ _ q.1 (s2 _ _ q.2.2.1 (s1.extBut _ _ q.1 x))) ⟨oe,s3.extBut _ _ ez hoe,hce⟩
 | some x =>
  have hy:ys[k]? = none:=by rcases hend with h | h; rw [hx] at h; cases h; exact h
  refine wpAny_bind (sv (h1.at fun o e=>s1.extBut _ o D.ad e) (t1.at fun o e=>s1.extBut _ o d1.1 e) hx fun g2 p2 s2=>wpAny_pure ?_)
  have to2:IsPair g2 to a b:=s2.extBut _ _ D.cd (s1.extBut _ _ D.ac hto)
  refine wpAny_bind (wpAny_seqItems to2 rfl (wpAny_bind (wpAny_updateSeq_pair to2 fun g3 to3 s3=>?_)))
  refine wpAny_bind (wpAny_letGo (wpAny_pure (wpAny_bind (wpAny_bind (wpAny_onRaise ?_)))))
  show wpAny _ _ (Builtin.SmallTypes.nextOf (.ref i2) >>= _) _ _ _
  refine wpAny_bind (Zd hh (h2.at fun o e=>s3.extBut _ o D.ce.symm (s2.extBut _ o D.de.symm (s1.extBut _ o D.ae e))) (t2.at fun o e=>s3.extBut _ o d2.2.1 (s2.extBut _ o d2.2.2.1 (s1.extBut _ o d2.1 e))) hy fun g4 e s4 he=>?_)
  obtain ⟨oe,hoe,hce⟩:=he
  have z4:IsZip g4 z ti to .ellipsis:=s4 _ _ D.ae.symm (s3.extBut _ _ D.ac.symm (s2.extBut _ _ D.ad.symm z1))
  have ez:e ≠ z:=fun x=>by subst x; rw [z4] at hoe; cases hoe; simp at hce
  exact wpAny_setField_rec z4 (by simp) fun g5 _ s5=>hE g5 e (fun c o q x=>s5.extBut _ _ q.1 (s4 _ _ q.2.2.2 (s3.extBut _ _ q.2.1 (s2.extBut _ _ q.2.2.1 (s1.extBut _ _ q.1 x))))) ⟨oe,s5.extBut _ _ ez hoe,hce⟩
theorem Ts {b1 b2:Bool} {z ti to i1 i2 l1 l2:Addr} {k:Nat} {xs ys:Array Value} {x y:Value} {Q:Option Value->Shared->Prop} (D:ZNe z ti to i1 i2) (d1:ZOff z to i1 i2 l1) (d2:ZOff z to i1 i2 l2) (Z:ZAt b1 b2 s.heap z ti to i1 i2 l1 l2 .none k)
  (t1:SqAt b1 s.heap l1 xs) (t2:SqAt b2 s.heap l2 ys) (hx:xs[k]? = some x) (hy:ys[k]? = some y)
  (hQ:∀ g,ZAt b1 b2 g z ti to i1 i2 l1 l2 (rawInt s.heap.objs.size) (k + 1)->IsPair g s.heap.objs.size x y->(∀ c o,ZOff z to i1 i2 c->s.heap.get? c = some o->g.get? c = some o)->Q (some (.ref s.heap.objs.size)) { s with heap:=g }) :
  wpAny (model P w) A (pyNext (.ref z)) Q E s:=by
 have ty:s.TypeIs (.ref z) "zip":=⟨_,Z.zz,rfl⟩
 unfold pyNext
 exact wpAny_bind (wpAny_attempt (wpAny_callSpecial?_slot (name:=Str.ofString "__next__") ty F.slot_zip_next (wpAny_call_entry F.slot_zip_next ty F.entry_zip_next (Qb D d1 d2 Z t1 t2 hx hy fun g a b c=>wpAny_pure (hQ g a b c)) (F.args_zip_next_1 _))))
theorem Ph {b1 b2:Bool} {z ti to i1 i2 l1 l2:Addr} {k:Nat} {xs ys:Array Value} {Q:Option Value->Shared->Prop} (hh:A.handled = none) (D:ZNe z ti to i1 i2) (d1:ZOff z to i1 i2 l1) (d2:ZOff z to i1 i2 l2) (Z:ZAt b1 b2 s.heap z ti to i1 i2 l1 l2 .none k)
  (t1:SqAt b1 s.heap l1 xs) (t2:SqAt b2 s.heap l2 ys) (hend:xs[k]? = none \/ ys[k]? = none)
  (hQ:∀ g,(∀ c o,ZOff z to i1 i2 c->s.heap.get? c = some o->g.get? c = some o)->Q none { s with heap:=g }):wpAny (model P w) A (pyNext (.ref z)) Q E s:=by
 have ty:s.TypeIs (.ref z) "zip":=⟨_,Z.zz,rfl⟩
 unfold pyNext
 refine wpAny_bind (wpAny_attempt (wpAny_callSpecial?_slot (name:=Str.ofString "__next__") ty F.slot_zip_next (wpAny_call_entry F.slot_zip_next ty F.entry_zip_next (M0 hh D d1 d2 Z t1 t2 hend fun g e kp he=>?_) (F.args_zip_next_1 _))))
 obtain ⟨o,ho,hc⟩:=he
 refine wpAny_bind (wpAny_isInstance (T:="StopIteration") (b:=true) ⟨o,ho,hc⟩ isSubtype_stop ?_)
 exact wpAny_pure (hQ _ kp)
noncomputable def Np (b:Bool):String:=match b with
 | true=>"tuple_iterator"
 | false=>"list_iterator"
noncomputable abbrev zh1 (b1:Bool) (h:Heap) (l1:Addr):Heap:=h.push { cls:=.type (Np b1),data:=.fields #[.ref l1,.int 0 0] }
noncomputable abbrev zh2 (b1 b2:Bool) (h:Heap) (l1 l2:Addr):Heap:=(zh1 b1 h l1).push { cls:=.type (Np b2),data:=.fields #[.ref l2,.int 0 0] }
noncomputable abbrev zh3 (b1 b2:Bool) (h:Heap) (l1 l2:Addr):Heap:=(zh2 b1 b2 h l1 l2).push { cls:=.type "tuple", data:=.seq #[.ref h.objs.size,.ref (zh1 b1 h l1).objs.size] }
noncomputable abbrev zh4 (b1 b2:Bool) (h:Heap) (l1 l2:Addr):Heap:=(zh3 b1 b2 h l1 l2).push { cls:=.type "tuple", data:=.seq #[.none,.none] }
noncomputable abbrev zh5 (b1 b2:Bool) (h:Heap) (l1 l2:Addr):Heap:=(zh4 b1 b2 h l1 l2).push { cls:=.type "zip", data:=.fields #[.none,.bool false,.bool false,.ref (zh2 b1 b2 h l1 l2).objs.size,.ref (zh3 b1 b2 h l1 l2).objs.size] }
theorem Nz (b1 b2:Bool) (l1 l2:Addr) (xs ys:Array Value) :
  Meets (Builtin.«zip.__new__» ⟨[.type "zip", .ref l1,.ref l2],[]⟩) (fun _ R s=>SqAt b1 s.heap l1 xs /\ SqAt b2 s.heap l2 ys /\ R (.ok (.ret (.ref (zh4 b1 b2 s.heap l1 l2).objs.size))) { s with heap:=zh5 b1 b2 s.heap l1 l2 }) :=
 .of_wp fun prog w A R s h=>by
  obtain ⟨hp,g,d,tk,os⟩:=s
  obtain ⟨a1,a2,h⟩:=h
  have hsub:=sub_zip
  cases b1 <;> cases b2
  ·have b1:Heap.IsList (Shared.heap ⟨hp,g,d,tk,os⟩) l1 xs:=a1
   have b2:Heap.IsList (Shared.heap ⟨hp.push { cls:=.type "list_iterator", data:=.fields #[.ref l1,.int 0 0] },g,d,tk,os⟩) l2 ys:=Heap.IsList.push a2 _
   wp_walk using wpAny_pyIter_list b1,wpAny_pyIter_list b2
   exact ⟨_,rfl,h⟩
  ·have b1:Heap.IsList (Shared.heap ⟨hp,g,d,tk,os⟩) l1 xs:=a1
   have b2:Heap.IsTuple (Shared.heap ⟨hp.push { cls:=.type "list_iterator", data:=.fields #[.ref l1,.int 0 0] },g,d,tk,os⟩) l2 ys:=Heap.IsTuple.push a2 _
   wp_walk using wpAny_pyIter_list b1,wpAny_pyIter_tuple b2
   exact ⟨_,rfl,h⟩
  ·have b1:Heap.IsTuple (Shared.heap ⟨hp,g,d,tk,os⟩) l1 xs:=a1
   have b2:Heap.IsList (Shared.heap ⟨hp.push { cls:=.type "tuple_iterator", data:=.fields #[.ref l1,.int 0 0] },g,d,tk,os⟩) l2 ys:=Heap.IsList.push a2 _
   wp_walk using wpAny_pyIter_tuple b1,wpAny_pyIter_list b2
   exact ⟨_,rfl,h⟩
  ·have b1:Heap.IsTuple (Shared.heap ⟨hp,g,d,tk,os⟩) l1 xs:=a1
   have b2:Heap.IsTuple (Shared.heap ⟨hp.push { cls:=.type "tuple_iterator", data:=.fields #[.ref l1,.int 0 0] },g,d,tk,os⟩) l2 ys:=Heap.IsTuple.push a2 _
   wp_walk using wpAny_pyIter_tuple b1,wpAny_pyIter_tuple b2
   exact ⟨_,rfl,h⟩
theorem Qc {b1 b2:Bool} {l1 l2:Addr} {xs ys:Array Value} {Q:Value->Shared->Prop} (t1:SqAt b1 s.heap l1 xs) (t2:SqAt b2 s.heap l2 ys)
  (h:∀ g,ZAt b1 b2 g (s.heap.objs.size + 4) (s.heap.objs.size + 2) (s.heap.objs.size + 3) s.heap.objs.size (s.heap.objs.size + 1) l1 l2 .none 0->(∀ c o,s.heap.get? c = some o->g.get? c = some o)->Q (.ref (s.heap.objs.size + 4)) { s with heap:=g }) :
  wpAny (model P w) A (call (.type "zip") [.ref l1,.ref l2]) Q E s:=by
 refine callType_new F.called_zip (by decide) (F.typeCall_zip_2 _ _) (F.newCall_zip_2 _ _) (fun obj=>F.args_object_init_3 obj _ _) F.entry_zip_new (Nz b1 b2 l1 l2 xs ys) ⟨t1,t2,?_⟩
 have n1:(zh1 b1 s.heap l1).objs.size = s.heap.objs.size + 1:=Heap.size_push ..
 have n2:(zh2 b1 b2 s.heap l1 l2).objs.size = s.heap.objs.size + 2:=by rw [Heap.size_push,n1]
 have n3:(zh3 b1 b2 s.heap l1 l2).objs.size = s.heap.objs.size + 3:=by rw [Heap.size_push,n2]
 have n4:(zh4 b1 b2 s.heap l1 l2).objs.size = s.heap.objs.size + 4:=by rw [Heap.size_push,n3]
 have g5:(zh5 b1 b2 s.heap l1 l2).get? (zh4 b1 b2 s.heap l1 l2).objs.size = some _:=Heap.get?_push_size _ rfl
 have g4:(zh5 b1 b2 s.heap l1 l2).get? (zh3 b1 b2 s.heap l1 l2).objs.size = some _:=Heap.get?_push_of_some _ (Heap.get?_push_size _ rfl)
 have g3:(zh5 b1 b2 s.heap l1 l2).get? (zh2 b1 b2 s.heap l1 l2).objs.size = some _:=Heap.get?_push_of_some _ (Heap.get?_push_of_some _ (Heap.get?_push_size _ rfl))
 have g2:(zh5 b1 b2 s.heap l1 l2).get? (zh1 b1 s.heap l1).objs.size = some _:=Heap.get?_push_of_some _ (Heap.get?_push_of_some _ (Heap.get?_push_of_some _ (Heap.get?_push_size _ rfl)))
 have g1:(zh5 b1 b2 s.heap l1 l2).get? s.heap.objs.size = some _:=Heap.get?_push_of_some _ (Heap.get?_push_of_some _ (Heap.get?_push_of_some _ (Heap.get?_push_of_some _ (Heap.get?_push_size _ rfl))))
 show _ /\ _
 rw [n2,n3,n4] at g5
 rw [n1,n2] at g3
 rw [n3] at g4
 rw [n1] at g2
 rw [n4]
 exact ⟨⟨_,g5,rfl⟩,h _ ⟨g5,g3,⟨_,_,g4⟩,(by cases b1 <;> exact ⟨_,g1,rfl,rfl⟩),(by cases b2 <;> exact ⟨_,g2,rfl,rfl⟩)⟩ fun c o e=>Heap.get?_push_of_some _ (Heap.get?_push_of_some _ (Heap.get?_push_of_some _ (Heap.get?_push_of_some _ (Heap.get?_push_of_some _ e))))⟩
end
end L3
namespace L3
open PySem PySem.Spec L2
open PyProof.Rows hiding St
theorem ItAt.there {b:Bool} {h:Heap} {it l:Addr} {i:Nat} (x:ItAt b h it l i):∃ o,h.get? it = some o /\ ∀ v,o.data ≠ .cell v:=by
 cases b with
 | true =>
  obtain ⟨o,e,c,d⟩:=(show h.IsTupleIter it l i from x)
  exact ⟨o,e,fun v q=>by rw [d] at q; cases q⟩
 | false =>
  obtain ⟨o,e,c,d⟩:=(show h.IsListIter it l i from x)
  exact ⟨o,e,fun v q=>by rw [d] at q; cases q⟩
noncomputable def SqK (b:Bool) (K:W.Frag) (H:Hp) (l:Addr) (xs:List V):Prop:=match b with
 | true=>SqT K H l xs
 | false=>SqL K H l xs
theorem Vn {b:Bool} {X:Cx} {pn:List (Addr × Obj)} {σ:St} {H:Hp} {s:Shared} {l:Addr} {xs:List V} (I:Inv X pn σ H s) (h:SqK b X.K H l xs):∃ its,Vals xs its /\ SqAt b s.heap l its.toArray:=by
 cases b with
 | true =>
  obtain ⟨its,r,p,_⟩:=I.tuple h
  exact ⟨its,r,(show s.heap.IsTuple l its.toArray from p)⟩
 | false =>
  obtain ⟨its,r,p,_⟩:=I.list h
  exact ⟨its,r,p.isList⟩
theorem N8 {b:Bool} {X:Cx} {pn:List (Addr × Obj)} {σ:St} {H:Hp} {s:Shared} {l:Addr} {xs ys:List V} (I:Inv X pn σ H s) (h:SqK b X.K H l xs) (h':SqK b X.K H l ys):xs = ys:=by
 cases b with
 | true=>exact I.tuple_inj h h'
 | false=>exact I.list_inj h h'
theorem w8 {b:Bool} {X:Cx} {pn:List (Addr × Obj)} {σ:St} {H:Hp} {s:Shared} {l c:Addr} {xs:List V} (I:Inv X pn σ H s) (h:SqK b X.K H l xs) (f:FpOk X pn H c):l ≠ c:=by
 have kc:∀ {o:Obj},X.K.lookup l = some o->l ≠ c:=fun {o} lk z=>by
  subst z
  have e:=I.ok.mod.kin _ _ lk
  rcases f.2.2.2.1 with q | q
  ·exact I.ok.noex _ _ e q
  ·exact absurd (Nat.lt_of_lt_of_le (Heap.lt_size e) I.ok.bsz) (Nat.not_lt.mpr q)
 cases b with
 | true =>
  rcases h with (h | ⟨o,h⟩) | ⟨o,its,n,lk,_⟩
  ·exact ze h f.1
  ·exact ze h f.1
  ·exact kc lk
 | false =>
  rcases h with (h | ⟨o,h⟩) | ⟨o,its,n,lk,_⟩
  ·exact ze h f.1
  ·exact ze h f.1
  ·exact kc lk
noncomputable def Itz (b1 b2:Bool) (K:W.Frag) (l1 l2:Addr):It :=
 ⟨fun i H=>∃ xs ys x y,SqK b1 K H l1 xs /\ SqK b2 K H l2 ys /\ xs[i]? = some x /\ ys[i]? = some y,
  fun i H v H'=>∃ T x y,H T = none /\ v = .ref T /\ (∀ xs,SqK b1 K H l1 xs->xs[i]? = some x) /\ (∀ ys,SqK b2 K H l2 ys->ys[i]? = some y) /\ H' = upd H T (.tup [x,y]),
  fun i H=>∃ xs ys,SqK b1 K H l1 xs /\ SqK b2 K H l2 ys /\ (xs.length <= i \/ ys.length <= i)⟩
theorem Qi {P:Program} {w:World} {K:W.Frag} {es:List Expr} {kk:Nat} {tp:Pos} {b1 b2:Bool} {z ti to i1 i2 l1 l2:Addr} (D:ZNe z ti to i1 i2) :
  Turn P w K (.Tuple es kk tp) (Itz b1 b2 K l1 l2) [z,ti,to,i1,i2] z (fun i h=>ZAt b1 b2 h z ti to i1 i2 l1 l2 .none i) where
 mem:=by simp
 obj:=fun i h Z b hb=>by
  obtain ⟨hz,hti,⟨u,v,hto⟩,h1,h2⟩:=Z
  obtain ⟨o1,e1,d1⟩:=h1.there
  obtain ⟨o2,e2,d2⟩:=h2.there
  simp only [List.mem_cons,List.not_mem_nil,or_false] at hb
  rcases hb with rfl | rfl | rfl | rfl | rfl
  ·exact ⟨_,hz,fun v q=>(by cases q)⟩
  ·exact ⟨_,hti,fun v q=>(by cases q)⟩
  ·exact ⟨_,hto,fun v q=>(by cases q)⟩
  ·exact ⟨o1,e1,fun v q=>d1 v q⟩
  ·exact ⟨o2,e2,fun v q=>d2 v q⟩
 keep:=fun i h h' Z k=>by
  obtain ⟨hz,hti,⟨u,v,hto⟩,h1,h2⟩:=Z
  exact ⟨k z (by simp) _ hz,k ti (by simp) _ hti,⟨u,v,k to (by simp) _ hto⟩,h1.at fun o e=>k i1 (by simp) o e,h2.at fun o e=>k i2 (by simp) o e⟩
 item:=by
  intro X hP hw hK hc i pn s σ H E I hf Z hg
  subst hP hw hK
  obtain ⟨xs,ys,x,y,e1,e2,hx,hy⟩:=hg
  obtain ⟨its1,r1,g1⟩:=Vn I e1
  obtain ⟨its2,r2,g2⟩:=Vn I e2
  obtain ⟨u,hu,ru⟩:=r1.get hx
  obtain ⟨v,hv,rv⟩:=r2.get hy
  have fz:=hf z (by simp)
  have fto:=hf to (by simp)
  have f1:=hf i1 (by simp)
  have f2:=hf i2 (by simp)
  have off:∀ b ho,H b = some ho->ZOff z to i1 i2 b:=fun b ho e=>⟨ze e fz.1,ze e fto.1,ze e f1.1,ze e f2.1⟩
  refine Ts D ⟨w8 I e1 fz,w8 I e1 fto,w8 I e1 f1,w8 I e1 f2⟩ ⟨w8 I e2 fz,w8 I e2 fto,w8 I e2 f1,w8 I e2 f2⟩ Z g1 g2 (x:=u) (y:=v) (by simpa using hu) (by simpa using hv) fun g Z2 pr kp=>?_
  have hn:H s.heap.objs.size = none:=I.fresh
  have hout:∀ b,b ∉ [z,to,i1,i2]->ZOff z to i1 i2 b:=fun b hb=>by
   simp only [List.mem_cons,List.not_mem_nil,or_false,not_or] at hb
   exact hb
  have un:Un (frs X.stack) [z,to,i1,i2] H (upd H s.heap.objs.size (.tup [x,y])) s.heap g :=
   ⟨fun b o q _ _ hx=>kp b o (hout b hx) q,fun b o q _ _ hx=>⟨o.slots,kp b o (hout b hx) q⟩,fun b o q n _=>by rw [zj (Nat.ne_of_lt (Heap.lt_size q))]; exact n,fun b o q hx=>⟨o,kp b o (hout b hx) q⟩,
    fun b zs q=>by rw [zj (ze q hn)]; exact q,fun b o zs q=>by rw [zj (ze q hn)]; exact q,fun b ps q=>⟨#[],by rw [zj (ze q hn),q]; simp⟩⟩
  have hok:HOk X.prog X.w (upd H s.heap.objs.size (.tup [x,y])) g:=fun b o e=>by
   by_cases hb:b = s.heap.objs.size
   ·subst hb
    rw [zk] at e
    cases e
    refine ⟨by simp only [List.length_cons,List.length_nil]; rw [sizeLine_eq]; decide,[u,v],.cons ru (.cons rv .nil),⟨_,pr,rfl,_,rfl⟩,_,pr,rfl⟩
   ·rw [zj hb] at e
    refine (I.hok b o e).stay (fun c ob hc q=>kp c ob ?_ q) (fun c q=>by rw [zj (ze q hn)]; exact q) fun c zs q=>by rw [zj (ze q hn)]; exact q
    rcases hc with rfl | hc
    ·exact off _ _ e
    ·exact off _ _ hc
  have I2:Inv X pn σ (upd H s.heap.objs.size (.tup [x,y])) { s with heap:=g }:=I.call' (s':={ s with heap:=g }) (ch:=[z,to,i1,i2]) rfl un hok I.bare fun b hb=>by
   have hb':b ∈ [z,ti,to,i1,i2]:=by
    simp only [List.mem_cons,List.not_mem_nil,or_false] at hb ⊢
    rcases hb with rfl | rfl | rfl | rfl <;> simp
   have q:=hf b hb'
   exact ⟨q.2.2.2.1,q.2.1,q.2.2.2.2.1,q.2.2.2.2.2⟩
  have none5:∀ b ∈ [z,ti,to,i1,i2],upd H s.heap.objs.size (.tup [x,y]) b = none:=fun b hb=>by
   have lb:b < s.heap.objs.size:=by
    obtain ⟨hz,hti,⟨u,v,hto⟩,h1,h2⟩:=Z
    obtain ⟨_,q1,_⟩:=h1.there
    obtain ⟨_,q2,_⟩:=h2.there
    simp only [List.mem_cons,List.not_mem_nil,or_false] at hb
    rcases hb with rfl | rfl | rfl | rfl | rfl
    ·exact Heap.lt_size hz
    ·exact Heap.lt_size hti
    ·exact Heap.lt_size hto
    ·exact Heap.lt_size q1
    ·exact Heap.lt_size q2
   rw [zj (Nat.ne_of_lt lb)]
   exact (hf b hb).1
  refine ⟨_,rfl,wpAny_letOwnedTupleGo_zip Z2.zz fun g2 z3 sb=>?_⟩
  refine ⟨.ref s.heap.objs.size,_,I2.turned (t':=s.toks) (fun b o hb e=>sb.extBut b o hb e) (none5 z (by simp)) fz.2.1 fz.2.2.2.1 fz.2.2.2.2.1 fz.2.2.2.2.2,rfl,⟨_,x,y,hn,rfl,(fun zs q=>by rw [<- N8 I e1 q]; exact hx),(fun zs q=>by rw [<- N8 I e2 q]; exact hy),rfl⟩,?_,none5⟩
  obtain ⟨_,hti,⟨u2,v2,hto⟩,h1,h2⟩:=Z2
  exact ⟨z3,sb.extBut _ _ D.ab hti,⟨u2,v2,sb.extBut _ _ D.ac hto⟩,h1.at fun o e=>sb.extBut _ o D.ad e,h2.at fun o e=>sb.extBut _ o D.ae e⟩
 done:=by
  intro X hP hw hK hc i pn s σ H E I hf Z hg
  subst hP hw hK
  obtain ⟨xs,ys,e1,e2,hend⟩:=hg
  obtain ⟨its1,r1,g1⟩:=Vn I e1
  obtain ⟨its2,r2,g2⟩:=Vn I e2
  have fz:=hf z (by simp)
  have fto:=hf to (by simp)
  have f1:=hf i1 (by simp)
  have f2:=hf i2 (by simp)
  have off:∀ b ho,H b = some ho->ZOff z to i1 i2 b:=fun b ho e=>⟨ze e fz.1,ze e fto.1,ze e f1.1,ze e f2.1⟩
  have l1':=r1.length
  have l2':=r2.length
  refine Ph (I.ok.hd hc) D ⟨w8 I e1 fz,w8 I e1 fto,w8 I e1 f1,w8 I e1 f2⟩ ⟨w8 I e2 fz,w8 I e2 fto,w8 I e2 f1,w8 I e2 f2⟩ Z g1 g2 ?_ fun g kp=>?_
  ·rcases hend with q | q
   ·exact .inl (by simp; omega)
   ·exact .inr (by simp; omega)
  ·refine ⟨rfl,?_⟩
   have hout:∀ b,b ∉ [z,to,i1,i2]->ZOff z to i1 i2 b:=fun b hb=>by
    simp only [List.mem_cons,List.not_mem_nil,or_false,not_or] at hb
    exact hb
   have un:Un (frs X.stack) [z,to,i1,i2] H H s.heap g :=
    ⟨fun b o q _ _ hx=>kp b o (hout b hx) q,fun b o q _ _ hx=>⟨o.slots,kp b o (hout b hx) q⟩,fun b o q n _=>n,fun b o q hx=>⟨o,kp b o (hout b hx) q⟩,
     fun b zs q=>q,fun b o zs q=>q,fun b ps q=>⟨#[],by rw [q]; simp⟩⟩
   refine I.call' (s':={ s with heap:=g }) (ch:=[z,to,i1,i2]) rfl un (fun b o e=>(I.hok b o e).stay (fun c ob hc q=>kp c ob ?_ q) (fun c q=>q) fun c zs q=>q) I.bare fun b hb=>?_
   ·rcases hc with rfl | hc
    ·exact off _ _ e
    ·exact off _ _ hc
   ·have hb':b ∈ [z,ti,to,i1,i2]:=by
     simp only [List.mem_cons,List.not_mem_nil,or_false] at hb ⊢
     rcases hb with rfl | rfl | rfl | rfl <;> simp
    have q:=hf b hb'
    exact ⟨q.2.2.2.1,q.2.1,q.2.2.2.2.1,q.2.2.2.2.2⟩
 self:=fun _ _ _ _ _ Z h=>wpAny_pyIter_zip Z.zz h
theorem Q4:bootBuiltins "zip" = some (.type "zip"):=by kernel_rfl
noncomputable def iZip (K:W.Frag) (ta:TA):TI:=fun σ H R=>ta σ H fun vs H1=>∃ b1 b2 l1 l2 xs ys,vs = [.ref l1,.ref l2] /\ SqK b1 K H1 l1 xs /\ SqK b2 K H1 l2 ys /\ R (Itz b1 b2 K l1 l2) H1
theorem Hq {X:Cx} {es:List Expr} {kk:Nat} {tp:Pos} {a b:Expr} {ta:TA} {p pos:Pos} (hg:Gl X "zip") (hm:X.mg "zip" = none) (ha:PA X [a,b] ta)
  (he:starEach [a,b] X.env = (false,eval a X.env) :: starEach [b] X.env:=by rfl) (hpl:(backTo pos (starEach [b] X.env)).any (·.1) = false:=by rfl):PI X (.Tuple es kk tp) (.Call (.Name "zip" p) [a,b] [] pos) (iZip X.K ta):=by
 intro pn s σ H R I h
 refine wpAny_Call_Name_kw (j4 I hg hm Q4 ?_ (by decide) (by decide))
 refine PyProof.Rows.callWith_type1 (thn (ha pos pn s σ H _ I h) fun us s1 ⟨vs,H1,I1,r1,b1,b2,l1,l2,xs,ys,e,e1,e2,q⟩=>?_) he hpl
 subst e
 obtain ⟨u,v,rfl,ru,rv⟩:=Qf r1
 cases ru
 cases rv
 obtain ⟨its1,r1,g1⟩:=Vn I1 e1
 obtain ⟨its2,r2,g2⟩:=Vn I1 e2
 refine Qc (xs:=its1.toArray) (ys:=its2.toArray) g1 g2 fun g Z kp=>wpAny_pyIter_zip Z.zz ?_
 have D:ZNe (s1.heap.objs.size + 4) (s1.heap.objs.size + 2) (s1.heap.objs.size + 3) s1.heap.objs.size (s1.heap.objs.size + 1):=by
  constructor <;> (intro z; exact absurd (show (_:Nat) = _ from z) (by omega))
 refine ⟨_,_,_,_,H1,rfl,I1.kept (t':=s1.toks) kp,Qi D,Z,fun b hb=>?_,q⟩
 have lb:s1.heap.objs.size <= b:=by
  simp only [List.mem_cons,List.not_mem_nil,or_false] at hb
  rcases hb with rfl | rfl | rfl | rfl | rfl
  ·exact Nat.le_add_right _ _
  ·exact Nat.le_add_right _ _
  ·exact Nat.le_add_right _ _
  ·exact Nat.le_refl _
  ·exact Nat.le_add_right _ _
 exact I1.fpOk lb (I1.hok.fresh lb)
end L3
namespace DL
open PySem PySem.Spec L2 L3
open PyProof.Rows hiding St
theorem Ys {P:Program} {w:World} {H:Hp} {h:Heap} {a:Addr} {o:HO} (x:w6 P w H h a o):∃ ob,h.get? a = some ob:=by
 cases o with
 | lst xs=>obtain ⟨_,_,_,_,e⟩:=x; exact ⟨_,e⟩
 | tup xs=>obtain ⟨_,_,_,⟨ob,e,_⟩,_⟩:=x; exact ⟨_,e⟩
 | dK kvs=>obtain ⟨_,_,_,_,o,_,_,e,_⟩:=x; exact ⟨_,e⟩
 | dT kvs=>obtain ⟨_,_,_,_,o,_,_,e,_⟩:=x; exact ⟨_,e⟩
 | set S n=>obtain ⟨o,_,_,_,e,_⟩:=x; exact ⟨_,e⟩
 | ins C dx fs=>obtain ⟨_,_,_,e,_⟩:=x; exact ⟨_,e⟩
 | own y=>obtain ⟨_,e⟩:=x; exact ⟨_,e⟩
 | xd fs=>obtain ⟨_,⟨_,_,_,e,_⟩,_⟩:=x; exact ⟨_,e⟩
 | rng lo hi=>obtain ⟨_,_,_,e⟩:=x; exact ⟨_,e⟩
 | frz ob u=>obtain ⟨e,_⟩:=x; exact ⟨_,e⟩
 | tbl ps=>exact ⟨_,(show h.get? a = some _ from x)⟩
 | met f y=>exact ⟨_,(show h.get? a = some _ from x)⟩
 | ext φ=>obtain ⟨_,⟨_,e⟩,_⟩:=x; exact ⟨_,e⟩
structure FlyB (P:Program) (w:World) (outer:List Env) (H:Hp) (h:Heap) (H':Hp) (B:Heap) (h':Heap):Prop where
 un:Un (frs outer) [] H H' h h'
 hok:HOk P w H' h'
 cov:∀ b o,h'.get? b = some o->b ∉ frs outer->(H' b ≠ none \/ ∃ o0,h.get? b = some o0)->B.get? b = some o
section
variable {P:Program} {w:World} {outer:List Env} {H H':Hp} {h h1 h2 B B':Heap}
theorem FlyB.there (F:FlyB P w outer H h H' B h1) {b:Addr} (c:H' b ≠ none \/ ∃ o0,h.get? b = some o0):∃ o,h1.get? b = some o:=by
 rcases c with c | ⟨o0,c⟩
 ·cases e:H' b with
  | none=>exact absurd e c
  | some u=>exact Ys (F.hok b u e)
 ·exact F.un.there b o0 c (by simp)
theorem FlyB.step (F:FlyB P w outer H h H' B h1) (k:B.StaysIn h2) (u:h1.UpToSlots h2) (ff:h1.FunFrames B' outer) (hf:∀ b ∈ frs outer,H' b = none):FlyB P w outer H h H' B h2:=by
 have nx:∀ b:Addr,b ∉ ([]:List Addr):=fun b z=>nomatch z
 refine ⟨⟨fun b o q n hb hx=>k b o (F.cov b o (F.un.keep b o q n hb hx) hb (.inr ⟨o,q⟩)),fun b o q n hb hx=>?_,F.un.free,fun b o q hx=>?_,F.un.tups,F.un.frzs,F.un.tbls⟩,fun a o e=>?_,fun b o q hb c=>?_⟩
 ·obtain ⟨sl,e1⟩:=F.un.slot b o q n hb hx
  obtain ⟨_,o',e2,nf⟩:=ff.mem hb
  rw [e1] at e2
  cases e2
  obtain ⟨sl',e3⟩:=u b _ e1 nf
  exact ⟨sl',e3⟩
 ·obtain ⟨o',e1⟩:=F.un.there b o q hx
  by_cases hb:b ∈ frs outer
  ·obtain ⟨_,o2,e2,nf⟩:=ff.mem hb
   obtain ⟨sl',e3⟩:=u b _ e2 nf
   exact ⟨_,e3⟩
  ·exact ⟨o',k b o' (F.cov b o' e1 hb (.inr ⟨o,q⟩))⟩
 ·refine (F.hok a o e).stay (fun b v hc q=>?_) (fun _ q=>q) fun _ _ q=>q
  have ht:H' b ≠ none:=by
   rcases hc with rfl | hc
   ·rw [e]; exact fun z=>nomatch z
   ·rw [hc]; exact fun z=>nomatch z
  exact k b v (F.cov b v q (fun z=>ht (hf b z)) (.inl ht))
 ·obtain ⟨o1,e1⟩:=F.there c
  have e2:=F.cov b o1 e1 hb c
  have e3:=k b o1 e2
  rw [q] at e3
  cases e3
  exact e2
end
noncomputable def CX1 (P:Program) (w:World):CXT:=fun outer H s E e s'=>∃ (a C:Addr) (t:Value) (H':Hp) (B:Heap),e = .ref a /\ s'.os = s.os /\ AllBare s'.gens /\ FlyB P w outer H s.heap H' B s'.heap /\
 Heap.FlyingW B outer a (.ref C) t s'.heap /\ E (.ref C) none H'
section
variable {X:Cx} {pn:List (Addr × Obj)} {σ:St} {H1 H':Hp} {s1:Shared} {B h2:Heap}
theorem FlyB.leave (J:Inv X pn σ H1 s1) (hex:X.ex = []) (F:FlyB X.prog X.w X.stack H1 s1.heap H' B h2):FlyB X.prog X.w X.outer X.H₀ X.s₀.heap H' B h2:=by
 have nx:∀ b:Addr,b ∉ ([]:List Addr):=fun b z=>nomatch z
 have nx':∀ b:Addr,b ∉ X.ex:=fun b z=>by rw [hex] at z; cases z
 have neL:∀ b o,X.s₀.heap.get? b = some o->b ≠ X.env.locals:=fun b o e=>Nat.ne_of_lt (Nat.lt_of_lt_of_le (Heap.lt_size e) J.ok.above)
 have nst:∀ b o,X.s₀.heap.get? b = some o->b ∉ frs X.outer->b ∉ frs X.stack:=fun b o e hb z=>by
  rcases List.mem_cons.mp (J.stkSub b z) with q | q
  ·exact neL b o e q
  ·exact hb q
 obtain ⟨m,hn,_⟩:=J.loc
 obtain ⟨oL,_,_,hL,_⟩:=hn
 have hL':H' X.env.locals = none:=F.un.free _ _ hL J.free (nx _)
 refine ⟨⟨fun b o q n hb _=>F.un.keep b o (J.base.keep b o q n hb (nx' b)) (J.base.free b o q n (nx' b)) (nst b o q hb) (nx b),fun b o q n hb _=>?_,fun b o q n _=>?_,fun b o q _=>?_,fun b xs q=>F.un.tups b xs (J.base.tups b xs q),
  fun b o u q=>F.un.frzs b o u (J.base.frzs b o u q),fun b ps q=>?_⟩,F.hok,fun b o q hb c=>?_⟩
 ·obtain ⟨sl,e1⟩:=J.base.slot b o q n hb (nx' b)
  obtain ⟨sl',e2⟩:=F.un.any e1 (J.base.free b o q n (nx' b)) (nx b)
  exact ⟨sl',e2⟩
 ·obtain ⟨o',e1⟩:=J.base.there b o q (nx' b)
  exact F.un.free b o' e1 (J.base.free b o q n (nx' b)) (nx b)
 ·obtain ⟨o',e1⟩:=J.base.there b o q (nx' b)
  exact F.un.there b o' e1 (nx b)
 ·obtain ⟨m1,e1⟩:=J.base.tbls b ps q
  obtain ⟨m2,e2⟩:=F.un.tbls b _ e1
  exact ⟨m1 ++ m2,by rw [e2,Array.append_assoc]⟩
 ·refine F.cov b o q (fun z=>?_) ?_
  ·rcases List.mem_cons.mp (J.stkSub b z) with e | e
   ·subst e
    rcases c with c | ⟨o0,c⟩
    ·exact c hL'
    ·exact neL _ o0 c rfl
   ·exact hb e
  ·rcases c with c | ⟨o0,c⟩
   ·exact .inl c
   ·exact .inr (J.base.there b o0 c (nx' b))
theorem FlyB.made {h':Heap} {a:Addr} {cls:Value} {vs:List Value} (J:Inv X pn σ H1 s1) (hx:Heap.MadeExcOf s1.heap h' a cls vs) (k:(W.hideAll s1.heap (frs X.stack)).StaysIn h2) (u:h'.UpToSlots h2) :
  FlyB X.prog X.w X.stack H1 s1.heap H1 (W.hideAll s1.heap (frs X.stack)) h2:=by
 have u2:s1.heap.UpToSlots h2:=(Heap.UpToSlots.of_keeps hx.keeps).trans u
 have F0:FlyB X.prog X.w X.stack H1 s1.heap H1 (W.hideAll s1.heap (frs X.stack)) s1.heap:=⟨Un.refl,J.hok,fun b o q hb _=>W.hideAll_get _ q hb⟩
 exact F0.step k u2 J.stack J.stkFree
end
section
variable {P:Program} {w:World} {K:W.Frag} {mg:Str->Option Value} {base:Heap} {N:List Str} {qual:Str} {scope:Scope} {f:Addr} {cd:Value} {A:Around} {outer:List Env} {s:Shared} {H:Hp} {E:XK}
theorem Ln {pn:List (Addr × Obj)} {σ:St} {H1:Hp} {s1:Shared} {h':Heap} {a C:Addr} {vs:List Value} (J:Inv (cxOf (CX1 P w) P w K mg base N qual scope f cd A outer s H E) pn σ H1 s1) (hx:Heap.MadeExcOf s1.heap h' a (.ref C) vs) (hE:E (.ref C) none H1) :
  (cxOf (CX1 P w) P w K mg base N qual scope f cd A outer s H E).xe (.ref a) { s1 with heap:=h' }:=by
 have hin:∀ env ∈ (cxOf (CX1 P w) P w K mg base N qual scope f cd A outer s H E).stack,∀ b,env.frame = some b->b ∈ frs (cxOf (CX1 P w) P w K mg base N qual scope f cd A outer s H E).stack:=fun env he b hb=>List.mem_filterMap.mpr ⟨env,he,hb⟩
 refine wpAny_leaves_madeW (s:={ s1 with heap:=h' }) (base:=W.hideAll s1.heap (frs (cxOf (CX1 P w) P w K mg base N qual scope f cd A outer s H E).stack)) (L:=(cxOf (CX1 P w) P w K mg base N qual scope f cd A outer s H E).env.locals) J.ok.frames rfl (fun b o q=>W.of_hideAll _ q)
  (W.funFrames_hide J.stack hin) hx fun h'' t x1 x2 x3 x4=>?_
 exact ⟨a,C,.ref t,H1,_,rfl,J.os,J.bare,FlyB.leave J rfl (FlyB.made J hx x1.1 x4),x1,hE⟩
theorem Le {pn:List (Addr × Obj)} {σ:St} {H1:Hp} {s1 s2:Shared} {E':XK} {e:Value} (J:Inv (cxOf (CX1 P w) P w K mg base N qual scope f cd A outer s H E) pn σ H1 s1)
  (hc:CX1 P w (cxOf (CX1 P w) P w K mg base N qual scope f cd A outer s H E).stack H1 s1 E' e s2) (hE:∀ C H',E' (.ref C) none H'->E (.ref C) none H') :
  (cxOf (CX1 P w) P w K mg base N qual scope f cd A outer s H E).xe e s2:=by
 obtain ⟨a,C,t,H',B,rfl,hos,hb,F,fl,hE'⟩:=hc
 refine wpAny_leaves_onW (L:=(cxOf (CX1 P w) P w K mg base N qual scope f cd A outer s H E).env.locals) J.ok.frames rfl fl fun h'' x1 x2=>?_
 have hf:∀ b ∈ frs (cxOf (CX1 P w) P w K mg base N qual scope f cd A outer s H E).stack,H' b = none:=fun b hb=>by
  obtain ⟨_,o,ho,_⟩:=J.stack.mem hb
  exact F.un.free b o ho (J.stkFree b hb) (fun z=>nomatch z)
 exact ⟨a,C,t,H',B,rfl,hos.trans J.os,hb,FlyB.leave J rfl (F.step x1.1 x2 fl.2.2.1 hf),x1,hE C H' hE'⟩
end
end DL
namespace DL
theorem Su (a b:Int) (h:b ≠ 0):(a.fmod b).natAbs < b.natAbs:=by
 rcases Int.lt_or_lt_of_ne h with hb | hb
 ·have e:a.fmod b = -((-a).fmod (-b)):=by rw [Int.neg_fmod_neg]; omega
  have h1:=Int.fmod_nonneg_of_pos (-a) (show (0:Int) < -b by omega)
  have h2:=Int.fmod_lt_of_pos (-a) (show (0:Int) < -b by omega)
  omega
 ·have h1:=Int.fmod_nonneg_of_pos a hb
  have h2:=Int.fmod_lt_of_pos a hb
  omega
theorem Wz (a b:Int):Int.gcd b (a.fmod b) = Int.gcd a b:=by
 rw [Int.fmod_def,Int.gcd_sub_mul_left_right,Int.gcd_comm]
noncomputable def sg (t b:Int):Int:=if b < 0 then -(Int.gcd t b:Int) else Int.gcd t b
noncomputable def rt (t b:Int):Int × Int:=(t.fdiv (sg t b),b.fdiv (sg t b))
structure RtOk (t b p q:Int):Prop where
 cross:p * b = t * q
 pos:0 < q
 one:Int.gcd p q = 1
 lp:p.natAbs <= t.natAbs
 lq:q.natAbs <= b.natAbs
theorem Xa {t b:Int} (h:b ≠ 0):0 < (Int.gcd t b:Int):=by
 have:=Int.gcd_pos_of_ne_zero_right t h
 omega
theorem Mf {t b:Int} (h:b ≠ 0):sg t b ≠ 0:=by
 have:=Xa (t:=t) h
 unfold sg
 split <;> omega
theorem Tc {t b:Int} (h:b ≠ 0):RtOk t b (rt t b).1 (rt t b).2:=by
 have hg:=Xa (t:=t) h
 have hs:=Mf (t:=t) h
 have hsa:(sg t b).natAbs = Int.gcd t b:=by unfold sg; split <;> omega
 have d1:sg t b ∣ t:=by
  have:=Int.gcd_dvd_left t b
  unfold sg
  split
  ·exact Int.neg_dvd.mpr this
  ·exact this
 have d2:sg t b ∣ b:=by
  have:=Int.gcd_dvd_right t b
  unfold sg
  split
  ·exact Int.neg_dvd.mpr this
  ·exact this
 have e1:(rt t b).1 * sg t b = t:=by
  show t.fdiv (sg t b) * sg t b = t
  rw [Int.fdiv_eq_ediv_of_dvd d1]
  exact Int.ediv_mul_cancel d1
 have e2:(rt t b).2 * sg t b = b:=by
  show b.fdiv (sg t b) * sg t b = b
  rw [Int.fdiv_eq_ediv_of_dvd d2]
  exact Int.ediv_mul_cancel d2
 generalize (rt t b).1 = p at *
 generalize (rt t b).2 = q at *
 have hgcd:Int.gcd p q = 1:=by
  have e:Int.gcd (p * sg t b) (q * sg t b) = Int.gcd p q * (sg t b).natAbs:=Int.gcd_mul_right ..
  rw [e1,e2,hsa] at e
  have hp:0 < Int.gcd t b:=by omega
  exact Nat.eq_of_mul_eq_mul_right hp (by omega)
 have hq:0 < q:=by
  rcases Int.lt_trichotomy b 0 with hb | hb | hb
  ·have:sg t b < 0:=by unfold sg; rw [if_pos hb]; omega
   rcases Int.lt_trichotomy q 0 with z | z | z
   ·have:=Int.mul_pos_of_neg_of_neg z this; omega
   ·subst z; omega
   ·exact z
  ·exact absurd hb h
  ·have:0 < sg t b:=by unfold sg; rw [if_neg (by omega)]; omega
   rcases Int.lt_trichotomy q 0 with z | z | z
   ·have:=Int.mul_neg_of_neg_of_pos z this; omega
   ·subst z; omega
   ·exact z
 refine ⟨?_,hq,hgcd,?_,?_⟩
 ·calc p * b = p * (q * sg t b):=by rw [e2]
   _ = (p * sg t b) * q:=by rw [Int.mul_comm q,Int.mul_assoc]
   _ = t * q:=by rw [e1]
 ·rw [<- e1,Int.natAbs_mul]
  exact Nat.le_mul_of_pos_right _ (by omega)
 ·rw [<- e2,Int.natAbs_mul]
  exact Nat.le_mul_of_pos_right _ (by omega)
end DL
namespace DL
open PySem PySem.Spec L2 L3
open PyProof.Rows hiding St
variable {Γ:Hp->Prop}
open PySem.Builtin.Int (intBits)
theorem fdOk {i j:Int} {m:Nat} (h:j ≠ 0) (hb:intBits j <= m) (hm:m <= 8999:=by omega):FdOk i j:=by
 refine ⟨h,?_⟩
 unfold intBits at hb
 rw [if_neg (by simpa using h)] at hb
 omega
end DL
namespace DL
open PySem PySem.Spec L2 L3
open PyProof.Rows hiding St
open PySem.Builtin.Int (intBits)
theorem yq {n:Nat} {i:Int}:okD n (.int i) = True:=by cases n <;> rfl
theorem Gj {n:Nat} {i:Bool}:okD n (.bl i) = True:=by cases n <;> rfl
theorem Tp {n:Nat} {i:Str}:okD n (.str i) = True:=by cases n <;> rfl
theorem Ll {n:Nat}:okD n .non = True:=by cases n <;> rfl
theorem uq {a b:Int}:eqD (.int a) (.int b) = (a == b):=rfl
theorem Ke {a b:Str}:eqD (.str a) (.str b) = (a == b):=rfl
theorem Fw {a b:Bool}:eqD (.bl a) (.bl b) = (a == b):=rfl
theorem Q7 (x:Int):(if x < 0 then -x else x) = (x.natAbs:Int):=by split <;> omega
noncomputable def w2 (g:Int->Int->(EV->Prop)->Prop):FT:=fun ds φ=>match ds with
 | [.int a,.int b]=>g a b φ
 | _=>False
theorem Qd {g:Int->Int->(EV->Prop)->Prop} {ds:List D} {φ:EV->Prop} (h:w2 g ds φ):∃ a b,ds = [.int a,.int b] /\ g a b φ:=by
 unfold w2 at h
 split at h
 ·exact ⟨_,_,rfl,h⟩
 ·exact h.elim
noncomputable def w1 (g:Int->(EV->Prop)->Prop):FT:=fun ds φ=>match ds with
 | [.int a]=>g a φ
 | _=>False
theorem Qe {g:Int->(EV->Prop)->Prop} {ds:List D} {φ:EV->Prop} (h:w1 g ds φ):∃ a,ds = [.int a] /\ g a φ:=by
 unfold w1 at h
 split at h
 ·exact ⟨_,rfl,h⟩
 ·exact h.elim
noncomputable def bz:FT:=w1 fun _ φ=>φ (dv (.bl true))
noncomputable def d8:FT:=w2 fun a b φ=>φ (dv (.int (Int.gcd a b)))
noncomputable def W3:FT:=w2 fun a b φ=>b ≠ 0 /\ intBits b <= 8000 /\ φ (dv (.tup [.int (rt a b).1,.int (rt a b).2]))
end DL
namespace DL
open L2
theorem Dm {α:Type} {x:α} {l:List α}:atI (x :: l) 0 = some x:=by
 rw [show (0:Int) = ((0:Nat):Int) from rfl]
 exact br rfl
theorem Dl {α:Type} {x y:α} {l:List α}:atI (x :: y :: l) 1 = some y:=by
 rw [show (1:Int) = ((1:Nat):Int) from rfl]
 exact br rfl
theorem Dk {α:Type} {x y z:α} {l:List α}:atI (x :: y :: z :: l) 2 = some z:=by
 rw [show (2:Int) = ((2:Nat):Int) from rfl]
 exact br rfl
end DL
namespace L2
open PySem PySem.Spec PyProof.Rows
section
variable {κ:Type} [DecidableEq κ]
noncomputable def valV (kvs:List (κ × V)) (k:κ):Option V:=(kvs.find? fun kv=>decide (kv.1 = k)).map (·.2)
noncomputable def putK (kvs:List (κ × V)) (k:κ) (v:V):List (κ × V) :=
 if (kvs.any fun kv=>decide (kv.1 = k)) = true then kvs.map (fun kv=>if kv.1 = k then (kv.1,v) else kv) else kvs ++ [(k,v)]
theorem qk {p:κ × V} {r:List (κ × V)} {k:κ} (e:p.1 = k):valV (p :: r) k = some p.2:=by simp [valV,List.find?_cons,e]
theorem qm {p:κ × V} {r:List (κ × V)} {k:κ} (e:¬ p.1 = k):valV (p :: r) k = valV r k:=by simp [valV,List.find?_cons,e]
theorem W0 (k:κ):∀ kvs:List (κ × V),(kvs.any fun kv=>decide (kv.1 = k)) = (valV kvs k).isSome
 | []=>rfl
 | p :: r=>by
  rw [List.any_cons]
  by_cases e:p.1 = k
  ·simp only [qk e,decide_eq_true e,Bool.true_or,Option.isSome_some]
  ·rw [qm e,decide_eq_false e,Bool.false_or]; exact W0 k r
theorem j0 (kvs:List (κ × V)) (k:κ) (v:V):(putK kvs k v).length <= kvs.length + 1:=by
 unfold putK
 split
 ·rw [List.length_map]; omega
 ·rw [List.length_append,List.length_cons,List.length_nil]; omega
theorem RelO.isSome_eq {o:Option V} {u:Option Value} (r:RelO o u):o.isSome = u.isSome:=by
 cases o with
 | none=>cases u with
  | none=>rfl
  | some _=>exact (show False from r).elim
 | some _=>cases u with
  | none=>exact (show False from r).elim
  | some _=>rfl
theorem RelO.getD {o:Option V} {u:Option Value} {d:V} {d':Value} (r:RelO o u) (rd:RelV d d'):RelV (o.getD d) (u.getD d'):=by
 cases o with
 | none=>cases u with
  | none=>exact rd
  | some _=>exact (show False from r).elim
 | some _=>cases u with
  | none=>exact (show False from r).elim
  | some _=>exact r
theorem KV.val {kvs:List (κ × V)} {vs:List (κ × Value)} (r:KV kvs vs) (k:κ):RelO (valV kvs k) (valueAt vs k):=by
 unfold KV at r
 induction r with
 | nil=>exact True.intro
 | @cons p q ps qs h t ih =>
  obtain ⟨h1,h2⟩:=h
  by_cases e:p.1 = k
  ·have e':q.1 = k:=h1.symm.trans e
   have b:valueAt (q :: qs) k = some q.2:=by simp [valueAt,List.find?_cons,e']
   rw [qk e,b]; exact h2
  ·have e':¬ q.1 = k:=fun z=>e (h1.trans z)
   have b:valueAt (q :: qs) k = valueAt qs k:=by simp [valueAt,List.find?_cons,e']
   rw [qm e,b]; exact ih
theorem KV.any {kvs:List (κ × V)} {vs:List (κ × Value)} (r:KV kvs vs) (k:κ):(kvs.any fun kv=>decide (kv.1 = k)) = vs.any fun kv=>decide (kv.1 = k):=by
 unfold KV at r
 induction r with
 | nil=>rfl
 | cons h t ih=>rw [List.any_cons,List.any_cons,ih,h.1]
theorem KV.repl {kvs:List (κ × V)} {vs:List (κ × Value)} (r:KV kvs vs) (k:κ) {y:V} {u:Value} (ry:RelV y u) :
  KV (kvs.map fun kv=>if kv.1 = k then (kv.1,y) else kv) (vs.map fun kv=>if kv.1 = k then (kv.1,u) else kv):=by
 unfold KV at r ⊢
 induction r with
 | nil=>exact .nil
 | @cons p q ps qs h t ih =>
  rw [List.map_cons,List.map_cons]
  refine .cons ?_ ih
  obtain ⟨h1,h2⟩:=h
  by_cases e:p.1 = k
  ·rw [if_pos e,if_pos (h1.symm.trans e)]; exact ⟨h1,ry⟩
  ·rw [if_neg e,if_neg (fun z=>e (h1.trans z))]; exact ⟨h1,h2⟩
theorem KV.put {kvs:List (κ × V)} {vs:List (κ × Value)} (r:KV kvs vs) (k:κ) {y:V} {u:Value} (ry:RelV y u):KV (putK kvs k y) (stored vs k u):=by
 unfold putK stored
 rw [r.any k]
 by_cases e:(vs.any fun kv=>decide (kv.1 = k)) = true
 ·rw [if_pos e,if_pos e]; exact r.repl k ry
 ·rw [if_neg e,if_neg e]; exact Paired.snoc r ⟨rfl,ry⟩
theorem KV.length {kvs:List (κ × V)} {vs:List (κ × Value)} (r:KV kvs vs):kvs.length = vs.length:=Paired.length r
end
theorem Se {P:Program} {w:World} {k:Key} {u:Value} (r:RelV (kV k) u):(yw P w).is k u = true:=by
 cases k with
 | inl i=>obtain ⟨t,e⟩:=(show ∃ t,u = Value.int i t from r); subst e; exact Yu P w i t
 | inr x=>obtain ⟨t,e⟩:=(show ∃ t,u = Value.str x t from r); subst e; exact Yt P w x t
theorem Zi {P:Program} {w:World}:∀ {ks:List Key} {us:List Value},Vals (ks.map kV) us->ItemsAre (yw P w) ks us
 | [],_,r=>by rw [List.map_nil] at r; cases r; exact .nil
 | k :: ks,_,r=>by
  rw [List.map_cons] at r
  cases r with
  | cons h t=>exact .cons (Se h) (Zi t)
noncomputable abbrev KT (H:Hp):List (List Key × V)->List (List Key × Addr × Value)->Prop:=Paired fun p q=>p.1 = q.1 /\ H q.2.1 = some (.tup (p.1.map kV)) /\ RelV p.2 q.2.2
theorem KT.val {H:Hp} {kvs:List (List Key × V)} {xs:List (List Key × Addr × Value)} (r:KT H kvs xs) (k:List Key):RelO (valV kvs k) ((atKey xs k).map (·.2)):=by
 induction r with
 | nil=>exact True.intro
 | @cons p q ps qs h t ih =>
  obtain ⟨h1,_,h2⟩:=h
  by_cases e:p.1 = k
  ·have e':q.1 = k:=h1.symm.trans e
   have b:atKey (q :: qs) k = some q.2:=by simp [atKey,List.find?_cons,e']
   rw [qk e,b]; exact h2
  ·have e':¬ q.1 = k:=fun z=>e (h1.trans z)
   have b:atKey (q :: qs) k = atKey qs k:=by simp [atKey,List.find?_cons,e']
   rw [qm e,b]; exact ih
theorem KT.repl {H:Hp} {kvs:List (List Key × V)} {xs:List (List Key × Addr × Value)} (r:KT H kvs xs) (k:List Key) {y:V} {u:Value} (ry:RelV y u) :
  KT H (kvs.map fun kv=>if kv.1 = k then (kv.1,y) else kv) (xs.map (putAt k u)):=by
 induction r with
 | nil=>exact .nil
 | @cons p q ps qs h t ih =>
  rw [List.map_cons,List.map_cons]
  refine .cons ?_ ih
  obtain ⟨h1,h2,h3⟩:=h
  unfold putAt
  by_cases e:p.1 = k
  ·rw [if_pos e,if_pos (h1.symm.trans e)]; exact ⟨h1,h2,ry⟩
  ·rw [if_neg e,if_neg (fun z=>e (h1.trans z))]; exact ⟨h1,h2,h3⟩
theorem KT.put {H:Hp} {kvs:List (List Key × V)} {xs:List (List Key × Addr × Value)} (r:KT H kvs xs) (k:List Key) {b:Addr} {y:V} {u:Value} (hb:H b = some (.tup (k.map kV))) (ry:RelV y u) :
  KT H (putK kvs k y) (storedH xs k b u):=by
 have e:(kvs.any fun kv=>decide (kv.1 = k)) = (atKey xs k).isSome:=by
  rw [W0,(r.val k).isSome_eq,Option.isSome_map]
 unfold putK storedH
 rw [e]
 by_cases q:(atKey xs k).isSome = true
 ·rw [if_pos q,if_pos q]; exact r.repl k ry
 ·rw [if_neg q,if_neg q]; exact Paired.snoc r ⟨rfl,hb,ry⟩
theorem KT.keeps {H H':Hp} {kvs:List (List Key × V)} {xs:List (List Key × Addr × Value)} (r:KT H kvs xs) (ht:∀ b ys,H b = some (.tup ys)->H' b = some (.tup ys)):KT H' kvs xs :=
 Paired.mapP r fun _ _ z=>⟨z.1,ht _ _ z.2.1,z.2.2⟩
section
variable {P:Program} {w:World} {H:Hp} {h:Heap} {a:Addr}
theorem He {u:HO} (ok:HOk P w H h) (e:Rd H a u):w6 P w H h a u:=e.ok ok
theorem Rq {kvs:List (Key × V)} (ok:HOk P w H h) (e:Rd H a (.dK kvs)):kvs.length <= sizeLine /\ (a == sysModules) = false /\ ∃ vs,KV kvs vs /\ h.DictOf (yw P w) a vs :=
 show w6 P w H h a (.dK kvs) from He ok e
theorem Dj {kvs:List (Key × V)} (ok:HOk P w H h) (e:H a = some (.dK kvs)):kvs.length <= sizeLine /\ (a == sysModules) = false /\ ∃ vs,KV kvs vs /\ h.DictOf (yw P w) a vs:=Rq ok (.inl e)
theorem Wu {ks:List Key} (ok:HOk P w H h) (e:H a = some (.tup (ks.map kV))):(tupleKind (yw P w)).is h ks a:=by
 obtain ⟨_,its,r,⟨o,h1,h2,n,h3⟩,_⟩:=(show w6 P w H h a (.tup (ks.map kV)) from ok a _ e)
 exact ⟨o,its.toArray,n,h1,h2,h3,by simpa using Zi r⟩
theorem Ro {kvs:List (List Key × V)} (ok:HOk P w H h) (e:Rd H a (.dT kvs)):kvs.length <= sizeLine /\ (a == sysModules) = false /\
  ∃ xs,KT H kvs xs /\ h.DictOfH (tupleKind (yw P w)) a xs:=by
 obtain ⟨z,y,xs,r,o,es,ep,h1,h2,h3,h4,h5⟩:=(show w6 P w H h a (.dT kvs) from He ok e)
 refine ⟨z,y,xs,r,o,es,ep,h1,h2,h3,h4,fun x hx=>?_,h5⟩
 have all:∀ {l:List (List Key × V)} {m:List (List Key × Addr × Value)},KT H l m->∀ x ∈ m,(tupleKind (yw P w)).is h x.1 x.2.1:=by
  intro l m q
  induction q with
  | nil=>intro x hx; exact nomatch hx
  | @cons p q ps qs hq t ih =>
   intro x hx
   rcases List.mem_cons.mp hx with e | hx
   ·subst e
    exact Wu ok (by rw [<- hq.1]; exact hq.2.1)
   ·exact ih x hx
 exact all r x hx
theorem Di {kvs:List (List Key × V)} (ok:HOk P w H h) (e:H a = some (.dT kvs)):kvs.length <= sizeLine /\ (a == sysModules) = false /\
  ∃ xs,KT H kvs xs /\ h.DictOfH (tupleKind (yw P w)) a xs:=Ro ok (.inl e)
end
noncomputable def DGet (H:Hp) (a:Addr) (y:V) (r:Option V):Prop :=
 (∃ kvs k,Rd H a (.dK kvs) /\ y = kV k /\ r = valV kvs k) \/ ∃ kvs k b,Rd H a (.dT kvs) /\ y = .ref b /\ H b = some (.tup (k.map kV)) /\ r = valV kvs k
noncomputable def DPut (H:Hp) (a:Addr) (y v:V) (H':Hp):Prop :=
 (∃ kvs k,H a = some (.dK kvs) /\ y = kV k /\ kvs.length < sizeLine /\ H' = upd H a (.dK (putK kvs k v))) \/
 ∃ kvs k b,H a = some (.dT kvs) /\ y = .ref b /\ H b = some (.tup (k.map kV)) /\ kvs.length < sizeLine /\ H' = upd H a (.dT (putK kvs k v))
theorem DGet.k {H:Hp} {a:Addr} {kvs:List (Key × V)} {k:Key} (e:H a = some (.dK kvs)):DGet H a (kV k) (valV kvs k):=.inl ⟨kvs,k,.inl e,rfl,rfl⟩
theorem DGet.t {H:Hp} {a b:Addr} {kvs:List (List Key × V)} {k:List Key} (e:H a = some (.dT kvs)) (eb:H b = some (.tup (k.map kV))):DGet H a (.ref b) (valV kvs k):=.inr ⟨kvs,k,b,.inl e,rfl,eb,rfl⟩
theorem DPut.k {H:Hp} {a:Addr} {kvs:List (Key × V)} {k:Key} {v:V} (e:H a = some (.dK kvs)) (hl:kvs.length < sizeLine):DPut H a (kV k) v (upd H a (.dK (putK kvs k v))):=.inl ⟨kvs,k,e,rfl,hl,rfl⟩
theorem DPut.t {H:Hp} {a b:Addr} {kvs:List (List Key × V)} {k:List Key} {v:V} (e:H a = some (.dT kvs)) (eb:H b = some (.tup (k.map kV))) (hl:kvs.length < sizeLine) :
  DPut H a (.ref b) v (upd H a (.dT (putK kvs k v))):=.inr ⟨kvs,k,b,e,rfl,eb,hl,rfl⟩
section
variable {X:Cx} {pn:List (Addr × Obj)} {σ:St} {H:Hp} {s:Shared} {a:Addr} {y v:V} {u r:Value} {o:Option V} {A:Around} {E:Value->Shared->Prop}
theorem Inv.big (I:Inv X pn σ H s):sysModules < s.heap.objs.size:=by
 have h:mainGlobals < s.heap.objs.size:=(I.mod.glob.keeps I.bk).lt
 exact Nat.lt_trans (by decide) h
theorem Rw {Q:Value->Shared->Prop} (hu:A.units + 1 < cLine) (I:Inv X pn σ H s) (g:DGet H a y (some v)) (ry:RelV y u) (h:∀ w' s',Inv X pn σ H s'->RelV v w'->Q w' s') :
  wpAny (model X.prog X.w) A (getItem (.ref a) u) Q E s:=by
 rcases g with ⟨kvs,k,e,ey,l⟩ | ⟨kvs,k,b,e,ey,eb,l⟩
 ·subst ey
  obtain ⟨z,hd,vs,rel,dd⟩:=Rq I.hok e
  obtain ⟨w',hw,rw'⟩:=RelO.some_of (v:=v) (o:=valueAt vs k) (by rw [l]; exact rel.val k)
  exact wpAny_getItem_of (Se ry) dd.mapOf hw (h w' _ (I.tok _) rw')
 ·subst ey
  cases (show u = Value.ref b from ry)
  obtain ⟨z,hd,xs,rel,dd⟩:=Ro I.hok e
  obtain ⟨w',hw,rw'⟩:=RelO.some_of (v:=v) (o:=(atKey xs k).map (·.2)) (by rw [l]; exact rel.val k)
  obtain ⟨p,hp,hp2⟩:=Option.map_eq_some_iff.mp hw
  refine wpAny_getItem_heap (tupleKind_room_in1 hu) (Wu I.hok eb) dd hp ?_
  rw [hp2]
  exact h w' _ (I.tok _) rw'
theorem Ru {h':Heap} {t':Nat} {ob:HO} (I:Inv X pn σ H s) (mu:Mut (H a)) (hs:Heap.SameBut a s.heap h') (he:∃ q,h'.get? a = some q) (new:w6 X.prog X.w (upd H a ob) h' a ob) :
  Inv X pn σ (upd H a ob) { s with heap:=h',toks:=t' } :=
 I.write (x:=a) (e:=a) mu (.inl rfl) (fun b q hb z=>(hs.2 b hb).trans z) he new
theorem Nx {P:Program} {w:World} {H':Hp} {h':Heap} {kvs:List (Key × V)} {vs:List (Key × Value)} (z:kvs.length <= sizeLine) (hd:(a == sysModules) = false) (rel:KV kvs vs) (dd:h'.DictOf (yw P w) a vs) :
  w6 P w H' h' a (.dK kvs):=⟨z,hd,vs,rel,dd⟩
theorem Rv {H':Hp} {Q:Unit->Shared->Prop} (hu:A.units + 1 < cLine) (I:Inv X pn σ H s) (g:DPut H a y v H') (ry:RelV y u) (rv:RelV v r) (h:∀ s',Inv X pn σ H' s'->Q () s') :
  wpAny (model X.prog X.w) A (setItem (.ref a) u r) Q E s:=by
 rcases g with ⟨kvs,k,e,ey,l,eH⟩ | ⟨kvs,k,b,e,ey,eb,l,eH⟩
 ·subst ey eH
  obtain ⟨z,hd,vs,rel,dd⟩:=Dj I.hok e
  have hz:vs.length <= sizeLine:=by rw [<- rel.length]; exact z
  have hl:(putK kvs k v).length <= sizeLine:=by have:=j0 kvs k v; omega
  refine wpAny_setItem_pairs (hsz:=hz) (Se ry) dd fun h' dd' hs=>h _ ?_
  have he:∃ q,h'.get? a = some q:=let ⟨q,_,_,hq,_⟩:=dd'; ⟨q,hq⟩
  exact Ru I (by rw [e]; exact True.intro) hs he (Nx hl hd (rel.put k rv) dd')
 ·subst ey eH
  cases (show u = Value.ref b from ry)
  obtain ⟨z,hd,xs,rel,dd⟩:=Di I.hok e
  have hz:xs.length <= sizeLine:=by rw [<- Paired.length rel]; exact z
  have hl:(putK kvs k v).length <= sizeLine:=by have:=j0 kvs k v; omega
  refine wpAny_setItem_heap (hsz:=hz) (tupleKind_room_in1 hu) (Wu I.hok eb) dd fun h' dd' hs=>h _ ?_
  obtain ⟨q,es,ep,hq,h2,h3,h4,_,h5⟩:=dd'
  refine Ru I (by rw [e]; exact True.intro) hs ⟨q,hq⟩ ⟨hl,hd,_,(rel.put k eb rv).keeps fun c ys ec=>?_,q,es,ep,hq,h2,h3,h4,h5⟩
  rw [zj (Ex ec e (fun z=>nomatch z))]
  exact ec
end
theorem Xn {X:Cx} {pn:List (Addr × Obj)} {σ:St} {H:Hp} {s:Shared} {a:Addr} {y:V} {o:Option V} (I:Inv X pn σ H s) (g:DGet H a y o):s.TypeIs (.ref a) "dict":=by
 rcases g with ⟨kvs,k,e,_,_⟩ | ⟨kvs,k,b,e,_,_,_⟩
 ·obtain ⟨_,_,vs,_,dd⟩:=Rq I.hok e
  exact dd.typeIs
 ·obtain ⟨_,_,xs,_,dd⟩:=Ro I.hok e
  exact dd.typeIs
noncomputable def Eh (td ty tv:TE):TS:=fun D σ H=>tv σ H fun v H1=>td σ H1 fun x H2=>ty σ H2 fun y H3=>∃ a H4,x = .ref a /\ DPut H3 a y v H4 /\ D.nx σ H4
section
variable {X:Cx} {o i e value:Expr} {pos pos' tpos:Pos} {td ty tv:TE}
theorem Mu (hu:X.A.units + 1 < cLine) (ho:PE X o td) (hi:PE X i ty) (hv:PE X value tv) (hs:swapsWith value (some (.Subscript o i pos')) pos.line X.env = pure false) :
  PS X (.Assign [.Subscript o i pos'] value pos) (Eh td ty tv):=by
 intro pn s σ H D I h
 refine wpAny_Assign_Subscript (thn (hv pn s σ H _ I h) fun r s1 ⟨v,H1,I1,rv,q1⟩=>thn (ho pn s1 σ H1 _ I1 q1) fun u s2 ⟨x,H2,I2,rx,q2⟩=>thn (hi pn s2 σ H2 _ I2 q2) fun iv s3 ⟨y,H3,I3,ry,a,H4,ex,g,q3⟩=>?_) hs
 subst ex
 obtain rfl:u = Value.ref a:=rx
 exact Rv hu I3 g ry rv fun s4 I4=>⟨σ,H4,I4,q3⟩
end
structure M1 (X:Cx) (o:Expr) (m:Str) (apos:Pos) (e:Expr) (cpos:Pos):Prop where
 base:attributeBase o m X.env (eval o X.env) = eval o X.env
 few:((backTo cpos (starEach [e] X.env)).all (fun x=>!x.1) && (backToKw cpos (keywordEach [] X.env)).all (fun x=>x.1.isSome)
  && decide (([e]:List Expr).length + ([]:List Keyword).length + (if ([]:List Keyword).isEmpty then 0 else 1) < 30)) = true
 line:(apos.endLine == cpos.line) = true
 trees:backTo cpos (starEach [e] X.env) = [(false,eval e X.env)]
structure M2 (X:Cx) (o:Expr) (m:Str) (apos:Pos) (e f:Expr) (cpos:Pos):Prop where
 base:attributeBase o m X.env (eval o X.env) = eval o X.env
 few:((backTo cpos (starEach [e,f] X.env)).all (fun x=>!x.1) && (backToKw cpos (keywordEach [] X.env)).all (fun x=>x.1.isSome)
  && decide (([e,f]:List Expr).length + ([]:List Keyword).length + (if ([]:List Keyword).isEmpty then 0 else 1) < 30)) = true
 line:(apos.endLine == cpos.line) = true
 trees:backTo cpos (starEach [e,f] X.env) = [(false,eval e X.env),(false,eval f X.env)]
noncomputable def IsD (H:Hp) (a:Addr):Prop:=(∃ kvs,Rd H a (.dK kvs)) \/ ∃ kvs,Rd H a (.dT kvs)
theorem Fl {X:Cx} {pn:List (Addr × Obj)} {σ:St} {H:Hp} {s:Shared} {a:Addr} (I:Inv X pn σ H s) (d:IsD H a) :
  s.TypeIs (.ref a) "dict" /\ (∀ b,Value.ref a = .ref b->∃ ob,s.heap.get? b = some ob /\ ob.dict = none) /\ (a == sysModules) = false:=by
 rcases d with ⟨kvs,e⟩ | ⟨kvs,e⟩
 ·obtain ⟨_,hd,vs,_,dd⟩:=Rq I.hok e
  refine ⟨dd.typeIs,fun b q=>?_,hd⟩
  cases q
  obtain ⟨ob,_,_,h1,h2,_⟩:=dd
  exact ⟨ob,h1,h2.2.1⟩
 ·obtain ⟨_,hd,xs,_,dd⟩:=Ro I.hok e
  refine ⟨dd.typeIs,fun b q=>?_,hd⟩
  cases q
  obtain ⟨ob,_,_,h1,h2,_⟩:=dd
  exact ⟨ob,h1,h2.2.1⟩
section
variable {X:Cx} {pn:List (Addr × Obj)} {σ:St} {H:Hp} {s:Shared} {a:Addr} {y d:V} {u r:Value} {o:Option V} {A:Around} {E:Value->Shared->Prop}
theorem Fz {Q:Value->Shared->Prop} (hu:A.units + 1 < cLine) (I:Inv X pn σ H s) (g:DGet H a y o) (ry:RelV y u) (rd:RelV d r) (h:∀ w' s',Inv X pn σ H s'->RelV (o.getD d) w'->Q w' s') :
  wpAny (model X.prog X.w) A (call (.builtin "dict.get") [.ref a,u,r]) Q E s:=by
 rcases g with ⟨kvs,k,e,ey,l⟩ | ⟨kvs,k,b,e,ey,eb,l⟩
 ·subst ey
  obtain ⟨z,hd,vs,rel,dd⟩:=Rq I.hok e
  refine call_meetsIn PySem.F.slot_dict_get dd.typeIs PySem.F.entry_dict_get (PySem.F.args_dict_get_3 _ _ _) (meets_dict_get_default (yw X.prog X.w) a (Se ry) hd r) ⟨_,dd.mapOf,h _ _ (I.tok _) ?_⟩
  rw [l]
  exact (rel.val k).getD rd
 ·subst ey
  cases (show u = Value.ref b from ry)
  obtain ⟨z,hd,xs,rel,dd⟩:=Ro I.hok e
  refine call_meetsIn PySem.F.slot_dict_get dd.typeIs PySem.F.entry_dict_get (PySem.F.args_dict_get_3 _ _ _) (meetsH_dict_get_default (tupleKind (yw X.prog X.w)) a b hd r) ⟨tupleKind_room_in1 hu,k,xs,Wu I.hok eb,dd,h _ _ (I.tok _) ?_⟩
  rw [l]
  exact (rel.val k).getD rd
end
noncomputable def Jj (td ty tx:TE):TE:=fun σ H Q=>td σ H fun x H1=>∃ a,x = .ref a /\ IsD H1 a /\ ty σ H1 fun y H2=>tx σ H2 fun z H3=>∃ o,DGet H3 a y o /\ Q (o.getD z) H3
section
variable {X:Cx} {o e f:Expr} {apos cpos:Pos} {td ty tx:TE}
theorem Pe (hu:X.A.units + 1 < cLine) (ho:PE X o td) (he:PE X e ty) (hf:PE X f tx) (m:M2 X o "get" apos e f cpos):PE X (.Call (.Attribute o "get" apos) [e,f] [] cpos) (Jj td ty tx):=by
 intro pn s σ H Q I h
 refine wpAny_Call_method m.base m.few m.line PySem.F.plainAttrs_dict PySem.F.slot_dict_get PySem.F.type_dict_get (thn (ho pn s σ H _ I h) fun u s1 ⟨x,H1,I1,rx,a,ex,d,q1⟩=>?_)
 subst ex
 obtain rfl:u = Value.ref a:=rx
 obtain ⟨t1,t2,_⟩:=Fl I1 d
 refine ⟨t1,t2,?_⟩
 rw [m.trees]
 refine Calls.callWith_builtin rfl (Calls.evalArgs_plain (Calls.spliced_cons (thn (he pn s1 σ H1 _ I1 q1) fun iv s2 ⟨y,H2,I2,ry,q2⟩ =>
  Calls.spliced_cons (thn (hf pn s2 σ H2 _ I2 q2) fun fv s3 ⟨z,H3,I3,rz,ov,g,q3⟩=>Calls.spliced_nil ?_))))
 exact Fz hu I3 g ry rz fun w' s4 I4 rw'=>⟨_,H3,I4,rw',q3⟩
end
end L2
namespace DL
open PySem PySem.Spec L2 L3
open PyProof.Rows hiding St
variable {Γ:Hp->Prop}
noncomputable instance decMemKey (k:Key) (ks:List Key):Decidable (k ∈ ks):=decidable_of_iff (ks.any (fun x=>decide (x = k)) = true) (by simp)
section
variable {α:Type}
noncomputable def vz:List Key->List α->Key->Option α
 | k' :: ks,d :: ds,k=>if k' = k then some d else vz ks ds k
 | _,_,_=>none
noncomputable def kput (ks:List Key) (k:Key):List Key:=if k ∈ ks then ks else ks ++ [k]
noncomputable def dput:List Key->List α->Key->α->List α
 | k' :: ks,d' :: ds,k,d=>if k' = k then d :: ds else d' :: dput ks ds k d
 | _,_,_,d=>[d]
end
theorem d7:∀ (ks:List Key) (xs:List V) (k:Key),valV (ks.zip xs) k = vz ks xs k
 | [],xs,k=>by cases xs <;> rfl
 | k' :: ks,[],k=>rfl
 | k' :: ks,x :: xs,k=>by
  rw [List.zip_cons_cons,vz]
  by_cases e:k' = k
  ·rw [if_pos e,qk (by exact e)]
  ·rw [if_neg e,qm (by exact e),d7 ks xs k]
theorem Tz:∀ (ks:List Key) (xs:List V) (k:Key) (v:V),k ∉ ks->(ks.zip xs).map (fun kv=>if kv.1 = k then (kv.1,v) else kv) = ks.zip xs
 | [],xs,k,v,_=>by cases xs <;> rfl
 | k' :: ks,[],k,v,_=>rfl
 | k' :: ks,x :: xs,k,v,h=>by
  rw [List.zip_cons_cons,List.map_cons,Tz ks xs k v fun z=>h (List.mem_cons_of_mem _ z)]
  rw [if_neg (by intro z; exact h (List.mem_cons.mpr (.inl z.symm)))]
theorem Xx:∀ {ks:List Key} {xs:List V} {k:Key},ks.length = xs.length->(((ks.zip xs).any fun kv=>decide (kv.1 = k)) = true ↔ k ∈ ks)
 | [],xs,k,h=>by cases xs <;> simp at *
 | k' :: ks,[],k,h=>by simp at h
 | k' :: ks,x :: xs,k,h=>by
  rw [List.zip_cons_cons,List.any_cons,Bool.or_eq_true,Xx (by simpa using h)]
  simp [eq_comm]
theorem Ni:∀ {ks:List Key} {xs:List V} {k:Key} {v:V},ks.Nodup->ks.length = xs.length->k ∈ ks->(ks.zip xs).map (fun kv=>if kv.1 = k then (kv.1,v) else kv) = ks.zip (dput ks xs k v)
 | [],_,_,_,_,_,h=>by cases h
 | k' :: ks,[],_,_,_,h,_=>by simp at h
 | k' :: ks,x :: xs,k,v,nd,hl,h=>by
  obtain ⟨n1,n2⟩:=List.nodup_cons.mp nd
  rw [List.zip_cons_cons,List.map_cons,dput]
  by_cases e:k' = k
  ·subst e
   rw [if_pos rfl,if_pos rfl,Tz ks xs k' v n1,List.zip_cons_cons]
  ·rw [if_neg e,if_neg e,List.zip_cons_cons,Ni n2 (by simpa using hl) ((List.mem_cons.mp h).resolve_left (Ne.symm e))]
theorem bo {α:Type}:∀ {ks:List Key} {xs:List α} {k:Key} {v:α},ks.length = xs.length->k ∉ ks->dput ks xs k v = xs ++ [v]
 | [],xs,k,v,h,_=>by
  cases xs with
  | nil=>rfl
  | cons=>simp at h
 | k' :: ks,[],_,_,h,_=>by simp at h
 | k' :: ks,x :: xs,k,v,h,hn=>by
  rw [dput,if_neg (fun z=>hn (List.mem_cons.mpr (.inl z.symm))),bo (by simpa using h) fun z=>hn (List.mem_cons_of_mem _ z)]
  rfl
theorem P6 {ks:List Key} {xs:List V} {k:Key} {v:V} (nd:ks.Nodup) (hl:ks.length = xs.length):putK (ks.zip xs) k v = (kput ks k).zip (dput ks xs k v):=by
 unfold putK kput
 by_cases h:k ∈ ks
 ·rw [if_pos ((Xx hl).mpr h),if_pos h,Ni nd hl h]
 ·rw [if_neg (fun z=>h ((Xx hl).mp z)),if_neg h,bo hl h,List.zip_append hl]
  rfl
theorem Oj {α:Type}:∀ {ks:List Key} {xs:List α} {k:Key} {v:α},ks.length = xs.length->(kput ks k).length = (dput ks xs k v).length:=fun {ks xs k v} h=>by
 by_cases hk:k ∈ ks
 ·unfold kput
  rw [if_pos hk]
  induction ks generalizing xs with
  | nil=>cases hk
  | cons k' ks ih =>
   cases xs with
   | nil=>simp at h
   | cons x xs =>
    rw [dput]
    by_cases e:k' = k
    ·rw [if_pos e]; simpa using h
    ·rw [if_neg e]
     have:=ih (xs:=xs) (by simpa using h) ((List.mem_cons.mp hk).resolve_left (Ne.symm e))
     simp [this]
 ·rw [bo h hk]
  unfold kput
  rw [if_neg hk]
  simp [h]
theorem Vz {ks:List Key} {k:Key} (nd:ks.Nodup):(kput ks k).Nodup:=by
 unfold kput
 split
 ·exact nd
 ·rename_i h
  exact List.nodup_append.mpr ⟨nd,by simp,by intro a ha b hb e; simp at hb; subst hb; exact h (e ▸ ha)⟩
section
variable {K:W.Frag} {H:Hp} {O:List Addr}
theorem uz:∀ {ks:List Key} {ds:List D} {xs:List V} {k:Key},Reps K H O ds xs->(∀ d,vz ks ds k = some d->∃ v,vz ks xs k = some v /\ Rep K H O d v) /\ (vz ks ds k = none->vz ks xs k = none)
 | [],ds,xs,k,r=>⟨(fun d h=>by cases ds <;> cases h),(fun _=>by cases xs <;> rfl)⟩
 | k' :: ks,[],xs,k,r=>by
  cases r
  exact ⟨(fun d h=>by cases h),fun _=>rfl⟩
 | k' :: ks,d' :: ds,xs,k,r=>by
  obtain ⟨v,ws,rfl,q,t⟩:=r
  rw [vz,vz]
  by_cases e:k' = k
  ·rw [if_pos e,if_pos e]
   exact ⟨(fun d h=>by cases h; exact ⟨v,rfl,q⟩),(fun h=>by cases h)⟩
  ·rw [if_neg e,if_neg e]
   exact uz t
theorem Z6:∀ {ks:List Key} {ds:List D} {xs:List V} {k:Key} {d:D} {v:V},Reps K H O ds xs->Rep K H O d v->Reps K H O (dput ks ds k d) (dput ks xs k v)
 | [],ds,xs,k,d,v,r,q=>by
  have e1:dput ([]:List Key) ds k d = [d]:=by cases ds <;> rfl
  have e2:dput ([]:List Key) xs k v = [v]:=by cases xs <;> rfl
  rw [e1,e2]
  exact Reps.one q
 | k' :: ks,[],xs,k,d,v,r,q=>by
  cases r
  exact Reps.one q
 | k' :: ks,d' :: ds,xs,k,d,v,r,q=>by
  obtain ⟨v',ws,rfl,q',t⟩:=r
  rw [dput,dput]
  by_cases e:k' = k
  ·rw [if_pos e,if_pos e]
   exact ⟨v,ws,rfl,q,t⟩
  ·rw [if_neg e,if_neg e]
   exact ⟨v',_,rfl,q',Z6 t q⟩
end
noncomputable def keyD:D->Option Key
 | .int i=>some (.inl i)
 | .str x=>some (.inr x)
 | _=>none
theorem c8 {K:W.Frag} {H:Hp} {O:List Addr} {d:D} {v:V} {k:Key} (h:View K H O d v) (e:keyD d = some k):v = kV k:=by
 cases d with
 | int i=>cases e; exact h
 | str i=>cases e; exact h
 | _=>cases e
section
variable {X:Cx} {a b c e o:Expr} {es:List Expr} {ta tb tc te td:TD} {t:TDs} {pos:Pos}
noncomputable def Ob:D->Bool
 | .non=>true
 | .bl _=>true
 | .int _=>true
 | .str _=>true
 | _=>false
noncomputable def inD (x:D) (l:List D):Bool:=l.any fun y=>eqD y x
noncomputable def sIn (neg:Bool):D->D->(EV->Prop)->Prop:=fun x y φ=>match y with
 | .dk ks _=>(match keyD x with | some k=>φ (dv (.bl (if neg then !decide (k ∈ ks) else decide (k ∈ ks)))) | none=>False)
 | .lst l=>Ob x = true /\ l.all Ob = true /\ φ (dv (.bl (if neg then !inD x l else inD x l)))
 | .tup l=>Ob x = true /\ l.all Ob = true /\ φ (dv (.bl (if neg then !inD x l else inD x l)))
 | .str z=>(match x with | .str p=>φ (dv (.bl (if neg then !(!(Builtin.Str.occurrences z p 0 z.length 1).isEmpty) else !(Builtin.Str.occurrences z p 0 z.length 1).isEmpty))) | _=>False)
 | _=>False
noncomputable def sIxx:D->D->(EV->Prop)->Prop:=fun x y φ=>match x with
 | .dk ks ds=>(match keyD y with
  | some k=>(match vz ks ds k with
   | some d=>φ (dv d)
   | none=>False)
  | none=>False)
 | x=>sIx x y φ
theorem K2 (hu:X.A.units + 1 < cLine):IxR X (fun x y H Q=>∃ a kvs k v,x = .ref a /\ H a = some (.dK kvs) /\ y = kV k /\ valV kvs k = some v /\ Q v H):=by
 intro value slice pn s σ H x y v u Q I rx ry h hs
 obtain ⟨a,kvs,k,w,rfl,ha,rfl,e,q⟩:=h
 cases rx
 have g:DGet H a (kV k) (some w):=by rw [<- e]; exact DGet.k ha
 exact tail_any (Xn I g) PySem.F.slot_dict_getitem.lookup (Rw hu I g ry fun w' s' I' rw'=>⟨w,H,I',rw',q⟩) hs
theorem Po:qj X.K (fun x y H Q=>rIx X.K x y H Q \/ ∃ a kvs k v,x = .ref a /\ H a = some (.dK kvs) /\ y = kV k /\ valV kvs k = some v /\ Q v H) sIxx:=by
 intro H O x y vx vy φ Q ho hx hy h k
 cases x with
 | dk ks ds =>
  obtain ⟨a,xs,rfl,q,l,nd,r⟩:=hx
  unfold sIxx at h
  dsimp only at h
  split at h
  ·rename_i kk ek
   split at h
   ·rename_i d ed
    obtain ⟨v,ev,rv⟩:=(uz (ks:=ks) (k:=kk) r).1 d ed
    exact .inr ⟨a,_,kk,v,rfl,q,c8 hy ek,by rw [d7]; exact ev,k _ _ H (Same.refl H) (RV.val rv) h⟩
   ·exact h.elim
  ·exact h.elim
 | _=>exact .inl (Lr H O _ y vx vy φ Q ho hx hy h k)
theorem zn (hu:X.A.units + 64 < cLine) (ha:ED Γ X a ta) (hb:ED Γ X b tb) (hs:Q8 b:=by intro _ _; rfl):ED Γ X (.Subscript a b pos) (d2 sIxx ta tb):=fun H₀=>impE (Eo (Fe.or (K2 (by omega))) (ha H₀) (hb H₀) hs) (Pr Po)
noncomputable def E4 (td tk tx:TD):TD:=fun ρ φ=>td ρ fun r=>match r.d with
 | .dk ks ds=>tk ρ fun y=>tx ρ fun z=>(match z.k with | .own=>False | _=>True) /\ (match keyD y.d with
  | some k=>φ (dv ((vz ks ds k).getD z.d))
  | none=>False)
 | _=>False
theorem Kj {f:Expr} {tf:TD} {apos cpos:Pos} (hu:X.A.units + 64 < cLine) (ho:ED Γ X o td) (he:ED Γ X e te) (hf:ED Γ X f tf) (m:M2 X o "get" apos e f cpos:=by exact ⟨rfl,rfl,rfl,rfl⟩):ED Γ X (.Call (.Attribute o "get" apos) [e,f] [] cpos) (E4 td te tf):=fun H₀ =>
 impE (Pe (by omega) (ho H₀) (he H₀) (hf H₀) m) fun σ H Q q=>by
  obtain ⟨ρ,o,R,φ,hφ,kk⟩:=q
  refine ⟨ρ,o,R,_,hφ,fun v r H1 s1 rv h1=>?_⟩
  obtain ⟨kd,d⟩:=r
  cases d with
  | dk ks ds =>
   obtain ⟨a,xs,rfl,q,l,nd,rp⟩:=rv.view
   refine ⟨a,rfl,.inl ⟨_,.inl q⟩,ρ,o,R.to s1,_,h1,fun v2 r2 H2 s2 rv2 h2=>⟨ρ,o,R.to (s1.trans s2),_,h2,fun v3 r3 H3 s3 rv3 h3=>?_⟩⟩
   obtain ⟨h0,h3⟩:=h3
   split at h3
   ·rename_i k ek
    have q3:=s3 _ _ (s2 _ _ q)
    have hk:v2 = kV k:=c8 (rv2.same s3).view ek
    subst hk
    have rp3:=Reps.grow (Grow.same (s2.trans s3)) _ _ rp
    refine ⟨_,DGet.k q3,?_⟩
    rw [d7]
    have s13:=s1.trans (s2.trans s3)
    cases el:vz ks ds k with
    | none =>
     rw [(uz (ks:=ks) (k:=k) rp3).2 el]
     rw [el] at h3
     exact kk _ _ H3 s13 (RV.val (rv3.solid (wv h0))) h3
    | some d =>
     obtain ⟨w,ew,rw⟩:=(uz (ks:=ks) (k:=k) rp3).1 d el
     rw [ew]
     rw [el] at h3
     exact kk _ _ H3 s13 (RV.val rw) h3
   ·exact h3.elim
  | _=>exact h1.elim
end
section
variable {X:Cx} {x:Str} {e ke:Expr} {te tk:TD} {np pos pos':Pos}
noncomputable def Z5 (i:Nat) (tk te:TD):TDS:=fun ρ Z=>match slot ρ i with
 | some ⟨.own,.dk ks ds⟩=>te ρ fun r=>tk ρ fun kr=>(match r.k with | .own=>False | _=>True) /\ ds.length <= 100000 /\ (match keyD kr.d with
  | some k=>Z.nx (setS ρ i (dO (.dk (kput ks k) (dput ks ds k r.d))))
  | none=>False)
 | _=>False
theorem Mj (i:Nat) (hu:X.A.units + 64 < cLine) (hk:ED Γ X ke tk) (he:ED Γ X e te) (hN:X.N[i]? = some x:=by rfl) (hv:Vis X.env.scope x:=by first | exact Or.inl rfl | exact Or.inr (Or.inl rfl) | exact Or.inr (Or.inr rfl)) (hd:(x == ("__debug__" : Str)) = false:=by decide)
  (hcd:(x == ("__classdict__" : Str)) = false:=by decide) (hs:swapsWith e (some (.Subscript (.Name x np) ke pos')) pos.line X.env = pure false:=by rfl):SD Γ X (.Assign [.Subscript (.Name x np) ke pos'] e pos) (Z5 i tk te):=fun H₀ =>
 impS (Mu (by omega) (Zb hN hv hd hcd) (hk H₀) (he H₀) hs) fun D σ H h=>by
  obtain ⟨ρ,o,R,Z,hZ,k1,k2,k3,k4⟩:=h
  unfold Z5 at hZ
  split at hZ
  ·rename_i ks ds es
   obtain ⟨v0,ev0,q0⟩:=R.slots i _ (wd es)
   rcases q0 with ⟨k,_⟩ | ⟨_,a,rfl,m,c⟩
   ·cases k
   obtain ⟨xs,hx,hl,nd,rx⟩:=c
   refine ⟨ρ,o,R,_,hZ,fun v r H1 s1 rv h1=>⟨.ref a,ev0,ρ,o,R.to s1,_,h1,fun v2 r2 H2 s2 rv2 h2=>?_⟩⟩
   obtain ⟨h0,hlen,h2⟩:=h2
   split at h2
   ·rename_i k ek
    have hk:v2 = kV k:=c8 rv2.view ek
    subst hk
    have s12:=s1.trans s2
    have hx2:=s12 _ _ hx
    have rx2:=Reps.grow (Grow.same s12) _ _ rx
    have xl:ks.length = xs.length:=by rw [hl,rx.length]
    refine ⟨a,_,rfl,DPut.k hx2 ?_,?_⟩
    ·rw [List.length_zip,xl,Nat.min_self,rx.length]
     exact Nat.lt_of_le_of_lt hlen (by decide)
    ·rw [P6 nd xl]
     obtain ⟨R3,g3⟩:=(R.to s12).chg (d':=.dk (kput ks k) (dput ks ds k r.d)) (ho:=.dK ((kput ks k).zip (dput ks xs k v))) (wd es) ev0 m ⟨fun _ z=>(by cases z),fun _ _ z=>(by cases z)⟩ fun gr =>
      ⟨dput ks xs k v,zk,Oj hl,Vz nd,gr _ _ (Z6 rx2 ((rv.same s2).solid (wv h0)))⟩
     exact k1 _ σ _ o ((Grow.same s12).trans g3) R3 h2
   ·exact h2.elim
  ·exact hZ.elim
end
theorem ba {X:Cx} {pn:List (Addr × Obj)} {σ:St} {H:Hp} {s:Shared} {M:Model} {A:Around} {E:Value->Shared->Prop} {i:Nat} {x:Str} {pos:Pos} {Q:Unit->Shared->Prop} (I:Inv X pn σ H s) (hN:X.N.Nodup) (hi:X.N[i]? = some x) (hk:X.env.scope.names.lookup x = some .local)
  (h:∀ s',Inv X pn (σ.set i none) H s'->Q () s'):wpAny M A (do bindName X.env x .none; unbindBehindTheSuite X.env x pos) Q E s:=by
 obtain ⟨m,hn,hl⟩:=id I.loc
 have hcls:(X.env.scope.kind == .class || (X.env.scope.kind == .module && X.env.locals != X.env.globals)) = false:=by rw [I.ok.kind]; rfl
 have hiσ:i < σ.length:=by rw [I.len]; exact (List.getElem?_eq_some_iff.mp hi).1
 have cne:=I.cne
 have tracked:∀ {a:Addr} {h':Heap},(∃ o,s.heap.get? a = some o /\ H a = none)->Heap.SameBut a s.heap h'->HOk X.prog X.w H h':=fun {a h'} ha hs b ob e=>by
  obtain ⟨_,_,hfree⟩:=ha
  refine (I.hok b ob e).stay (fun c w' hc q=>(hs.2 c ?_).trans q) (fun _ q=>q) fun _ _ q=>q
  rintro rfl
  rcases hc with rfl | hc
  ·rw [hfree] at e; cases e
  ·rw [hfree] at hc; cases hc
 refine wpAny_nameGoes_keeps hk hn hcls fun h' v hn' hs=>?_
 obtain ⟨oL,_,_,hoL,_⟩:=id hn
 refine h _ ⟨I.ok,I.os,I.bare,⟨fun b o e n hb hx=>?_,fun b o e n hb hx=>?_,I.base.free,fun b o e hx=>?_,I.base.tups,I.base.frzs,I.base.tbls⟩,⟨_,hn',fun j y v' e1 e2 e3=>?_⟩,fun y c e=>?_,I.free,I.freeC,fun p hp=>?_,tracked ⟨oL,hoL,I.free⟩ hs,by simpa using I.len⟩
 ·exact (hs.2 b (Nat.ne_of_lt (Nat.lt_of_lt_of_le (Heap.lt_size e) I.ok.above))).trans (I.base.keep b o e n hb hx)
 ·obtain ⟨sl,e1⟩:=I.base.slot b o e n hb hx
  exact ⟨sl,(hs.2 b (Nat.ne_of_lt (Nat.lt_of_lt_of_le (Heap.lt_size e) I.ok.above))).trans e1⟩
 ·obtain ⟨o',e1⟩:=I.base.there b o e hx
  exact ⟨o',(hs.2 b (Nat.ne_of_lt (Nat.lt_of_lt_of_le (Heap.lt_size e) I.ok.above))).trans e1⟩
 ·by_cases hj:j = i
  ·subst hj
   rw [List.getElem?_set_self hiσ] at e2
   cases e2
  ·rw [List.getElem?_set_ne (Ne.symm hj)] at e2
   obtain ⟨u',r',q⟩:=hl j y v' e1 e2 e3
   refine ⟨u',r',?_⟩
   rcases q with ⟨k,e⟩ | ⟨k,c,e,z⟩
   ·refine .inl ⟨k,?_⟩
    have:y ≠ x:=fun e=>hj (c6 hN e1 (e ▸ hi))
    simp [this,e]
   ·exact .inr ⟨k,c,e,z.sameBut hs (cne y c e)⟩
 ·obtain ⟨w',z⟩:=I.cell y c e
  exact ⟨w',z.sameBut hs (cne y c e)⟩
 ·obtain ⟨e,n,ne,nf,d⟩:=I.pin p hp
  exact ⟨(hs.2 p.1 ne).trans e,n,ne,nf,d⟩
noncomputable def clrS:DE->Nat->DE
 | [],_=>[]
 | _ :: r,0=>none :: r
 | x :: r,i + 1=>x :: clrS r i
theorem Xs:∀ (ρ:DE) (i:Nat),clrS ρ i = ρ.set i none
 | [],_=>rfl
 | _ :: _,0=>rfl
 | x :: r,i + 1=>by rw [clrS,Xs r i,List.set_cons_succ]
theorem REnv.clr {K:W.Frag} {H₀ H:Hp} {σ:St} {ρ:DE} {o:List (Nat × Addr)} (R:REnv K H₀ H σ ρ o) (i:Nat):REnv K H₀ H (σ.set i none) (clrS ρ i) o where
 same:=R.same
 fresh:=R.fresh
 trk:=R.trk
 mtb:=R.mtb
 nda:=R.nda
 len:=by rw [Xs,List.length_set,List.length_set]; exact R.len
 slots:=fun j r e=>by
  rw [Xs] at e
  by_cases hj:j = i
  ·subst hj
   rcases Nat.lt_or_ge j ρ.length with z | z
   ·rw [List.getElem?_set_self z] at e
    cases e
   ·rw [List.getElem?_eq_none (by rw [List.length_set]; exact z)] at e
    cases e
  ·rw [List.getElem?_set_ne (Ne.symm hj)] at e
   obtain ⟨w,ew,q⟩:=R.slots j r e
   exact ⟨w,by rw [List.getElem?_set_ne (Ne.symm hj)]; exact ew,q⟩
noncomputable def frzE (ρ:DE):DE:=ρ.map fun x=>x.map fun r=>dv r.d
theorem REnv.frz {K:W.Frag} {H₀ H:Hp} {σ:St} {ρ:DE} {o:List (Nat × Addr)} (R:REnv K H₀ H σ ρ o):REnv K H H σ (frzE ρ) [] where
 same:=Same.refl H
 fresh:=fun _ z=>absurd z (by simp)
 trk:=fun _ z=>absurd z (by simp)
 mtb:=fun _ z=>absurd z (by simp)
 nda:=List.nodup_nil
 len:=by unfold frzE; rw [List.length_map]; exact R.len
 slots:=fun j r e=>by
  unfold frzE at e
  rw [List.getElem?_map] at e
  cases e1:ρ[j]? with
  | none=>rw [e1] at e; cases e
  | some x =>
   rw [e1] at e
   cases x with
   | none=>cases e
   | some r' =>
    have e':some (dv r'.d) = some r:=Option.some.inj e
    cases e'
    obtain ⟨v,ev,q⟩:=R.slots j r' e1
    refine ⟨v,ev,.inl ⟨rfl,?_⟩⟩
    rcases q with ⟨_,q⟩ | ⟨_,a,rfl,m,c⟩
    ·exact Rep.sub (O':=[]) (fun _ z=>absurd z (by simp)) _ _ q
    ·exact (c.sub (O':=[]) fun _ z=>absurd z (by simp)).rep (by simp)
theorem REnv.unfrz {K:W.Frag} {H₀ H H1:Hp} {σ:St} {ρ:DE} {o1:List (Nat × Addr)} (s:Same H₀ H) (R:REnv K H H1 σ ρ o1):REnv K H₀ H1 σ ρ o1 :=
 ⟨s.trans R.same,fun p hp=>s.free (R.fresh p hp),R.trk,R.mtb,R.nda,R.slots,R.len⟩
theorem REnv.gr {K:W.Frag} {H H1:Hp} {σ:St} {ρ:DE} {o1:List (Nat × Addr)} {O:List Addr} (R:REnv K H H1 σ ρ o1):Grow O (o1.map Prod.snd) H H1 :=
 ⟨fun b u h n=>⟨R.same b u h,fun z=>by
  obtain ⟨p,hp,e⟩:=List.mem_map.mp z
  have:=R.fresh p hp
  rw [e,h] at this
  cases this⟩,fun b xs h=>R.same b _ h,fun b ob u h=>R.same b _ h⟩
noncomputable def XP (Γ:Hp->Prop) (X:Cx) (χ:DE->Addr->Prop):Prop:=∀ (H₀:Hp),Γ H₀->∀ (ρ:DE) (o:List (Nat × Addr)) (pn:List (Addr × Obj)) (σ:St) (H:Hp) (s:Shared) (e:Value) (s':Shared),Inv X pn σ H s->REnv X.K H₀ H σ ρ o ->
 CX1 X.prog X.w X.stack H s (fun cls _ H'=>Same H H' /\ ∃ C,cls = .ref C /\ χ ρ C) e s'->X.xe e s'
noncomputable def XR (Γ:Hp->Prop) (X:Cx) (χ:DE->Addr->Prop):Prop:=∀ (H₀:Hp),Γ H₀->∀ (ρ:DE) (o:List (Nat × Addr)) (pn:List (Addr × Obj)) (σ:St) (H:Hp) (s:Shared) (a C:Addr) (vs:List Value) (h':Heap),Inv X pn σ H s->REnv X.K H₀ H σ ρ o ->
 Heap.MadeExcOf s.heap h' a (.ref C) vs->χ ρ C->X.xe (.ref a) { s with heap:=h' }
noncomputable abbrev FTX:=List D->(EV->Prop)->(Addr->Prop)->Prop
noncomputable def spX (K:W.Frag) (n:Nat) (T:FTX):Sp:=fun vs H Q E=>∃ ds φ χ,ds.length = n /\ Reps K H [] ds vs /\ T ds φ χ /\ (∀ v r H',Same H H'->RV K H H' [] r v->wa r->φ r->Q v H') /\ ∀ C H',Same H H'->χ C->E (.ref C) none H'
structure FX (P:Program) (w:World) (K:W.Frag) (mg:Str->Option Value) (base:Heap) (k:Nat) (x:Str) (ps:List Str) (T:FTX):Prop where
 ex:∃ f fd,FnOk P w K mg base (CX1 P w) k f fd ps (spX K ps.length T) /\ vf K fd ps [] /\ W.keepIn K (.ref f) = true /\ mg x = some (.ref f)
noncomputable def Ny (n:Nat) (T:FTX) (χ:DE->Addr->Prop) (t:TDs):TD:=fun ρ φ=>t ρ fun rs=>Nat.beq rs.length n = true /\ T (rs.map EV.d) φ (χ ρ)
theorem V9 {X:Cx} {x:Str} {ps:List Str} {T:FTX} {k:Nat} {e:Expr} {es:List Expr} {t:TDs} {p pos:Pos} {χ:DE->Addr->Prop} (F:FX X.prog X.w X.K X.mg X.base k x ps T) (hr:Room k X.A) (hx:XP Γ X χ) (ha:EA Γ X (e :: es) t) (hg:Gl X x:=by rfl) (hdb:(x == ("__debug__" : Str)) = false:=by decide)
  (he:starEach (e :: es) X.env = (false,eval e X.env) :: starEach es X.env:=by rfl) (hpl:(backTo pos (starEach es X.env)).any (·.1) = false:=by rfl):ED Γ X (.Call (.Name x p) (e :: es) [] pos) (Ny ps.length T χ t):=fun H₀ pn s σ H Q I h=>by
 obtain ⟨f,fd,ok,b,kp,m⟩:=F.ex
 obtain ⟨ρ,o,R,φ,hφ,kk⟩:=h
 refine wpAny_Call_Name_kw (um I hg m ?_ hdb)
 refine W.callWith_K (h₀:=X.base) I.ok.mod.kin kp (thn (ha H₀ pos pn s σ H (fun vs H1=>Same H H1 /\ spX X.K ps.length T vs H1 Q (fun cls _ H'=>Same H1 H' /\ ∃ C,cls = .ref C /\ χ ρ C)) I ⟨ρ,o,R,_,hφ,fun vs rs H1 s1 rvs h1=>?_⟩) fun us s1 ⟨vs,H1,I1,r,sm,q⟩=>⟨I1.kIn,?_⟩) he hpl
 ·refine ⟨s1,rs.map EV.d,φ,χ ρ,by rw [List.length_map]; exact Nat.eq_of_beq_eq_true h1.1,rvs.reps0,h1.2,fun v r H2 s2 rv pr h2=>?_,fun C H' sm c=>⟨sm,C,rfl,c⟩⟩
  exact kk v r H2 (s1.trans s2) (RV.start (rv.lift pr fun a e=>R.ofree (s1.free e)) s1) h2
 ·have hl:(us ++ []).length = ps.length:=by rw [List.append_nil,<- r.length]; exact ok.len _ _ _ _ q
  have hb:=b s1 us I1.kIn hl
  rw [List.append_nil] at hb
  refine wpAny_call (codeAny_mono (ok.run X.A X.stack s1 H1 ⟨us,[]⟩ us vs Q _ hr I1.env0 hb r q) fun r s' hq=>?_)
  cases r with
  | error e=>exact hx H₀.1 H₀.2 ρ o pn σ H1 s1 e s' I1 (R.to sm) hq
  | ok fl =>
   cases fl with
   | ret u=>exact I1.after hq
   | next=>exact False.elim hq
   | brk=>exact False.elim hq
   | cont=>exact False.elim hq
section
variable {P:Program} {w:World} {K:W.Frag} {mg:Str->Option Value} {base:Heap}
theorem gd {N:List Str} {ds:List D} {vs:List V} {H:Hp} (r:Reps K H [] ds vs):REnv K H H (L2.start N vs) (yu N.length ds) []:=by
 have rl:=r.length
 refine ⟨Same.refl H,(fun _ z=>absurd z (by simp)),(fun _ z=>absurd z (by simp)),(fun _ z=>absurd z (by simp)),List.nodup_nil,fun i r' e=>?_,?_⟩
 ·unfold yu at e
  rcases Nat.lt_or_ge i ds.length with hi | hi
  ·rw [List.getElem?_append_left (by simpa using hi),List.getElem?_map] at e
   have ed:ds[i]? = some ds[i]:=by simp [hi]
   rw [ed] at e
   have e':some (dv ds[i]) = some r':=Option.some.inj e
   cases e'
   obtain ⟨v,ev,rv⟩:=r.get ed
   refine ⟨v,?_,.inl ⟨rfl,rv⟩⟩
   unfold L2.start
   rw [List.getElem?_append_left (by rw [List.length_map,rl]; exact hi),List.getElem?_map,ev]
   rfl
  ·rw [List.getElem?_append_right (by simpa using hi),List.getElem?_replicate] at e
   split at e <;> cases e
 ·unfold L2.start yu
  simp [rl]
theorem Fo {x qual:Str} {st:Stmt} {f:Addr} {fd:FuncData} {N ps:List Str} {k:Nat} {T:FTX} (F:Fun K x qual st f fd) (S:zp N ps (zb st))
  (qY:∀ (qZ:Value) (A:Around) (outer:List Env) (s:Shared) (H:Hp) (E:XK) (ds:List D) (φ:EV->Prop) (χ:Addr->Prop),Room k (A.deeper (envOfC qual (zb st) s.heap.objs.size f qZ))->ds.length = ps.length->T ds φ χ ->
   XP (Same H) (cxOf (CX1 P w) P w K mg base N qual (zb st) f qZ A outer s H E) (fun _=>χ)->XR (Same H) (cxOf (CX1 P w) P w K mg base N qual (zb st) f qZ A outer s H E) (fun _=>χ) ->
   ∃ t,SDs (Same H) (cxOf (CX1 P w) P w K mg base N qual (zb st) f qZ A outer s H E) (yt st) t /\ t (yu N.length ds) { nx:=fun _=>φ (dv .non),rt:=fun r=>wa r /\ φ r }):FnOk P w K mg base (CX1 P w) (k + 1) f fd ps (spX K ps.length T):=by
 obtain ⟨oc,od,kV,doc,pm,an,qZ,ct,osl,rfl,lk,hcd⟩:=F.ex
 refine Fq lk hcd S (fun vs H Q E h=>?_) fun A outer s H vs Q E hr h=>?_
 ·obtain ⟨ds,φ,χ,hl,r,_⟩:=h
  rw [r.length,hl]
 ·obtain ⟨ds,φ,χ,hl,r,hT,kk,kx⟩:=h
  obtain ⟨t,ht,hq⟩:=qY qZ A outer s H E ds φ χ hr hl hT (fun H₀ g ρ o pn σ H1 s1 e s' J R hc=>Le J hc fun C H' ⟨sm,C',e',c⟩=>by cases e'; exact kx _ H' ((g.trans R.same).trans sm) c)
   (fun H₀ g ρ o pn σ H1 s1 a C vs h' J R hx c=>Ln J hx (kx C H1 (g.trans R.same) c))
  refine ⟨Vy K H t,ht ⟨H,Same.refl H⟩,yu N.length ds,[],gd r,_,hq,fun ρ' σ' H' o' g R' q=>?_,fun _ _ _ _ _ _ q=>q.elim,fun _ _ _ _ _ _ q=>q.elim,fun v r' H' s' rv q=>kk v r' H' s' rv q.1 q.2⟩
  exact kk .non (dv .non) H' R'.same rfl trivial q
theorem Fn {x qual:Str} {st:Stmt} {f:Addr} {fd:FuncData} {N ps:List Str} {k:Nat} {T:FTX} (F:Fun K x qual st f fd) (S:zp N ps (zb st)) (b:vf K fd ps []) (m:mg x = some (.ref f))
  (qY:∀ (qZ:Value) (A:Around) (outer:List Env) (s:Shared) (H:Hp) (E:XK) (ds:List D) (φ:EV->Prop) (χ:Addr->Prop),Room k (A.deeper (envOfC qual (zb st) s.heap.objs.size f qZ))->ds.length = ps.length->T ds φ χ ->
   XP (Same H) (cxOf (CX1 P w) P w K mg base N qual (zb st) f qZ A outer s H E) (fun _=>χ)->XR (Same H) (cxOf (CX1 P w) P w K mg base N qual (zb st) f qZ A outer s H E) (fun _=>χ) ->
   ∃ t,SDs (Same H) (cxOf (CX1 P w) P w K mg base N qual (zb st) f qZ A outer s H E) (yt st) t /\ t (yu N.length ds) { nx:=fun _=>φ (dv .non),rt:=fun r=>wa r /\ φ r }):FX P w K mg base (k + 1) x ps T:=⟨f,fd,Fo F S qY,b,F.kp,m⟩
end
theorem Q0 {K:W.Frag} {h:Heap} {C:Addr} {bmB:List Value} {newId:String} (X:K.In h) (q:W.excIn K C bmB newId = true) :
  ∃ bm N nm q bs hdct sn sub ab col dd k0 k1 k2 k3 k5 mN,h.get? C = some (excClassObj nm q C N bs bm hdct sn sub ab col dd k0 k1 k2 k3 k5 newId) /\ h.Ns N mN /\ mN "__init__" = none /\ OwnTail h bmB bm:=by
 unfold W.excIn at q
 split at q
 ·rename_i dd cd sl ho
  split at q
  ·rename_i C' bm k0 k1 k2 k3 n k5 hm hs
   simp only [Bool.and_eq_true,beq_iff_eq,Bool.not_eq_true'] at q
   obtain ⟨⟨⟨⟨⟨rfl,rfl⟩,hdel⟩,ht⟩,hok⟩,hni⟩:=q
   obtain ⟨nm,bs,mro,ns,qn,hd,sn,sub,ab,col,del⟩:=cd
   dsimp only at hm hdel hok hni
   subst hm hdel
   have hsl:sl = #[k0,k1,k2,k3,some (.builtin n),k5]:=by
    obtain ⟨l⟩:=sl
    simp only at hs
    rw [hs]
   subst hsl
   exact ⟨bm,ns,nm,qn,bs,hd,sn,sub,ab,col,dd,k0,k1,k2,k3,k5,_,X _ _ ho,.of_isNs (W.isNs_of_in X hok),W.nsMap_none_of_in X hok hni,W.tail_of_in X ht⟩
  ·cases q
 ·cases q
noncomputable def Na (χ:DE->Addr->Prop) (C:Addr) (t:TDs):TDS:=fun ρ _=>t ρ fun rs=>Nat.ble rs.length 9 = true /\ χ ρ C
theorem Qv {X:Cx} {x:Str} {C:Addr} {B newId initId:String} {bmB:List Value} {e:Expr} {es:List Expr} {t:TDs} {np cpos pos:Pos} {χ:DE->Addr->Prop} (FB:ExcBaseFacts B newId initId bmB) (hm:X.mg x = some (.ref C)) (hC:W.excIn X.K C bmB newId = true) (hh:X.A.handled = none) (hx:XR Γ X χ)
  (ha:EA Γ X (e :: es) t) (hg:Gl X x:=by rfl) (hdb:(x == ("__debug__" : Str)) = false:=by decide) (he:starEach (e :: es) X.env = (false,eval e X.env) :: starEach es X.env:=by rfl) (hpl:(backTo cpos (starEach es X.env)).any (·.1) = false:=by rfl) :
  SD Γ X (.Raise (some (.Call (.Name x np) (e :: es) [] cpos)) none pos) (Na χ C t):=fun H₀ pn s σ H D I h=>by
 obtain ⟨ρ,o,R,Z,hZ,_⟩:=h
 obtain ⟨bm,N,nm,q,bs,hdct,sn,sub,ab,col,dd,k0,k1,k2,k3,k5,mN,hC',hN,hni,T⟩:=Q0 I.ok.mod.kin hC
 refine wpAny_Raise_call_subT (C:=C) (nm:=nm) (q:=q) (N:=N) (bs:=bs) (bm:=bm) (hdct:=hdct) (sn:=sn) (sub:=sub) (ab:=ab) (col:=col) (dd:=dd) (k0:=k0) (k1:=k1) (k2:=k2) (k3:=k3) (k5:=k5)
  FB (mN:=mN) (T.hasType FB.hasBase) hh (by rw [he]; show (false || (backTo cpos (starEach es X.env)).any (·.1)) = false; rw [hpl]; rfl) hni (um I hg hm ⟨rfl,?_⟩ hdb)
 have go:=ha H₀ cpos pn s σ H (fun vs H1=>vs.length <= 9 /\ REnv X.K H₀.1 H1 σ ρ o /\ χ ρ C) I ⟨ρ,o,R,_,hZ,fun vs rs H1 s1 rvs h1=>⟨by rw [rvs.length]; exact Nat.le_of_ble_eq_true h1.1,R.to s1,h1.2⟩⟩
 rw [he] at go ⊢
 refine Calls.evalArgs_plain (wpAny_mono go (fun us s2 ⟨vs,H1,I1,r,hl,R1,c⟩=>⟨rfl,?_,I1.bk _ _ hC',hN.keeps I1.bk,T.keeps I1.bk,fun h' a mx=>hx H₀.1 H₀.2 ρ o pn σ H1 s2 a C us h' I1 R1 mx c⟩) fun _ _ y=>y)
 rw [<- r.length]
 exact Nat.le_trans hl (by decide)
end DL
namespace DL
open PySem PySem.Spec L2 L3 PySem.W PySem.Builtin PySem.Builtin.ObjectAttr PySem.Builtin.Getset_descriptor
open PyProof.Rows hiding St InstAt
section
variable {prog:Program} {w:World} {A:Around} {E:Value->Shared->Prop} {s:Shared} {K:W.Frag} {a C:Addr}
theorem Kb {R:Result->Shared->Prop} {tp:Value} (X:K.In s.heap) (T:Looks (model prog w) s.heap (typeOf (.ref a)) (.ref C)) (hm:mroIn K C (.type "object") = some true)
  (h:R (.ok (.ret (.ref C))) s):codeAny (model prog w) A (.call (.builtin "getset_descriptor.__get__") ⟨[.builtin "object.__class__", .ref a,tp],[]⟩) R s:=by
 obtain ⟨hh,g,dr,t,os⟩:=s
 have L0:=T
 have L1:=looks_mroIn (M:=model prog w) X hm
 refine codeAny_call_builtin KF.slot_gs.plain KF.entry_gs (KF.slot_gs.check _ _ _ _ _ _ _ _ KF.type_class (KF.args_gs _ _ _) ?_)
 unfold Builtin.«getset_descriptor.__get__» descrGet
 rw [dga_obj]
 refine wpAny_bind (wpAny_pure ?_)
 unfold descrGetter descrCheckInstance descrNameAndClass isInstance
 simp only [KF.owner_class]
 repeat lk
 refine ⟨Code.quiet_builtin _ (by decide +kernel),codeAny_builtin KF.entry_class ?_⟩
 unfold Builtin.«object.__class__» shownTypeOf
 repeat lk
 exact h
structure Yi (K:W.Frag) (C:Addr):Prop where
 ga:findIn K (.ref C) "__getattribute__" = some (some (.builtin "BaseException.__getattribute__"))
 hk:findIn K (.ref C) "__getattr__" = some none
 ha:findIn K (.ref C) "__class__" = some (some (.builtin "object.__class__"))
 hn:specialIn K (.builtin "object.__class__") "__get__" = some (some (.builtin "getset_descriptor.__get__"))
 htk:takesIn K (.builtin "object.__class__") = some true
 hm:mroIn K C (.type "object") = some true
 hb:subIn K (.ref C) (.type "BaseException") = some true
 hd:hasDictIn K C = true
theorem Rc {Q:Option Value->Shared->Prop} (Y:Yi K C) (X:K.In s.heap) (T:Looks (model prog w) s.heap (typeOf (.ref a)) (.ref C)) (h:Q (some (.ref C)) { s with toks:=s.toks + 1 }):wpAny (model prog w) A (getAttr? (.ref a) "__class__") Q E s:=by
 obtain ⟨hh,g,d,t,os⟩:=s
 have L0:=T
 have L1:=looks_findIn (M:=model prog w) X Y.ga
 have L2:=looks_findIn (M:=model prog w) X Y.hk
 have L3:=looks_findIn (M:=model prog w) X Y.ha
 have L4:=looks_specialIn (M:=model prog w) X Y.hn
 have L5:=looks_takesIn (M:=model prog w) X Y.htk
 have L6:=looks_subIn (M:=model prog w) X Y.hb
 have LF:Looks (model prog w) hh (find (.ref a) (.ref C) "__class__") (.bind (.builtin "getset_descriptor.__get__") (.builtin "object.__class__")) :=
  L3.andThen ((show Looks (model prog w) hh (getOf (some (.builtin "object.__class__"))) (some (.builtin "getset_descriptor.__get__")) from L4).andThen ((show Looks (model prog w) hh (dataDescriptor? (some (.builtin "object.__class__")) (some (.builtin "getset_descriptor.__get__"))) (some (.builtin "getset_descriptor.__get__", .builtin "object.__class__")) from L5.andThen .now).andThen (Looks.tag .now)))
 have hx2:(Value.builtin "BaseException.__getattribute__" == Value.builtin "object.__getattribute__") = false:=by decide +kernel
 unfold getAttr? getAttrBy? getAttrBy
 refine wpAny_bind (wpAny_mkText (wpAny_bind (wpAny_attempt (wpAny_holding (wpAny_bind (L0.at (wpAny_bind (L1.at ?_))))))))
 dsimp only
 rw [hx2,Bool.and_false,if_neg Bool.false_ne_true]
 unfold getAttrByItsOwn hookBefore
 rw [if_pos (show onTheHeap (Value.ref C) = true from rfl)]
 refine wpAny_bind (L2.at ?_)
 refine wpAny_bind (wpAny_attempt (wpAny_holding ?_))
 unfold callGetattribute boundAndCalled
 rw [Bool.false_and,if_neg Bool.false_ne_true]
 refine wpAny_bind (wpAny_of_eq (PySem.F.attr_ValueError.ga.bind (.ref a)) ?_)
 dsimp only
 refine wpAny_call (codeAny_call_builtin PySem.F.attr_ValueError.ga.plain PySem.F.entry_bexc_ga ?_)
 have hkd:builtinKind "BaseException.__getattribute__" = some .slot:=by decide +kernel
 have hsplit:splitId "BaseException.__getattribute__" = some ("BaseException", "__getattribute__"):=by decide +kernel
 have LI:Looks (model prog w) hh (isInstance (.ref a) (.type "BaseException")) true:=L0.andThen L6
 have hga:=PySem.F.args_bexc_ga (.ref a) (.str "__class__" t)
 have body:wpAny (model prog w) A.in1 (Builtin.«object.__getattribute__» ⟨[.ref a,.str "__class__" t],[]⟩) (fun fin s'=>match fin with | .done (.ret v)=>v = .ref C /\ s' = ⟨hh,g,d,t + 1,os⟩ | _=>False) (fun _ _=>False) ⟨hh,g,d,t + 1,os⟩:=by
  unfold Builtin.«object.__getattribute__» slotArgs
  (repeat (first | (refine wpAny_bind (wpAny_holding (wpAny_call (Kb X T Y.hm ?_)))) | lk))
  exact ⟨rfl,rfl⟩
 simp only [checkBuiltinCall,hkd,hsplit]
 refine wpAny_bind (LI.at ?_)
 rw [if_neg (by decide)]
 refine wpAny_of_eq (a:=()) hga (wpAny_mono body (fun fin s' z=>?_) fun _ _ z=>z.elim)
 rcases fin with (_ | _ | _ | v) | _ <;> first | exact z.elim | skip
 obtain ⟨rfl,rfl⟩:=z
 exact wpAny_pure (wpAny_pure h)
end
end DL
namespace DL
open PySem PySem.Spec L2 L3
open PyProof.Rows hiding St
variable {Γ:Hp->Prop}
theorem Ws {K:W.Frag} {a C:Addr} (Y:Yi K C):W.KitX K (.ref a) (.ref C) (fun h=>∃ o,h.get? a = some o /\ o.cls = .ref C /\ W.notCls o = true) where
 ty:=fun _ _ _ p=>by
  obtain ⟨o,h1,h2,_⟩:=p
  exact h2 ▸ (W.Looks.ld h1).andThen .now
 it:=fun _ _ X _=>by
  obtain ⟨cdD,hcD,_⟩:=W.any_some Y.hd
  unfold W.clsIn at hcD
  split at hcD
  ·rename_i c' d' cd' sl' ho
   intro A' Q' E' s' k q
   unfold isType loadHead
   exact wpAny_bind (wpAny_loadPart (k _ _ (X _ _ ho)) (wpAny_pure q))
  ·cases hcD
 ne:=fun h tp dd its n sl X htp=>by
  obtain ⟨cdD,hcD,_⟩:=W.any_some Y.hd
  refine Bool.eq_false_iff.mpr fun q=>?_
  have e:C = tp:=Value.ref.inj (beq_iff_eq.mp q)
  subst e
  unfold W.clsIn at hcD
  split at hcD
  ·rename_i c' d' cd' sl' ho
   have z:=(X _ _ ho).symm.trans htp
   cases z
  ·cases hcD
 ca:=fun {prog w A E Q s} X p k=>by
  obtain ⟨o,h1,h2,_⟩:=p
  exact Rc Y X (h2 ▸ (W.Looks.ld h1).andThen .now) k
section
variable {X:Cx} {p np pos:Pos} {e:Expr} {te:TD} {c:Str} {C0:Addr}
theorem Nh (hm:X.mg c = some (.ref C0)) (hg:Gl X c:=by rfl) (hd:(c == ("__debug__" : Str)) = false:=by decide):PE X (.Name c np) (fun σ H Q=>Q (.ref C0) H):=fun pn s σ H Q I h=>um I hg hm ⟨.ref C0,H,I,rfl,h⟩ hd
theorem Ve:u0 X (.builtin "isinstance") (fun xs H Q=>∃ a C y z b,xs = [.ref a,y] /\ (∀ u,RelV y u->u = z) /\ H a = some (ExcO a C) /\ W.kitOne X.K (.ref C) z = some b /\ Yi X.K C /\ Q (.bl b) H):=by
 intro pn s σ H xs us Q I r h
 obtain ⟨a,C,y,z,b,rfl,hz,hH,ek,Y,q⟩:=h
 obtain ⟨u,v,rfl,ru,rv⟩:=Qf r
 cases (show u = Value.ref a from ru)
 have:=hz v rv
 subst this
 have ob:=I.hok a _ hH
 exact W.kia_one (Ws Y) I.kIn ob.1 ek (fun z=>nomatch z) fun tk=>⟨.bl b,H,I.tok tk,rfl,q⟩
noncomputable def dIsE (K:W.Frag) (z:Value) (te:TD):TD:=fun ρ φ=>te ρ fun r=>match r.d with
 | .exc C=>∃ b,W.kitOne K (.ref C) z = some b /\ Yi K C /\ φ (dv (.bl b))
 | _=>False
theorem Wp {t:TA} {y:V} {z:Value} {H₀:Hp} (hz:∀ u,RelV y u->u = z) (ht:∀ σ H Q,vc X.K H₀ te σ H (fun v H1=>Q [v,y] H1)->t σ H Q) :
  ∀ σ H Q,vc X.K H₀ (dIsE X.K z te) σ H Q->tCB (fun xs H Q=>∃ a C y z b,xs = [.ref a,y] /\ (∀ u,RelV y u->u = z) /\ H a = some (ExcO a C) /\ W.kitOne X.K (.ref C) z = some b /\ Yi X.K C /\ Q (.bl b) H) t σ H Q:=fun σ H Q q=>by
 obtain ⟨ρ,o,R,φ,hφ,kk⟩:=q
 refine ht σ H _ ⟨ρ,o,R,_,hφ,fun v r H1 s1 rv h1=>?_⟩
 have vw:=rv.view
 split at h1
 ·rename_i C hd
  rw [hd] at vw
  obtain ⟨b,ek,Y,h2⟩:=h1
  obtain ⟨a,rfl,hH,_⟩:=vw
  exact ⟨a,C,y,z,b,rfl,hz,hH,ek,Y,kk _ _ H1 s1 (by exact rfl) h2⟩
 ·exact h1.elim
theorem Oi {K0:W.Frag} (hK:X.K = K0) (hi:X.mg "isinstance" = none) (hc:X.mg c = some (.ref C0)) (he:ED Γ X e te) (hg:Gl X "isinstance":=by rfl) (hg2:Gl X c:=by rfl) (hd:(c == ("__debug__" : Str)) = false:=by decide)
  (hs:starEach [e,.Name c np] X.env = (false,eval e X.env) :: starEach [.Name c np] X.env:=by rfl) (hpl:(backTo pos (starEach [.Name c np] X.env)).any (·.1) = false:=by rfl):ED Γ X (.Call (.Name "isinstance" p) [e,.Name c np] [] pos) (dIsE K0 (.ref C0) te):=fun H₀=>by
 subst hK
 exact impE (qu Ve hg hi xf (xi (he H₀) (xi (Nh hc hg2 hd) t0) hs) (by decide) (by decide) hs hpl) (Wp (y:=.ref C0) (fun u h=>h) fun σ H Q q=>by
  obtain ⟨ρ,o,R,φ,hφ,kk⟩:=q
  exact ⟨ρ,o,R,φ,hφ,kk⟩)
end
theorem Wv {X:Cx} {pn pins' pn':List (Addr × Obj)} {σ:St} {H:Hp} {s:Shared} {A':Around} {calm':Bool} {xe':Value->Shared->Prop} (I:Inv X pn σ H s) (hfr:A'.frames = X.A.frames) (hc:calm' = true->A'.handled = none) (hp:∀ p ∈ pn' ++ pins',p ∈ X.pn ++ pn) :
  Inv { X with A:=A',calm:=calm',pn:=pn',xe:=xe' } pins' σ H s :=
 ⟨⟨I.ok.mod,I.ok.kind,I.ok.glob,I.ok.blt,I.ok.above,I.ok.inj,I.ok.has,I.ok.cab,hc,hfr.trans I.ok.frames,I.ok.stk,I.ok.exf,I.ok.bs,I.ok.bsz,I.ok.noex,I.ok.exfs,I.ok.funs,I.ok.frf⟩,
  I.os,I.bare,I.base,I.loc,I.cell,I.free,I.freeC,fun p h=>I.pin p (hp p h),I.hok,I.len⟩
noncomputable abbrev Xtry (X:Cx) (pn:List (Addr × Obj)) (xe:Value->Shared->Prop):Cx:={ X with pn:=pn,xe:=xe }
noncomputable abbrev Xhan (X:Cx) (a:Addr):Cx:={ X with A:=X.A.mark (some (.ref a)),calm:=false,xe:=fun _ _=>False }
noncomputable def hanZ (j:Nat) (Z:DZ):DZ:={ nx:=fun ρ=>Z.nx (clrS ρ j),rt:=Z.rt,bk:=fun ρ=>Z.bk (clrS ρ j),ct:=fun ρ=>Z.ct (clrS ρ j) }
noncomputable def sTry (K:W.Frag) (C0:Addr) (j:Nat) (tb:(DE->Addr->Prop)->TDS) (ts:TDS):TDS:=fun ρ Z =>
 tb (fun ρ' C=>W.exmOne K (.ref C) (.ref C0) = some true /\ ts (setS ρ' j (dv (.exc C))) (hanZ j Z)) (frzE ρ) Z
theorem Xg {P:Program} {w:World} {outer:List Env} {H H':Hp} {h h2 B:Heap} {a C:Addr} {t:Value} (F:FlyB P w outer H h H' B h2) (fl:Heap.FlyingW B outer a (.ref C) t h2) (hf:∀ b ∈ frs outer,H' b = none) :
  H' a = none /\ Un (frs outer) [] H (upd H' a (ExcO a C)) h h2 /\ HOk P w (upd H' a (ExcO a C)) h2:=by
 obtain ⟨oe,vs,hoe,hcl,hd,_⟩:=fl.first
 have nfr:a ∉ frs outer:=fun z=>by
  obtain ⟨_,o',e2,nf⟩:=fl.2.2.1.mem z
  rw [hoe] at e2
  cases e2
  exact nf vs hd
 have nB:=fl.2.1
 have na:H' a = none:=by
  cases e:H' a with
  | none=>rfl
  | some u =>
   have:=F.cov a oe hoe nfr (.inl (by rw [e]; exact fun z=>nomatch z))
   rw [nB] at this
   cases this
 have nh:∀ o,h.get? a ≠ some o:=fun o q=>by
  have:=F.cov a oe hoe nfr (.inr ⟨o,q⟩)
  rw [nB] at this
  cases this
 refine ⟨na,⟨F.un.keep,F.un.slot,fun b o q n hx=>?_,F.un.there,fun b xs q=>?_,fun b o u q=>?_,fun b ps q=>?_⟩,fun b u e=>?_⟩
 ·rw [zj (fun z=>nh o (by rw [<- z]; exact q))]
  exact F.un.free b o q n hx
 ·have:=F.un.tups b xs q
  rw [zj (ze this na)]
  exact this
 ·have:=F.un.frzs b o u q
  rw [zj (ze this na)]
  exact this
 ·obtain ⟨m,this⟩:=F.un.tbls b ps q
  exact ⟨m,by rw [zj (ze this na)]; exact this⟩
 ·by_cases hb:b = a
  ·subst hb
   rw [zk] at e
   cases e
   refine ⟨⟨oe,hoe,hcl,by unfold W.notCls; rw [hd]⟩,⟨oe,hoe⟩,fun h1 h2 ⟨o,q1,q2⟩ k=>⟨o,k o q1,q2⟩⟩
  ·rw [zj hb] at e
   exact (F.hok b u e).stay (fun _ _ _ q=>q) (fun c q=>by rw [zj (ze q na)]; exact q) fun c xs q=>by rw [zj (ze q na)]; exact q
theorem Jw {X:Cx} {K0:W.Frag} (hK:X.K = K0) (j:Nat) {n c:Str} {C0:Addr} {body:List Stmt} {b₀:Stmt} {suite:List Stmt} {np hpos pos:Pos} {tb:(DE->Addr->Prop)->TDS} {ts:TDS} (hN:X.N.Nodup) (hm:X.mg c = some (.ref C0))
  (hb:∀ (Γ':Hp->Prop) (pn:List (Addr × Obj)) (xe:Value->Shared->Prop) (χ:DE->Addr->Prop),XP Γ' (Xtry X pn xe) χ->SDs Γ' (Xtry X pn xe) body (tb χ))
  (hs:∀ a,SDs Γ (Xhan X a) (b₀ :: suite) ts) (hst:X.stack = X.env :: X.outer:=by rfl) (hfr:X.env.frame = some X.env.locals:=by rfl) (hcm:X.calm = true:=by rfl)
  (hi:X.N[j]? = some n:=by rfl) (hk:X.env.scope.names.lookup n = some .local:=by rfl) (hg:Gl X c:=by rfl) (hdb:(c == ("__debug__" : Str)) = false:=by decide) :
  SD Γ X (.Try body [.ExceptHandler (some (.Name c np)) (some n) (b₀ :: suite) hpos] [] [] pos) (sTry K0 C0 j tb ts):=fun H₀ pn s σ H D I h=>by
 subst hK
 obtain ⟨ρ,o,R,Z,hZ,k1,k2,k3,k4⟩:=h
 refine wpAny_Try_except ?_
 have hfrm:X.A.frames = some (X.env :: X.outer):=by rw [<- hst]; exact I.ok.frames
 have back:∀ {xe:Value->Shared->Prop} {σ':St} {H':Hp} {s':Shared},Inv (Xtry X (X.pn ++ pn) xe) [] σ' H' s'->Inv X pn σ' H' s':=fun {xe σ' H' s'} J =>
  Wv (X:=Xtry X (X.pn ++ pn) xe) (A':=X.A) (calm':=X.calm) (pn':=X.pn) (xe':=X.xe) J rfl (fun z=>I.ok.hd z) (fun p hp=>List.mem_append_left _ hp)
 have go:=hb (fun H'=>H' = H) (X.pn ++ pn) (fun e s₁=>wpAny (model X.prog X.w) X.A (noteFrame e X.env) (fun _ s₂=>wpAny (model X.prog X.w) X.A (setFlight e none) (fun _ s₃=>wpAny (model X.prog X.w) X.A (handleBy e X.env [.ExceptHandler (some (.Name c np)) (some n) (b₀ :: suite) hpos]) (SP X pn D) X.xe s₃) X.xe s₂) X.xe s₁)
  (fun ρ' C=>W.exmOne X.K (.ref C) (.ref C0) = some true /\ ts (setS ρ' j (dv (.exc C))) (hanZ j Z)) (fun H₀' hH ρ1 o1 pins' σ1 H1 s1 e s' J R1 hc=>?_) ⟨H,rfl⟩ [] s σ H D
  (Wv (A':=X.A) (calm':=X.calm) (pn':=X.pn ++ pn) I rfl (fun z=>I.ok.hd z) (fun p hp=>by rwa [List.append_nil] at hp))
  ⟨frzE ρ,[],R.frz,Z,hZ,fun ρ' σ' H' o' g R' q=>k1 ρ' σ' H' o' R'.gr (R'.unfrz R.same) q,fun ρ' σ' H' o' g R' q=>k2 ρ' σ' H' o' R'.gr (R'.unfrz R.same) q,fun ρ' σ' H' o' g R' q=>k3 ρ' σ' H' o' R'.gr (R'.unfrz R.same) q,
   fun v r H' sm rv q=>k4 v r H' (R.same.trans sm) (rv.start R.same) q⟩
 ·refine wpAny_mono go (fun f s1 hf=>?_) (fun e s1 he=>he)
  cases f with
  | next=>obtain ⟨σ',H',J,q⟩:=hf; exact dy pn s1 σ' H' D (back J) q
  | brk=>obtain ⟨σ',H',J,q⟩:=hf; exact ⟨σ',H',back J,q⟩
  | cont=>obtain ⟨σ',H',J,q⟩:=hf; exact ⟨σ',H',back J,q⟩
  | ret u=>obtain ⟨v,σ',H',J,rv,q⟩:=hf; exact ⟨v,σ',H',back J,rv,q⟩
 ·subst hH
  obtain ⟨a,C,t,H',B,rfl,hos,hbare,F,fl,sm,C',e',hmt,hts⟩:=hc
  cases e'
  have hf:∀ b ∈ frs X.stack,H' b = none:=fun b hb=>by
   obtain ⟨_,o,ho,_⟩:=J.stack.mem hb
   exact F.un.free b o ho (J.stkFree b hb) (fun z=>nomatch z)
  have fl':Heap.FlyingW B (X.env :: X.outer) a (.ref C) t s'.heap:=by rw [<- hst]; exact fl
  refine wpAny_looks_onW hfrm hfr fl' fun h₄ held₄ u₄=>?_
  refine wpAny_landsW held₄ fun h₅ fl₅ u₅=>?_
  have F5:FlyB X.prog X.w X.stack H1 s1.heap H' B h₅:=F.step fl₅.1 (u₄.trans u₅) fl.2.2.1 hf
  have inX:∀ {H2:Hp} {hh:Heap},Un (frs X.stack) [] H1 H2 s1.heap hh->HOk X.prog X.w H2 hh->Inv (Xhan X a) pn σ1 H2 { s' with heap:=hh }:=fun {H2 hh} un hok=>by
   have J5:=J.call' (s':={ s' with heap:=hh }) hos un hok hbare (fun b z=>absurd z (by simp))
   exact Wv (X:=Xtry X (X.pn ++ pn) _) (A':=X.A.mark (some (.ref a))) (calm':=false) (pn':=X.pn) J5 rfl (fun z=>nomatch z) (fun p hp=>List.mem_append_left _ hp)
  have J5:=inX F5.un F5.hok
  refine wpAny_handleBy_cons (codeAny_handlers_test (um (X:=Xhan X a) J5 hg hm ?_ hdb)) (by intro q; cases q)
  have LT:W.Looks (model X.prog X.w) h₅ (typeOf (.ref a)) (.ref C):=by
   obtain ⟨ob,hob,hcls⟩:=fl₅.there
   exact hcls ▸ (W.Looks.ld hob).andThen .now
  refine (W.exm_one J5.kIn LT hmt).here ?_
  refine codeAny_handlers_suite_as ?_
  refine lands_againW fl₅ fun h₆ fl₆ u₆=>?_
  have F6:FlyB X.prog X.w X.stack H1 s1.heap H' B h₆:=F5.step fl₆.1 u₆ (by rw [hst]; exact fl₅.2.2.1) hf
  obtain ⟨na,un6,ok6⟩:=Xg F6 (by rw [hst]; exact fl₆) hf
  refine uv (X:=Xhan X a) (i:=j) (v:=.ref a) (inX un6 ok6) hN hi (.inl hk) rfl (fun s7 I7=>?_) (.inr hk)
  have sm6:Same H' (upd H' a (ExcO a C)):=fun b u e=>by rw [zj (ze e na)]; exact e
  have R6:=((R1.unfrz R.same).to sm).to sm6
  have R7:=R6.setV j (d:=.exc C) (v:=.ref a) ⟨a,rfl,zk,(R1.to sm).ofree na⟩
  have gr:Grow (o.map Prod.snd) (o1.map Prod.snd) H₀' (upd H' a (ExcO a C)):=(R1.gr.trans (Grow.same sm)).trans (Grow.same sm6)
  have suite:=hs a H₀ pn s7 _ _ { nx:=fun σ2 H2=>D.nx (σ2.set j none) H2,rt:=D.rt,bk:=fun σ2 H2=>D.bk (σ2.set j none) H2,ct:=fun σ2 H2=>D.ct (σ2.set j none) H2 } I7
   ⟨_,o1,R7,hanZ j Z,hts,fun ρ' σ' H2 o' g R' q=>k1 _ _ H2 o' (gr.trans g) (R'.clr j) q,fun ρ' σ' H2 o' g R' q=>k2 _ _ H2 o' (gr.trans g) (R'.clr j) q,fun ρ' σ' H2 o' g R' q=>k3 _ _ H2 o' (gr.trans g) (R'.clr j) q,k4⟩
  have backH:∀ {σ':St} {H':Hp} {s':Shared},Inv (Xhan X a) pn σ' H' s'->Inv X pn σ' H' s':=fun {σ' H' s'} J =>
   Wv (X:=Xhan X a) (A':=X.A) (calm':=X.calm) (pn':=X.pn) (xe':=X.xe) J rfl (fun z=>I.ok.hd z) (fun p hp=>hp)
  refine wpAny_mono suite (fun f s8 hf=>?_) (fun _ _ z=>z.elim)
  cases f with
  | next=>obtain ⟨σ',H2,J8,q⟩:=hf; exact ba (X:=X) (backH J8) hN hi hk fun s9 I9=>⟨_,H2,I9,q⟩
  | brk=>obtain ⟨σ',H2,J8,q⟩:=hf; exact ba (X:=X) (backH J8) hN hi hk fun s9 I9=>⟨_,H2,I9,q⟩
  | cont=>obtain ⟨σ',H2,J8,q⟩:=hf; exact ba (X:=X) (backH J8) hN hi hk fun s9 I9=>⟨_,H2,I9,q⟩
  | ret u=>obtain ⟨v,σ',H2,J8,rv,q⟩:=hf; exact ba (X:=X) (backH J8) hN hi hk fun s9 I9=>⟨v,_,H2,I9,rv,q⟩
open PySem.Builtin.Int (intBits)
theorem cp10 {j:Int} (h0:0 <= j) (h1:j <= 1000):CPow 10 j = True:=by
 refine eq_true ⟨h0,by omega,by decide⟩
theorem Ui {k:Nat}:((10:Int) ^ k = 0) = False:=by
 refine eq_false ?_
 have:(0:Int) < 10 ^ k:=Int.pow_pos (by decide)
 omega
theorem Ra {i j:Int} (h:j ≠ 0) (h1:j.natAbs <= 1000000000000):FdOk i j = True:=eq_true (fdOk (m:=64) h (PySem.intBits_le_iff.mpr (by omega)))
theorem cutD_drop (l:List D) (k:Nat):cutD l (some (k:Int)) none = l.drop k:=by
 unfold cutD
 rw [HT.sIx_none,HT.sIx_nat]
 by_cases h:k <= l.length
 ·rw [Nat.min_eq_left h,List.take_of_length_le (by simp)]
 ·rw [Nat.min_eq_right (by omega),List.drop_of_length_le (Nat.le_refl _),List.drop_of_length_le (by omega)]
  simp
theorem Q6 {α:Type} {l:List α} {i:Int} {x:α} (h0:0 <= i) (h:l[i.toNat]? = some x):atI l i = some x:=by
 have:=br h
 rwa [Int.toNat_of_nonneg h0] at this
theorem gm (x m:Int) (h:0 < m):0 <= x.fmod m /\ x.fmod m < m:=⟨Int.fmod_nonneg_of_pos x h,Int.fmod_lt_of_pos x h⟩
theorem wy {x:Int} {m:Nat} (h:x.natAbs < 2 ^ m):intBits x <= m:=PySem.intBits_le_iff.mpr h
end DL
namespace DL
open PySem PySem.Spec L2 L3
theorem u4 {ti:TID} {g:TGD} {tb:TDS} {ρ:DE} {Z:DZ} (ds:List D) (h:∀ φ:List D->Prop,φ ds->ti ρ φ) (P:Nat->DE->Prop) (h0:P 0 ρ)
  (ht:∀ i d ρ,ds[i]? = some d->P i ρ->g d ρ fun ρ'=>tb ρ' { Z with nx:=P (i + 1),ct:=P (i + 1),bk:=Z.nx }) (hd:∀ ρ,P ds.length ρ->Z.nx ρ):sFor ti g tb ρ Z:=h _ ⟨P,h0,ht,hd⟩
theorem yh {ti:TID} {n:Nat} {js:List Nat} {g:TGD} {tc:TDb} {te:TD} {ρ:DE} {φ:EV->Prop} (ds:List D) (h:∀ ψ:List D->Prop,ψ ds->ti ρ ψ) (f:D->Option D) (hl:ds.length <= 100000)
  (ht:∀ d ∈ ds,g d (ρ0 n js ρ) fun ρ'=>tc ρ' fun c=>(c = true->te ρ' fun r=>(match r.k with | .own=>False | _=>True) /\ f d = some r.d) /\ (c = false->f d = none)) (hφ:φ (df (.lst (ds.filterMap f)))):Ry ti n js g tc te ρ φ:=h _ ⟨f,hl,ht,hφ⟩
theorem ka {lo:Int} {n i:Nat} {d:D} (h:(rngD lo n)[i]? = some d):i < n /\ d = .int (lo + (i:Int)):=by
 unfold rngD at h
 rw [List.getElem?_map] at h
 cases e:(List.range n)[i]? with
 | none=>rw [e] at h; cases h
 | some m =>
  rw [e] at h
  have hi:=(List.getElem?_eq_some_iff.mp e).1
  rw [List.length_range] at hi
  rw [List.getElem?_range hi] at e
  cases e
  cases h
  exact ⟨hi,rfl⟩
theorem v7 {lo:Int} {n:Nat}:(rngD lo n).length = n:=by unfold rngD; simp
theorem Kt {α β:Type} (f:α->β) (l:List α) (i:Int):atI (l.map f) i = (atI l i).map f:=by
 unfold atI
 rw [List.length_map]
 cases ixN l.length i with
 | none=>rfl
 | some j=>simp
end DL
namespace DL
open PySem PySem.Spec L2 L3
open PyProof.Rows hiding St
theorem xv {X:Cx} {K0:W.Frag} {es:List Expr} {k:Nat} {t:TGs} {n:Nat} {pos:Pos} (hK:X.K = K0) (hc:X.calm = true) (h:PGs X es t) (hn:(assignEach es X.env).length = n:=by rfl) (hst:(assignEach es X.env).findIdx? (·.1) = none:=by rfl):PG X (.Tuple es k pos) (gTup K0 n t):=by
 subst hK
 exact Hr hc h hn hst
theorem Oo {K:W.Frag} {C:Addr} (hd:W.hasDictIn K C = true):(W.clsIn K C).isSome = true:=by
 obtain ⟨cd,hc,_⟩:=W.any_some hd
 rw [hc]; rfl
theorem Zg {K:W.Frag} {C C0:Addr} {b:Bool} (ty:W.typeIn K (.ref C0) = some (.type "type")) (hd:W.hasDictIn K C0 = true) (h:W.subIn K (.ref C) (.ref C0) = some b):W.kitCls K (.ref C) (.ref C0) = some b:=by
 unfold W.kitCls
 dsimp only
 rw [if_pos (by rw [Oo hd,ty]; rfl)]
 exact h
theorem Fv {K:W.Frag} {C C0:Addr} {b:Bool} (hb:W.subIn K (.ref C0) (.type "BaseException") = some true) (ty:W.typeIn K (.ref C0) = some (.type "type")) (hd:W.hasDictIn K C0 = true) (h:W.subIn K (.ref C) (.ref C0) = some b):W.exmOne K (.ref C) (.ref C0) = some b:=by
 unfold W.exmOne
 rw [if_pos (by rw [hb]; rfl)]
 exact Zg ty hd h
theorem Pu {K:W.Frag} {C:Addr}:W.kitOne K (.ref C) (.ref C) = some true:=by
 unfold W.kitOne
 rw [if_pos (beq_self_eq_true _)]
theorem Yx {K:W.Frag} {C C0:Addr} {b:Bool} (hn:C ≠ C0) (ty:W.typeIn K (.ref C0) = some (.type "type")) (hd:W.hasDictIn K C0 = true) (h:W.subIn K (.ref C) (.ref C0) = some b):W.kitOne K (.ref C) (.ref C0) = some b:=by
 unfold W.kitOne
 rw [if_neg (fun z=>hn (Value.ref.inj (beq_iff_eq.mp z)))]
 exact Zg ty hd h
noncomputable abbrev excV (K:W.Frag) (C:Addr):Prop:=W.excIn K C [.type "ValueError", .type "Exception", .type "BaseException", .type "object"] "ValueError.__new__" = true
end DL
namespace DL
open PySem PySem.Spec L2 L3
open PyProof.Rows hiding St
variable {Γ:Hp->Prop}
noncomputable def zipD (xs ys:List D):List D:=List.zipWith (fun x y=>D.tup [x,y]) xs ys
noncomputable def seqD:D->Option (List D)
 | .lst ds=>some ds
 | .tup ds=>some ds
 | .scr ns=>some (ns.map D.int)
 | _=>none
theorem Qu {ds:List D}:seqD (.lst ds) = some ds:=rfl
theorem Qs {ds:List D}:seqD (.tup ds) = some ds:=rfl
theorem Qt {ns:List Int}:seqD (.scr ns) = some (ns.map D.int):=rfl
noncomputable def SeqP (b:Bool) (K:W.Frag) (H:Hp) (O:List Addr) (l:Addr) (d:D):Prop:=match d with
 | .lst ds=>b = false /\ ∃ xs,H l = some (.lst xs) /\ l ∉ O /\ Reps K H O ds xs
 | .tup ds=>b = true /\ ∃ xs,SqT K H l xs /\ Reps K H O ds xs
 | .scr ns=>b = false /\ Scr K H l ns
 | _=>False
theorem SeqP.of {K:W.Frag} {H:Hp} {O:List Addr} {d:D} {v:V} {ds:List D} (h:Rep K H O d v) (e:seqD d = some ds):∃ b l,v = .ref l /\ SeqP b K H O l d:=by
 cases d with
 | lst es=>obtain ⟨a,xs,rfl,q,n,r⟩:=h; exact ⟨false,a,rfl,rfl,xs,q,n,r⟩
 | tup es=>obtain ⟨a,xs,rfl,q,r⟩:=h; exact ⟨true,a,rfl,rfl,xs,q.1,r⟩
 | scr ns=>obtain ⟨a,rfl,q⟩:=h; exact ⟨false,a,rfl,rfl,q⟩
 | _=>cases e
theorem SeqP.sq {b:Bool} {K:W.Frag} {H:Hp} {O:List Addr} {l:Addr} {d:D} {ds:List D} (h:SeqP b K H O l d) (e:seqD d = some ds):∃ xs,SqK b K H l xs /\ Reps K H O ds xs:=by
 cases d with
 | lst es=>obtain ⟨rfl,xs,q,n,r⟩:=h; cases e; exact ⟨xs,SqL.of q,r⟩
 | tup es=>obtain ⟨rfl,xs,q,r⟩:=h; cases e; exact ⟨xs,q,r⟩
 | scr ns=>obtain ⟨rfl,q⟩:=h; cases e; exact ⟨_,q.seq,Reps.ints ns⟩
 | _=>cases e
theorem SeqP.grow {b:Bool} {K:W.Frag} {H H':Hp} {O O':List Addr} {l:Addr} {d:D} (h:SeqP b K H O l d) (g:Grow O O' H H'):SeqP b K H' O' l d:=by
 cases d with
 | lst es=>obtain ⟨rfl,xs,q,n,r⟩:=h; exact ⟨rfl,xs,(g.keep _ _ q n).1,(g.keep _ _ q n).2,Reps.grow g _ _ r⟩
 | tup es=>obtain ⟨rfl,xs,q,r⟩:=h; exact ⟨rfl,xs,d9 g q,Reps.grow g _ _ r⟩
 | scr ns=>obtain ⟨rfl,q⟩:=h; exact ⟨rfl,qt g q⟩
 | _=>exact h.elim
section
variable {X:Cx} {pn:List (Addr × Obj)} {σ:St} {H:Hp} {s:Shared}
theorem Ff {K:W.Frag} {b1 b2:Bool} {l1 l2:Addr} {d1 d2:D} {xs ys:List D} (e1:seqD d1 = some xs) (e2:seqD d2 = some ys):ItD K (Itz b1 b2 K l1 l2) (zipD xs ys) (fun H O=>SeqP b1 K H O l1 d1 /\ SeqP b2 K H O l2 d2) where
 go:=fun H O i d ⟨p1,p2⟩ e=>by
  obtain ⟨us,q1,r1⟩:=p1.sq e1
  obtain ⟨vs,q2,r2⟩:=p2.sq e2
  unfold zipD at e
  rw [List.getElem?_zipWith] at e
  cases ex:xs[i]? with
  | none=>rw [ex] at e; cases e
  | some x =>
   cases ey:ys[i]? with
   | none=>rw [ex,ey] at e; cases e
   | some y =>
    rw [ex,ey] at e
    cases e
    obtain ⟨u,eu,ru⟩:=r1.get ex
    obtain ⟨v,ev,rv⟩:=r2.get ey
    refine ⟨⟨us,vs,u,v,q1,q2,eu,ev⟩,fun z H' yl=>?_⟩
    obtain ⟨T,u',v',hT,rfl,eu',ev',rfl⟩:=yl
    have eu':=eu' _ q1
    have ev':=ev' _ q2
    rw [eu] at eu'
    rw [ev] at ev'
    cases eu'
    cases ev'
    have sm:Same H (upd H T (.tup [u,v])):=fun b w hb=>by rw [zj (ze hb hT)]; exact hb
    refine ⟨sm,T,[u,v],rfl,⟨.inl (.inl zk),zk⟩,?_⟩
    exact ⟨u,[v],rfl,Rep.grow (Grow.same sm) _ _ ru,v,[],rfl,Rep.grow (Grow.same sm) _ _ rv,rfl⟩
 stop:=fun H O ⟨p1,p2⟩=>by
  obtain ⟨us,q1,r1⟩:=p1.sq e1
  obtain ⟨vs,q2,r2⟩:=p2.sq e2
  refine ⟨us,vs,q1,q2,?_⟩
  have h1:=r1.length
  have h2:=r2.length
  unfold zipD
  rw [List.length_zipWith,h1,h2]
  omega
 keep:=fun O O' H H' ⟨p1,p2⟩ g=>⟨p1.grow g,p2.grow g⟩
noncomputable def iZ (t:TDs):TID:=fun ρ φ=>t ρ fun rs=>match rs with
 | [⟨k1,d1⟩,⟨k2,d2⟩]=>(match k1 with | .own=>False | _=>True) /\ (match k2 with | .own=>False | _=>True) /\ match seqD d1,seqD d2 with
  | some xs,some ys=>φ (zipD xs ys)
  | _,_=>False
 | _=>False
theorem Y1 {es:List Expr} {kk:Nat} {tp:Pos} {a b:Expr} {t:TDs} {p pos:Pos} (hm:X.mg "zip" = none) (ha:EA Γ X [a,b] t) (hg:Gl X "zip":=by rfl)
  (he:starEach [a,b] X.env = (false,eval a X.env) :: starEach [b] X.env:=by rfl) (hpl:(backTo pos (starEach [b] X.env)).any (·.1) = false:=by rfl):EI Γ X (.Tuple es kk tp) (.Call (.Name "zip" p) [a,b] [] pos) (iZ t):=fun H₀=>impI (Hq hg hm (ha H₀) he hpl) fun σ H R q=>by
 obtain ⟨ρ,o,RE,φ,hφ,k⟩:=q
 refine ⟨ρ,o,RE,_,hφ,fun vs rs H1 s1 rvs h1=>?_⟩
 split at h1
 ·rename_i k1 d1 k2 d2
  obtain ⟨n1,n2,h1⟩:=h1
  obtain ⟨v1,w1,rfl,q1,v2,w2,rfl,q2,rfl⟩:=rvs
  have p1:=q1.solid (wv n1)
  have p2:=q2.solid (wv n2)
  split at h1
  ·rename_i xs ys e1 e2
   obtain ⟨b1,l1,rfl,z1⟩:=SeqP.of p1 e1
   obtain ⟨b2,l2,rfl,z2⟩:=SeqP.of p2 e2
   obtain ⟨us,y1,_⟩:=z1.sq e1
   obtain ⟨ws,y2,_⟩:=z2.sq e2
   exact ⟨b1,b2,l1,l2,us,ws,rfl,y1,y2,k _ _ _ H1 s1 (Ff e1 e2) ⟨z1,z2⟩ h1⟩
  ·exact h1.elim
 ·exact h1.elim
theorem Sj:∀ {ns:List Int} {its:List Value},Vals (ns.map V.int) its->∃ xs:List (Int × Tok),its = xs.map (fun p=>Value.int p.1 p.2) /\ xs.map (·.1) = ns
 | [],_,h=>by cases h; exact ⟨[],rfl,rfl⟩
 | n :: ns,_,h=>by
  cases h with
  | cons r t =>
   obtain ⟨xs,e1,e2⟩:=Sj t
   obtain ⟨tk,rfl⟩:=r
   exact ⟨(n,tk) :: xs,by rw [e1]; rfl,by rw [<- e2]; rfl⟩
theorem Q2 (hc:X.calm = true):u0 X (.builtin "sum") (fun xs H Q=>∃ (p:Addr) (ns:List Int),xs = [.ref p] /\ SqL X.K H p (ns.map V.int) /\ Q (.int ns.sum) H):=by
 intro pn s σ H xs us Q I r h
 obtain ⟨p,ns,rfl,hq,q⟩:=h
 obtain ⟨u,rfl,rx⟩:=bx r
 cases rx
 obtain ⟨its,rv,pl,hz⟩:=I.list hq
 obtain ⟨xs,e1,e2⟩:=Sj rv
 have hl:s.heap.IsList p (intItems xs.toArray):=by
  have:=pl.isList
  rw [e1] at this
  unfold intItems
  simpa using this
 refine sum_intListG (I.ok.hd hc) hl fun h' tk t' hk=>?_
 rw [preSum_eq,List.take_of_length_le (by simp)]
 rw [show xs.toArray.toList.map (·.1) = ns from e2]
 exact ⟨.int ns.sum,H,I.kept (t':=tk) hk,⟨t',rfl⟩,q⟩
noncomputable def rb:List D->Option (List Int)
 | []=>some []
 | .int n :: r=>(rb r).map (n :: ·)
 | _ :: _=>none
theorem Ww:∀ {ds:List D} {ns:List Int},rb ds = some ns->ds = ns.map D.int
 | [],ns,h=>by cases h; rfl
 | d :: r,ns,h=>by
  cases d with
  | int n =>
   cases e:rb r with
   | none=>unfold rb at h; rw [e] at h; cases h
   | some ms =>
    unfold rb at h
    rw [e] at h
    cases h
    rw [Ww e]
    rfl
  | _=>cases h
theorem ve:∀ (ns:List Int),rb (ns.map D.int) = some ns
 | []=>rfl
 | n :: ns=>by rw [List.map_cons,rb,ve ns]; rfl
theorem u5 {K:W.Frag} {H:Hp} {O:List Addr}:∀ {ns:List Int} {xs:List V},Reps K H O (ns.map D.int) xs->xs = ns.map V.int
 | [],_,h=>h
 | n :: ns,xs,h=>by
  obtain ⟨v,r,rfl,q,t⟩:=h
  rw [u5 t]
  cases (show v = _ from q)
  rfl
noncomputable def sSum:FT:=fun ds φ=>match ds with
 | [.lst l]=>match rb l with
  | some ns=>φ (dv (.int ns.sum))
  | none=>False
 | _=>False
theorem Kh {e:Expr} {es:List Expr} {t:TDs} {p pos:Pos} (hm:X.mg "sum" = none) (ha:EA Γ X (e :: es) t) (hc:X.calm = true:=by rfl) (hg:Gl X "sum":=by rfl) (he:starEach (e :: es) X.env = (false,eval e X.env) :: starEach es X.env:=by rfl) (hpl:(backTo pos (starEach es X.env)).any (·.1) = false:=by rfl):ED Γ X (.Call (.Name "sum" p) (e :: es) [] pos) (dCB sSum t) :=
 tz (Q2 hc) (fun H O ds vs φ Q ho hv h k=>by
  unfold sSum at h
  split at h
  ·rename_i l
   split at h
   ·rename_i ns en
    obtain ⟨v,ws,rfl,⟨a,xs,rfl,q,r⟩,rfl⟩:=hv
    have el:=Ww en
    subst el
    have:=u5 r
    subst this
    exact ⟨a,ns,rfl,SqL.of q,k _ _ H (Same.refl H) (by exact rfl) h⟩
   ·exact h.elim
  ·exact h.elim) hm (by kernel_rfl) ha hg (by decide) (by decide) he hpl
end
noncomputable def frzS:DE->Nat->DE
 | [],_=>[]
 | x :: r,0=>x.map (fun r=>dv r.d) :: r
 | x :: r,i + 1=>x :: frzS r i
theorem V2:∀ (ρ:DE) (i j:Nat),(frzS ρ i)[j]? = if j = i then ρ[j]?.map (fun x=>x.map fun r=>dv r.d) else ρ[j]?
 | [],i,j=>by simp [frzS]
 | x :: r,0,0=>rfl
 | x :: r,0,j + 1=>by simp [frzS]
 | x :: r,i + 1,0=>by simp [frzS]
 | x :: r,i + 1,j + 1=>by
  have:=V2 r i j
  simp only [frzS,List.getElem?_cons_succ,this]
  by_cases h:j = i
  ·simp [h]
  ·rw [if_neg h,if_neg (by omega)]
theorem V1:∀ (ρ:DE) (i:Nat),(frzS ρ i).length = ρ.length
 | [],_=>rfl
 | _ :: _,0=>rfl
 | x :: r,i + 1=>by simp [frzS,V1 r i]
theorem REnv.frz1 {K:W.Frag} {H₀ H:Hp} {σ:St} {ρ:DE} {o:List (Nat × Addr)} (R:REnv K H₀ H σ ρ o) (i:Nat):∃ o',REnv K H₀ H σ (frzS ρ i) o' /\ ∀ p ∈ o',p ∈ o:=by
 refine ⟨o.filter fun p=>decide (p.1 ≠ i),?_,fun p hp=>(List.mem_filter.mp hp).1⟩
 have sub:∀ p ∈ o.filter (fun p=>decide (p.1 ≠ i)),p ∈ o:=fun p hp=>(List.mem_filter.mp hp).1
 have subA:∀ a ∈ (o.filter (fun p=>decide (p.1 ≠ i))).map Prod.snd,a ∈ o.map Prod.snd:=fun a ha=>by
  obtain ⟨p,hp,e⟩:=List.mem_map.mp ha
  exact List.mem_map.mpr ⟨p,sub p hp,e⟩
 exact {
  same:=R.same
  fresh:=fun p hp=>R.fresh p (sub p hp)
  trk:=fun p hp=>R.trk p (sub p hp)
  mtb:=fun p hp=>R.mtb p (sub p hp)
  nda:=List.Nodup.sublist (List.Sublist.map _ List.filter_sublist) R.nda
  len:=by rw [V1]; exact R.len
  slots:=fun j r e=>by
   rw [V2] at e
   by_cases hj:j = i
   ·rw [if_pos hj] at e
    cases e1:ρ[j]? with
    | none=>rw [e1] at e; cases e
    | some x =>
     rw [e1] at e
     cases x with
     | none=>cases e
     | some r' =>
      have e':some (dv r'.d) = some r:=Option.some.inj e
      cases e'
      obtain ⟨v,ev,q⟩:=R.slots j r' e1
      refine ⟨v,ev,.inl ⟨rfl,?_⟩⟩
      rcases q with ⟨_,q⟩ | ⟨_,a,rfl,m,c⟩
      ·exact Rep.sub subA _ _ q
      ·refine (c.sub subA).rep fun z=>?_
       obtain ⟨p,hp,ep⟩:=List.mem_map.mp z
       have:=X9 R.nda (sub p hp) m ep
       have hne:=of_decide_eq_true (List.mem_filter.mp hp).2
       rw [this] at hne
       exact hne hj
   ·rw [if_neg hj] at e
    obtain ⟨v,ev,q⟩:=R.slots j r e
    refine ⟨v,ev,?_⟩
    rcases q with ⟨k,q⟩ | ⟨k,a,e1,m,c⟩
    ·exact .inl ⟨k,Rep.sub subA _ _ q⟩
    ·exact .inr ⟨k,a,e1,List.mem_filter.mpr ⟨m,decide_eq_true hj⟩,c.sub subA⟩ }
noncomputable def sFrz (i:Nat) (t:TDS):TDS:=fun ρ Z=>t (frzS ρ i) Z
theorem k8 (i:Nat) {X:Cx} {st:Stmt} {t:TDS} (h:SD Γ X st t):SD Γ X st (sFrz i t):=fun H₀=>impS (h H₀) fun D σ H h=>by
 obtain ⟨ρ,o,R,Z,hZ,k1,k2,k3,k4⟩:=h
 obtain ⟨o',R',sub⟩:=R.frz1 i
 have g:Grow (o.map Prod.snd) (o'.map Prod.snd) H H:=⟨fun b u h n=>⟨h,fun z=>n (by
  obtain ⟨p,hp,e⟩:=List.mem_map.mp z
  exact List.mem_map.mpr ⟨p,sub p hp,e⟩)⟩,fun b xs h=>h,fun b ob u h=>h⟩
 exact ⟨_,o',R',Z,hZ,fun ρ2 σ2 H2 o2 g2 R2 q2=>k1 ρ2 σ2 H2 o2 (g.trans g2) R2 q2,fun ρ2 σ2 H2 o2 g2 R2 q2=>k2 ρ2 σ2 H2 o2 (g.trans g2) R2 q2,fun ρ2 σ2 H2 o2 g2 R2 q2=>k3 ρ2 σ2 H2 o2 (g.trans g2) R2 q2,k4⟩
section
variable {X:Cx} {p np pos:Pos} {e:Expr} {te:TD} {c:Str} {T:String}
theorem Hs (hm:X.mg c = none) (hv:bootBuiltins c = some (.type T)) (hg:Gl X c:=by rfl) (hn:c ≠ "__name__":=by decide) (hd:(c == ("__debug__" : Str)) = false:=by decide):PE X (.Name c np) (fun σ H Q=>Q (.ty T) H):=fun pn s σ H Q I h=>j4 I hg hm hv ⟨.ty T,H,I,rfl,h⟩ hn hd
theorem Rj {K0:W.Frag} (hK:X.K = K0) (hi:X.mg "isinstance" = none) (hc:X.mg c = none) (hv:bootBuiltins c = some (.type T)) (he:ED Γ X e te) (hg:Gl X "isinstance":=by rfl) (hg2:Gl X c:=by rfl) (hn:c ≠ "__name__":=by decide) (hd:(c == ("__debug__" : Str)) = false:=by decide)
  (hs:starEach [e,.Name c np] X.env = (false,eval e X.env) :: starEach [.Name c np] X.env:=by rfl) (hpl:(backTo pos (starEach [.Name c np] X.env)).any (·.1) = false:=by rfl):ED Γ X (.Call (.Name "isinstance" p) [e,.Name c np] [] pos) (dIsE K0 (.type T) te):=fun H₀=>by
 subst hK
 exact impE (qu Ve hg hi xf (xi (he H₀) (xi (Hs hc hv hg2 hn hd) t0) hs) (by decide) (by decide) hs hpl) (Wp (y:=.ty T) (fun u h=>h) fun σ H Q q=>by
  obtain ⟨ρ,o,R,φ,hφ,kk⟩:=q
  exact ⟨ρ,o,R,φ,hφ,kk⟩)
end
section
variable {X:Cx} {x:Str} {e ke:Expr} {te tk:TD} {np pos pos':Pos}
noncomputable def T6 (i:Nat) (tk te:TD):TDS:=fun ρ Z=>match slot ρ i with
 | some ⟨.own,.lst ds⟩=>te ρ fun r=>tk ρ fun kr=>(match r.k with | .own=>False | _=>True) /\ (match kr.d with
  | .int k=>(match ixN ds.length k with
   | some j=>Z.nx (setS ρ i (dO (.lst (ds.set j r.d))))
   | none=>False)
  | _=>False)
 | _=>False
theorem T3 (i:Nat) (hu:X.A.units + 64 < cLine) (hk:ED Γ X ke tk) (he:ED Γ X e te) (hN:X.N[i]? = some x:=by rfl) (hv:Vis X.env.scope x:=by first | exact Or.inl rfl | exact Or.inr (Or.inl rfl) | exact Or.inr (Or.inr rfl)) (hd:(x == ("__debug__" : Str)) = false:=by decide)
  (hcd:(x == ("__classdict__" : Str)) = false:=by decide) (hs:swapsWithSole [.Subscript (.Name x np) ke pos'] e pos.line X.env = pure false:=by rfl) (hw:swappedStores [.Subscript (.Name x np) ke pos'] e X.env = pure none:=by rfl)
  (h1:(assignEach [.Subscript (.Name x np) ke pos'] X.env).map (·.2) = [assign (.Subscript (.Name x np) ke pos') X.env]:=by rfl)
  (ha:∀ v,assign (.Subscript (.Name x np) ke pos') X.env v = (do
   let ov <- holding [v] (eval (.Name x np) X.env)
   let iv <- holding [v,ov] (eval ke X.env)
   standAt pos'
   holding [v,ov,iv] (setItem ov iv v)
   release [v,ov,iv] []):=by intro _; rfl):SD Γ X (.Assign [.Subscript (.Name x np) ke pos'] e pos) (T6 i tk te):=fun H₀ =>
 impS (Tg (he H₀) (Nd (Zb hN hv hd hcd) (hk H₀) W7 ha) hs hw h1) fun D σ H h=>by
  obtain ⟨ρ,o,R,Z,hZ,k1,k2,k3,k4⟩:=h
  unfold T6 at hZ
  split at hZ
  ·rename_i ds es
   obtain ⟨v0,ev0,q0⟩:=R.slots i _ (wd es)
   rcases q0 with ⟨k,_⟩ | ⟨_,a,rfl,m,c⟩
   ·cases k
   obtain ⟨xs,hx,rx⟩:=c
   refine ⟨ρ,o,R,_,hZ,fun v r H1 s1 rv h1=>⟨.ref a,ev0,ρ,o,R.to s1,_,h1,fun v2 r2 H2 s2 rv2 h2=>?_⟩⟩
   obtain ⟨h0,h2⟩:=h2
   have vw:=rv2.view
   split at h2
   ·rename_i k ek
    rw [ek] at vw
    cases (show v2 = _ from vw)
    split at h2
    ·rename_i j ej
     have s12:=s1.trans s2
     have hx2:=s12 _ _ hx
     have rx2:=Reps.grow (Grow.same s12) _ _ rx
     refine ⟨a,xs,k,j,rfl,rfl,hx2,by rw [rx.length]; exact ej,?_⟩
     obtain ⟨R3,g3⟩:=(R.to s12).chg (d':=.lst (ds.set j r.d)) (ho:=.lst (xs.set j v)) (wd es) ev0 m ⟨fun _ z=>(by cases z),fun _ _ z=>(by cases z)⟩ fun gr =>
      ⟨xs.set j v,zk,gr _ _ (rx2.set j ((rv.same s2).solid (wv h0)))⟩
     exact k1 _ σ _ o ((Grow.same s12).trans g3) R3 h2
    ·exact h2.elim
   ·exact h2.elim
  ·exact hZ.elim
end
noncomputable def blsD:List D->Option (List Bool)
 | []=>some []
 | .bl b :: r=>(blsD r).map (b :: ·)
 | _ :: _=>none
theorem Q5:∀ {ds:List D} {bs:List Bool},blsD ds = some bs->ds = bs.map D.bl
 | [],bs,h=>by cases h; rfl
 | d :: r,bs,h=>by
  cases d with
  | bl n =>
   cases e:blsD r with
   | none=>unfold blsD at h; rw [e] at h; cases h
   | some ms =>
    unfold blsD at h
    rw [e] at h
    cases h
    rw [Q5 e]
    rfl
  | _=>cases h
theorem Vf:∀ (bs:List Bool),blsD (bs.map D.bl) = some bs
 | []=>rfl
 | b :: bs=>by rw [List.map_cons,blsD,Vf bs]; rfl
theorem Wb {K:W.Frag} {H:Hp} {O:List Addr}:∀ {bs:List Bool} {xs:List V},Reps K H O (bs.map D.bl) xs->xs = bs.map V.bl
 | [],_,h=>h
 | n :: bs,xs,h=>by
  obtain ⟨v,r,rfl,q,t⟩:=h
  rw [Wb t]
  cases (show v = _ from q)
  rfl
section
variable {X:Cx} {e:Expr} {es:List Expr} {t:TDs} {p pos:Pos}
noncomputable def T8 (g:List Bool->Bool):FT:=fun ds φ=>match ds with
 | [.lst l]=>match blsD l with
  | some bs=>φ (dv (.bl (g bs)))
  | none=>False
 | _=>False
theorem Pp {f:List V->Bool} {g:List Bool->Bool} (hf:∀ bs:List Bool,f (bs.map V.bl) = g bs):Qa X.K (rAll X.K f) (T8 g):=by
 intro H O ds vs φ Q ho hv h k
 unfold T8 at h
 split at h
 ·rename_i l
  split at h
  ·rename_i bs en
   obtain ⟨v,ws,rfl,⟨a,xs,rfl,q,r⟩,rfl⟩:=hv
   have el:=Q5 en
   subst el
   have:=Wb r
   subst this
   refine ⟨a,_,rfl,.inl (SqL.of q),fun y hy=>?_,?_⟩
   ·obtain ⟨b,_,rfl⟩:=List.mem_map.mp hy
    rfl
   ·rw [hf]
    exact k _ _ H (Same.refl H) (by exact rfl) h
  ·exact h.elim
 ·exact h.elim
theorem Kk (hm:X.mg "all" = none) (ha:EA Γ X (e :: es) t) (hc:X.calm = true:=by rfl) (hg:Gl X "all":=by rfl) (he:starEach (e :: es) X.env = (false,eval e X.env) :: starEach es X.env:=by rfl) (hpl:(backTo pos (starEach es X.env)).any (·.1) = false:=by rfl):ED Γ X (.Call (.Name "all" p) (e :: es) [] pos) (dCB (T8 fun bs=>bs.all id) t) :=
 tz (Y9 hc) (Pp fun bs=>by
  induction bs with
  | nil=>rfl
  | cons b bs ih=>rw [List.map_cons,List.all_cons,List.all_cons,ih]; cases b <;> rfl) hm (by kernel_rfl) ha hg (by decide) (by decide) he hpl
end
theorem RV.anew {K:W.Frag} {H0 H:Hp} {O:List Addr} {r:EV} {v:V} (h:RV K H0 H O r v) (p:wa r):RepN K H (fun a=>a ∉ O /\ H0 a = none) r.d v:=by
 obtain ⟨k,d⟩:=r
 cases k with
 | val=>exact Rep.toN _ _ p h
 | own=>exact p.elim
 | new=>exact h
 | fre =>
  obtain ⟨a,rfl,m,n,c⟩:=h
  cases d with
  | lst ds=>obtain ⟨xs,q,r⟩:=c; exact ⟨a,xs,rfl,q,⟨n,m⟩,Reps.toN _ _ p r⟩
  | dk ks ds=>obtain ⟨xs,q,l,nd,r⟩:=c; exact ⟨a,xs,rfl,q,⟨n,m⟩,l,nd,Reps.toN _ _ p r⟩
  | dt ks ds=>obtain ⟨xs,q,l,nd,r⟩:=c; exact ⟨a,xs,rfl,q,⟨n,m⟩,l,nd,Reps.toN _ _ p r⟩
  | _=>exact c.elim
noncomputable def ki:List EV->Prop
 | []=>True
 | r :: rs=>wa r /\ ki rs
theorem RVs.anew {K:W.Frag} {H0 H:Hp} {O:List Addr}:∀ {rs:List EV} {vs:List V},RVs K H0 H O rs vs->ki rs->zx K H (fun a=>a ∉ O /\ H0 a = none) (rs.map EV.d) vs
 | [],_,h,_=>h
 | r :: rs,vs,h,p=>by
  obtain ⟨v,ws,e,h1,t⟩:=h
  exact ⟨v,ws,e,h1.anew p.1,RVs.anew t p.2⟩
section
variable {X:Cx} {a b e ix:Expr} {es:List Expr} {t:TDs} {ta tb te tk:TD} {pos:Pos}
noncomputable def Kn (t:TDs):TD:=fun ρ φ=>t ρ fun rs=>ki rs /\ Nat.ble rs.length 1000 = true /\ φ ⟨.new,.tup (rs.map EV.d)⟩
theorem Kg {x1} (h:EA Γ X es t):ED Γ X (.Tuple es x1 pos) (Kn t):=fun H₀=>impE (Zc (h H₀)) fun σ H Q q=>by
 obtain ⟨ρ,o,R,φ,hφ,k⟩:=q
 refine ⟨ρ,o,R,_,hφ,fun vs rs H1 s1 rvs h1=>⟨by rw [rvs.length]; exact c7 h1.2.1,fun p hp=>?_⟩⟩
 refine k _ ⟨.new,.tup (rs.map EV.d)⟩ _ (s1.trans (zu hp _)) ⟨p,vs,rfl,⟨SqT.of zk,zk⟩,zx.to (zu hp _) (fun _ z=>z) _ _ (rvs.anew h1.1)⟩ h1.2.2
noncomputable def popD (ds:List D):Option (List D × D):=match ds.getLast? with
 | some d=>some (ds.dropLast,d)
 | none=>none
theorem P9 (ds:List D) (d:D):popD (ds ++ [d]) = some (ds,d):=by
 unfold popD
 simp
end
section
variable {X:Cx} {p np pos tpos:Pos} {e:Expr} {te:TD} {c:Str} {C0:Addr} {es:List Expr} {Cs:List Addr}
noncomputable def ECs (X:Cx) (es:List Expr) (Cs:List Addr):Prop:=PA X es (fun _ H Q=>Q (Cs.map V.ref) H)
theorem Kl:ECs X [] []:=t0
theorem bn (hm:X.mg c = some (.ref C0)) (h:ECs X es Cs) (hg:Gl X c:=by rfl) (hd:(c == ("__debug__" : Str)) = false:=by decide) (hs:starEach (.Name c np :: es) X.env = (false,eval (.Name c np) X.env) :: starEach es X.env:=by rfl):ECs X (.Name c np :: es) (C0 :: Cs) :=
 impA (xi (Nh hm hg hd) h hs) fun σ H Q q=>q
theorem bv:∀ {Cs:List Addr} {us:List Value},Vals (Cs.map V.ref) us->us = Cs.map Value.ref
 | [],_,h=>by cases h; rfl
 | C :: Cs,us,h=>by
  cases h with
  | cons h1 h2 =>
   rw [bv h2]
   cases h1
   rfl
theorem Q3:u0 X (.builtin "isinstance") (fun xs H Q=>∃ a C q,∃ Cs:List Addr,∃ b,xs = [.ref a,.ref q] /\ SqT X.K H q (Cs.map V.ref) /\ H a = some (ExcO a C) /\ W.kitAny X.K (.ref C) (Cs.map Value.ref) = some b /\ Yi X.K C /\ Q (.bl b) H):=by
 intro pn s σ H xs us Q I r h
 obtain ⟨a,C,q,Cs,b,rfl,hq,hH,ek,Y,hQ⟩:=h
 obtain ⟨u,v,rfl,ru,rv⟩:=Qf r
 cases (show u = Value.ref a from ru)
 cases (show v = Value.ref q from rv)
 have ob:=I.hok a _ hH
 obtain ⟨its,vr,ht,_⟩:=I.tuple hq
 have ei:=bv vr
 subst ei
 obtain ⟨⟨cls,dd,data,sl⟩,ho,hc,n,hd⟩:=id ht
 simp only at hc hd
 subst hc hd
 exact W.kia_tup (Ws Y) I.kIn ob.1 ho ek (fun z=>nomatch z) fun tk=>⟨.bl b,H,I.tok tk,rfl,hQ⟩
noncomputable def E3 (K:W.Frag) (zs:List Addr) (te:TD):TD:=fun ρ φ=>te ρ fun r=>match r.d with
 | .exc C=>∃ b,W.kitAny K (.ref C) (zs.map Value.ref) = some b /\ Yi K C /\ zs.length <= 1000 /\ φ (dv (.bl b))
 | _=>False
theorem Ri {K0:W.Frag} {x1} (hK:X.K = K0) (hi:X.mg "isinstance" = none) (hc:ECs X es Cs) (he:ED Γ X e te) (hg:Gl X "isinstance":=by rfl)
  (hs:starEach [e,.Tuple es x1 tpos] X.env = (false,eval e X.env) :: starEach [.Tuple es x1 tpos] X.env:=by rfl) (hpl:(backTo pos (starEach [.Tuple es x1 tpos] X.env)).any (·.1) = false:=by rfl):ED Γ X (.Call (.Name "isinstance" p) [e,.Tuple es x1 tpos] [] pos) (E3 K0 Cs te):=fun H₀=>by
 subst hK
 refine impE (qu Q3 hg hi xf (xi (he H₀) (xi (Zc hc) t0) hs) (by decide) (by decide) hs hpl) fun σ H Q q=>?_
 obtain ⟨ρ,o,R,φ,hφ,kk⟩:=q
 refine ⟨ρ,o,R,_,hφ,fun v r H1 s1 rv h1=>?_⟩
 have vw:=rv.view
 split at h1
 ·rename_i C hd
  rw [hd] at vw
  obtain ⟨b,ek,Y,hl,h2⟩:=h1
  obtain ⟨a,rfl,hH,_⟩:=vw
  refine ⟨by rw [List.length_map]; exact Nat.le_trans hl (by decide),fun q hq=>?_⟩
  have s2:=zu hq (.tup (Cs.map V.ref))
  exact ⟨a,C,q,Cs,b,rfl,SqT.of zk,s2 _ _ hH,ek,Y,kk _ _ _ (s1.trans s2) (by exact rfl) h2⟩
 ·exact h1.elim
end
end DL
namespace DL
open PySem PySem.Spec L2 L3
open PyProof.Rows hiding St
noncomputable def g1 (g:D->(EV->Prop)->Prop):FT:=fun ds φ=>match ds with
 | [d]=>g d φ
 | _=>False
noncomputable def g2 (g:D->D->(EV->Prop)->Prop):FT:=fun ds φ=>match ds with
 | [d,e]=>g d e φ
 | _=>False
noncomputable def g3 (g:D->D->D->(EV->Prop)->Prop):FT:=fun ds φ=>match ds with
 | [d,e,f]=>g d e f φ
 | _=>False
noncomputable def Uu:FT:=fun ds φ=>match ds with
 | [.scr ns,.int k]=>0 <= k /\ φ (dv (.int (ns.getD k.toNat 0)))
 | _=>False
theorem Qn {ds:List D} {φ:EV->Prop} (h:Uu ds φ):∃ (ns:List Int) (k:Nat),ds = [.scr ns,.int k] /\ φ (dv (.int (ns.getD k 0))):=by
 unfold Uu at h
 split at h
 ·rename_i ns k
  obtain ⟨h0,h⟩:=h
  exact ⟨ns,k.toNat,by rw [Int.toNat_of_nonneg h0],h⟩
 ·exact h.elim
theorem zv {t u:TDS} {ρ:DE} {Z:DZ} (J:DE->Prop) (h1:t ρ { Z with nx:=J }) (h2:∀ ρ2,J ρ2->u ρ2 Z):sSeq (sCut t) u ρ Z:=⟨J,h1,h2⟩
theorem qh:bootBuiltins "ValueError" = some (.type "ValueError"):=by decide +kernel
theorem km:W.kitMeta "ValueError" = true:=by decide +kernel
theorem Ly {K:W.Frag} {C:Addr} {T:String} {b:Bool} (hm:W.kitMeta T = true) (h:W.subIn K (.ref C) (.type T) = some b):W.kitOne K (.ref C) (.type T) = some b:=by
 unfold W.kitOne
 rw [if_neg (fun z=>by cases beq_iff_eq.mp z)]
 unfold W.kitCls
 dsimp only
 rw [if_pos hm]
 exact h
theorem E7 {K:W.Frag} {t:Value} {zs:List Value} (h:∀ z ∈ zs,W.kitOne K t z = some false):W.kitAny K t zs = some false:=by
 induction zs with
 | nil=>rfl
 | cons z zs ih =>
  unfold W.kitAny
  rw [h z (List.mem_cons_self ..)]
  exact ih fun y hy=>h y (List.mem_cons_of_mem _ hy)
end DL
namespace DL
open PySem PySem.Spec L2 L3
open PyProof.Rows hiding St
variable {Γ:Hp->Prop}
noncomputable def Fm (d:D):Prop:=∃ (ks:List Str) (ns:List Int),d = .dk (ks.map Sum.inr) (ns.map D.int)
section
variable {X:Cx} {pn:List (Addr × Obj)} {σ:St} {H:Hp} {s:Shared}
noncomputable def okS (d:D):Prop:=okD 39 d \/ Fm d
end
section
variable {X:Cx} {a b e:Expr} {es:List Expr} {t:TDs} {ta tb te:TD} {p pos:Pos} {tg:Expr}
noncomputable def okL (d:D):Prop:=(∃ ds,d = .lst ds /\ ∀ e ∈ ds,okS e) \/ Fm d
end
section
variable {X:Cx} {es:List Expr} {t:TDs} {tpos pos:Pos}
noncomputable def We:List EV->Prop
 | []=>True
 | r :: rs=>wa r.ret /\ We rs
noncomputable def Ha (t:TDs):TDS:=fun ρ Z=>t ρ fun rs=>We rs /\ Nat.ble rs.length 1000 = true /\ Z.rt ⟨.new,.tup (rs.map EV.d)⟩
theorem RVs.rets {K:W.Frag} {H₀ H H':Hp} {σ:St} {ρ:DE} {o:List (Nat × Addr)} (R:REnv K H₀ H σ ρ o):∀ {rs:List EV} {vs:List V},RVs K H H' (o.map Prod.snd) rs vs->We rs->zx K H' (fun a=>a ∉ ([]:List Addr) /\ H₀ a = none) (rs.map EV.d) vs
 | [],_,h,_=>h
 | r :: rs,vs,h,p=>by
  obtain ⟨v,ws,e,q,t⟩:=h
  have q':=(RV.ret R q).anew p.1
  exact ⟨v,ws,e,by
   have:r.ret.d = r.d:=rfl
   rw [this] at q'
   exact q',RVs.rets R t p.2⟩
theorem Mi {x1} (h:EA Γ X es t):SD Γ X (.Return (some (.Tuple es x1 tpos)) pos) (Ha t):=fun H₀=>impS (Z9 (Zc (h H₀))) fun D σ H h=>by
 obtain ⟨ρ,o,R,Z,hZ,k1,k2,k3,k4⟩:=h
 refine ⟨ρ,o,R,_,hZ,fun vs rs H1 s1 rvs h1=>⟨by rw [rvs.length]; exact c7 h1.2.1,fun p hp=>?_⟩⟩
 refine k4 _ ⟨.new,.tup (rs.map EV.d)⟩ _ (R.same.trans (s1.trans (zu hp _))) ?_ h1.2.2
 exact ⟨p,vs,rfl,⟨SqT.of zk,zk⟩,zx.to (zu hp _) (fun _ z=>z) _ _ (RVs.rets R rvs h1.1)⟩
end
end DL
namespace DL
open PySem PySem.Spec L2 L3
open PyProof.Rows hiding St
noncomputable def D3 (K:W.Frag) (H₀:Hp) (t:TDS):TS:=fun D σ H=>∃ ρ o,REnv K H₀ H σ ρ o /\ ∃ Z,t ρ Z /\
 (∀ ρ' σ' H' o',REnv K H₀ H' σ' ρ' o'->Z.nx ρ'->D.nx σ' H') /\ (∀ ρ' σ' H' o',REnv K H₀ H' σ' ρ' o'->Z.bk ρ'->D.bk σ' H') /\ (∀ ρ' σ' H' o',REnv K H₀ H' σ' ρ' o'->Z.ct ρ'->D.ct σ' H') /\
 (∀ v r H',Same H₀ H'->RV K H₀ H' [] r v->Z.rt r->D.rt v H')
noncomputable def SG (G:Hp->Prop) (X:Cx) (st:Stmt) (t:TDS):Prop:=∀ H₀:{H:Hp // G H},PS X st (D3 X.K H₀.1 t)
end DL
namespace L2
open PySem PySem.Spec PyProof.Rows
theorem ug:entryFor table "dict.update.loop" = some Builtin.«dict.update.loop»:=entryFor_of_tree (by kernel_rfl)
theorem xy:plainId "dict.update.loop" = true:=by decide +kernel
theorem ju:typeLookup (.type "list") "keys" = pure none:=by rw [typeLookup_type,builtinLookup_eq_fast]; kernel_rfl
section
variable {prog:Program} {w:World} {A:Around} {E:Value->Shared->Prop} {s:Shared}
theorem Sa {a:Addr} {xs:Array Value} {Q:Option Value->Shared->Prop} (hl:PlainL s.heap a xs) (hA:A.handled = none)
  (h:∀ h' tk,(∀ b o,s.heap.get? b = some o->h'.get? b = some o)->Q none { s with heap:=h',toks:=tk }):wpAny (model prog w) A (getAttr? (.ref a) "keys") Q E s:=by
 obtain ⟨o,k,hx,hc,hd,hdat⟩:=hl
 obtain ⟨c,dct,dat,sl⟩:=o
 simp only at hc hdat hd
 subst hc hdat hd
 obtain ⟨hp,g,d,tk,os⟩:=s
 have hT:∀ tk',(⟨hp,g,d,tk',os⟩:Shared).TypeIs (.ref a) "list":=fun _=>⟨_,hx,rfl⟩
 have f1:=sub_AttributeError
 have f3:=F.slot_list_getattribute.lookup
 have f4:=F.slot_list_getattribute.bind (.ref a)
 have f5:=am_list_getattr_none
 unfold getAttr? getAttrBy? getAttrBy
 repeat (any_goals (first | assumption | exact hT _ | ((with_reducible show wpAny _ _ (call (Value.builtin "list.__getattribute__") _ _) _ _ _); refine call_meets F.slot_list_getattribute (hT _) am_entry_list_getattribute (F.args_list_getattribute_2 _ _) (meets_getattribute_miss_list a xs k sl "keys" _ ju (by decide +kernel) (by size_fits)) ⟨hx,hA,fun h' tk' e hx'=>?_⟩) | wp_step))
 obtain ⟨t',u',he⟩:=hx'.there
 show wpAny _ _ (getattributeRaised _ _ _ _ _ _ _) _ _ _
 unfold getattributeRaised
 repeat (any_goals (first | assumption | wp_step))
 exact h _ _ hx'.keeps
end
section
variable {prog:Program} {w:World} {K:Type} [DecidableEq K] {knd:KeyKind prog w K} {A:Around} {s:Shared} {R:Result->Shared->Prop}
noncomputable def Vh (knd:KeyKind prog w K) (h:Heap) (v:Value) (kx:K × Value):Prop:=∃ b o n key,v = .ref b /\ h.get? b = some o /\ o.cls = .type "tuple" /\ o.data = .seq #[key,kx.2] n /\ knd.is kx.1 key = true
theorem Vm {kvs:List (K × Value)} {k:K} {x:Value} (h:k ∉ kvs.map (·.1)):stored kvs k x = kvs ++ [(k,x)]:=by
 unfold stored
 rw [if_neg]
 intro z
 rw [List.any_eq_true] at z
 obtain ⟨p,hp,e⟩:=z
 exact h (List.mem_map.mpr ⟨p,hp,by simpa using e⟩)
theorem Qh (hh:A.handled = none) (d it l:Addr) (hdi:d ≠ it) (hdl:d ≠ l) (hli:l ≠ it) (its:List Value) (more:List (K × Value)) (hlen:its.length = more.length) (hnd:(more.map (·.1)).Nodup) (hsz:more.length <= sizeLine) :
  ∀ (k i:Nat) (s:Shared),its.length = i + k->s.heap.IsListIter it l i->s.heap.IsList l its.toArray->s.heap.DictOf knd d (more.take i) ->
  (∀ (j:Nat) v kx,its[j]? = some v->more[j]? = some kx->Vh knd s.heap v kx) ->
  (∀ h' tk,h'.DictOf knd d more->(∀ b o,b ≠ d->b ≠ it->s.heap.get? b = some o->h'.get? b = some o)->R (.ok (.ret .none)) { s with heap:=h',toks:=tk }) ->
  codeAny (model prog w) A (.builtin "dict.update.loop" ⟨[.ref d,.ref it,rawInt (i:Int),.none],[]⟩) R s:=by
 intro k
 induction k with
 | zero =>
  intro i s hk hi hl hd hp hR
  refine codeAny_builtin ug ?_
  rw [Around.under_plainId xy _]
  have W:=Walks.list (prog:=prog) (w:=w) (A:=A.in1) hh it l hli its.toArray
  show wpAny _ A.in1 (pyNext (.ref it) >>= _) _ _ s
  refine wpAny_bind (W.done s _ _ ⟨by simpa [hk] using hi,hl⟩ fun h' tk hk'=>?_)
  show wpAny _ A.in1 (Builtin.Dict.addKeywords d [] >>= _) _ _ _
  refine wpAny_bind (wpAny_pure (wpAny_pure ?_))
  refine hR h' tk ?_ fun b o _ hb e=>hk' b o (by simpa using hb) e
  rw [List.take_of_length_le (by omega)] at hd
  obtain ⟨o,es,ep,ho,r⟩:=hd
  exact ⟨o,es,ep,hk' d o (by simpa using hdi) ho,r⟩
 | succ k ih =>
  intro i s hk hi hl hd hp hR
  refine codeAny_builtin ug ?_
  rw [Around.under_plainId xy _]
  have W:=Walks.list (prog:=prog) (w:=w) (A:=A.in1) hh it l hli its.toArray
  show wpAny _ A.in1 (pyNext (.ref it) >>= _) _ _ s
  refine wpAny_bind (W.item i s _ _ (by simp; omega) ⟨hi,hl⟩ fun v h' tk hv hst' hk'=>?_)
  have hv':its[i]? = some v:=by simpa using hv
  have him:i < more.length:=by omega
  obtain ⟨kx,ekx⟩:∃ kx,more[i]? = some kx:=⟨more[i],List.getElem?_eq_getElem him⟩
  have hd':h'.DictOf knd d (more.take i):=by
   obtain ⟨o,es,ep,ho,r⟩:=hd
   exact ⟨o,es,ep,hk' d o (by simpa using hdi) ho,r⟩
  have hp':∀ (j:Nat) v kx,its[j]? = some v->more[j]? = some kx->Vh knd h' v kx:=fun j v kx h1 h2=>by
   obtain ⟨b,o,n,key,e1,e2,e3,e4,e5⟩:=hp j v kx h1 h2
   refine ⟨b,o,n,key,e1,hk' b o ?_ e2,e3,e4,e5⟩
   intro z
   have:b = it:=by simpa using z
   subst this
   obtain ⟨o',ho',hc',_⟩:=hi
   rw [ho'] at e2
   cases e2
   rw [hc'] at e3
   exact absurd e3 (by decide)
  obtain ⟨b,o,n,key,rfl,hb,hbc,hbd,hkey⟩:=hp' i v kx hv' ekx
  have hT:({ s with heap:=h',toks:=tk }:Shared).TypeIs (.ref b) "tuple":=⟨o,hb,hbc⟩
  refine wpAny_bind (wpAny_holding ?_)
  refine wpAny_bind (wpAny_tryCatch ?_)
  show wpAny _ A.in1 (typeOf (.ref b) >>= _) _ _ _
  refine wpAny_bind (wpAny_typeOf hT ?_)
  show wpAny _ A.in1 (seqItems? (.ref b) >>= _) _ _ _
  refine wpAny_bind (wpAny_seqItems hb hbd (wpAny_pure ?_))
  show wpAny _ A.in1 (holding [key,kx.2] (dictSet d key kx.2)) _ _ _
  have hnew:kx.1 ∉ (more.take i).map (·.1):=by
   have e:more.take (i + 1) = more.take i ++ [kx]:=by rw [List.take_succ,ekx]; rfl
   have h4:((more.take (i + 1)).map (·.1)).Nodup:=hnd.sublist ((List.take_sublist _ _).map _)
   rw [e,List.map_append,List.nodup_append] at h4
   intro z
   exact h4.2.2 _ z kx.1 (by simp) rfl
  refine wpAny_holding (wpAny_dictSet_pairs (hsz:=by rw [List.length_take]; omega) hkey hd' fun h2 dd hs=>?_)
  rw [Vm hnew,show more.take i ++ [(kx.1,kx.2)] = more.take (i + 1) by rw [List.take_succ,ekx]; rfl] at dd
  refine wpAny_pure ⟨plainId_quiet xy _,?_⟩
  have keep:∀ b o,b ≠ d->h'.get? b = some o->h2.get? b = some o:=fun b o hb e=>(hs.2 b hb).trans e
  refine ih (i + 1) _ (by omega) ?_ ?_ dd ?_ fun h3 tk3 d3 k3=>?_
  ·obtain ⟨o',ho',r'⟩:=hst'.1
   exact ⟨o',keep _ _ (Ne.symm hdi) ho',r'⟩
  ·obtain ⟨o',ho',r'⟩:=hst'.2
   exact ⟨o',keep _ _ (Ne.symm hdl) ho',r'⟩
  ·intro j v kx h1 h2'
   obtain ⟨b,o,n,key,e1,e2,e3,e4,e5⟩:=hp' j v kx h1 h2'
   refine ⟨b,o,n,key,e1,keep b o ?_ e2,e3,e4,e5⟩
   intro z
   subst z
   obtain ⟨o',es,ep,ho',hc',hdat,_⟩:=hd'
   rw [ho'] at e2
   cases e2
   rw [hdat] at e4
   cases e4
  ·exact hR h3 tk3 d3 fun b o h1 h2' e=>k3 b o h1 h2' (keep b o h1 (hk' b o (by simpa using h2') e))
theorem jh {E:Value->Shared->Prop} {l:Addr} {its:List Value} {more:List (K × Value)} {Q:Value->Shared->Prop} (hh:A.handled = none) (hl:PlainL s.heap l its.toArray) (hlen:its.length = more.length) (hnd:(more.map (·.1)).Nodup) (hsz:more.length <= sizeLine)
  (hp:∀ (j:Nat) v kx,its[j]? = some v->more[j]? = some kx->Vh knd s.heap v kx)
  (h:∀ h' tk,h'.DictOf knd s.heap.objs.size more->(∀ b o,s.heap.get? b = some o->h'.get? b = some o)->Q (.ref s.heap.objs.size) { s with heap:=h',toks:=tk }) :
  wpAny (model prog w) A (call (.type "dict") [.ref l]) Q E s:=by
 refine callType_codes (Q₁:=fun obj s₁=>obj = .ref s.heap.objs.size /\ s₁ = { s with heap:=s.heap.push { cls:=.type "dict", data:=.dict #[] } }) F.kt_called_dict (F.kt_typeCall_dict_1 _) F.entry_dict_init (kt_code_dict_new _ ⟨rfl,rfl⟩) ?_
 rintro obj s₁ ⟨rfl,rfl⟩
 have hnew:(s.heap.push { cls:=.type "dict", data:=.dict #[] }).DictOf knd s.heap.objs.size []:=Heap.DictOf.new s.heap
 have k1:∀ b o,s.heap.get? b = some o->(s.heap.push { cls:=.type "dict", data:=.dict #[] }).get? b = some o:=fun b o e=>Heap.get?_push_of_some _ e
 have hl1:=hl.keeps k1
 have hls:l < s.heap.objs.size:=by obtain ⟨o,n,e,_⟩:=hl; exact Heap.lt_size e
 refine ⟨hnew.typeIs,F.args_dict_init_2 _ _,?_⟩
 unfold Builtin.«dict.__init__»
 refine wpAny_bind ?_
 unfold Builtin.Dict.selfAndRest
 refine wpAny_bind (wpAny_notOrdered_dict hnew.typeIs ?_)
 show wpAny _ _ (pure (s.heap.objs.size,[Value.ref l])) _ _ _
 refine wpAny_pure ?_
 show wpAny _ _ (Builtin.Dict.updateFrom "dict.__init__" s.heap.objs.size (.ref l) [] .none) _ _ _
 unfold Builtin.Dict.updateFrom
 refine wpAny_bind (wpAny_typeOf hl1.isList.typeIs ?_)
 rw [if_pos (by decide)]
 refine wpAny_bind (Sa hl1 hh fun h2 tk2 k2=>?_)
 rw [if_pos (by rfl)]
 refine wpAny_bind (wpAny_rule ?_)
 have hl2:=(hl1.keeps k2).isList
 have hlt:l < h2.objs.size:=by obtain ⟨o,e,_⟩:=hl2; exact Heap.lt_size e
 refine wpAny_bind (wpAny_pyIter_list hl2 ?_)
 have hdlt:s.heap.objs.size < h2.objs.size:=by
  obtain ⟨o,es,ep,ho,_⟩:=hnew
  exact Heap.lt_size (k2 _ _ ho)
 refine wpAny_pure ⟨plainId_quiet xy _,?_⟩
 refine Qh (knd:=knd) (A:=A.in1) hh s.heap.objs.size h2.objs.size l (Nat.ne_of_lt hdlt) (Nat.ne_of_gt hls) (Nat.ne_of_lt hlt) its more hlen hnd hsz its.length 0 _ (by omega) ?_ ?_ ?_ ?_ fun h3 tk3 d3 k3=>?_
 ·exact ⟨_,Heap.get?_push_size _ rfl,rfl,rfl⟩
 ·exact hl2.push _
 ·obtain ⟨o,es,ep,ho,r⟩:=hnew
  exact ⟨o,es,ep,Heap.get?_push_of_some _ (k2 _ _ ho),r⟩
 ·intro j v kx h1 h2'
  obtain ⟨b,o,n,key,e1,e2,e3,e4,e5⟩:=hp j v kx h1 h2'
  exact ⟨b,o,n,key,e1,Heap.get?_push_of_some _ (k2 _ _ (k1 _ _ e2)),e3,e4,e5⟩
 ·refine ⟨rfl,h h3 tk3 d3 fun b o e=>k3 b o ?_ ?_ (Heap.get?_push_of_some _ (k2 _ _ (k1 _ _ e)))⟩
  ·exact Nat.ne_of_lt (Heap.lt_size e)
  ·exact Nat.ne_of_lt (Nat.lt_trans (Heap.lt_size e) hdlt)
end
section
variable {X:Cx}
noncomputable def Q9 (K:W.Frag) (H:Hp):List V->List (Key × V)->Prop:=Paired fun p kv=>∃ b,p = V.ref b /\ SqT K H b [kV kv.1,kv.2]
theorem Ua (hc:X.calm = true):u0 X (.type "dict") (fun xs H Q=>∃ a ps kvs,xs = [.ref a] /\ SqL X.K H a ps /\ Q9 X.K H ps kvs /\ (kvs.map (·.1)).Nodup /\ ∀ p,H p = none->Q (.ref p) (upd H p (.dK kvs))):=by
 intro pn s σ H xs us Q I r h
 obtain ⟨a,ps,kvs,rfl,ha,hp,hn,q⟩:=h
 obtain ⟨u,rfl,ru⟩:=bx r
 cases ru
 obtain ⟨its,rv,pl,hz⟩:=I.list ha
 have hlen:ps.length = kvs.length:=hp.length
 have hli:=rv.length
 have ex:∃ more:List (Key × Value),KV kvs more /\ ∀ (j:Nat) v kx,its[j]? = some v->more[j]? = some kx->Vh (yw X.prog X.w) s.heap v kx:=by
  clear hn q hz pl hlen hli ha
  induction rv generalizing kvs with
  | nil=>cases hp; exact ⟨[],.nil,fun j v kx e=>by simp at e⟩
  | cons r1 r2 ih =>
   cases hp with
   | cons h t =>
    obtain ⟨more,k1,k2⟩:=ih _ t
    obtain ⟨b,rfl,sq⟩:=h
    cases r1
    obtain ⟨ts,rt,⟨o,e1,e2,n,e3⟩,_⟩:=I.tuple sq
    cases rt with
    | cons t1 rt =>
     cases rt with
     | cons t2 rt =>
      cases rt
      rename_i kk key x
      refine ⟨(_,x) :: more,.cons ⟨rfl,t2⟩ k1,fun j v kx h1 h2=>?_⟩
      cases j with
      | zero =>
       simp at h1 h2
       subst h1 h2
       exact ⟨b,o,n,key,rfl,e1,e2,e3,Se t1⟩
      | succ j=>exact k2 j v kx (by simpa using h1) (by simpa using h2)
 obtain ⟨more,k1,k2⟩:=ex
 have hml:kvs.length = more.length:=k1.length
 have hkeys:more.map (·.1) = kvs.map (·.1):=by
  clear hn q hp hlen k2 hml
  induction k1 with
  | nil=>rfl
  | cons h t ih=>rw [List.map_cons,List.map_cons,ih,h.1]
 have hb:=I.big
 refine jh (knd:=yw X.prog X.w) (I.ok.hd hc) pl (by omega) (by rw [hkeys]; exact hn) (by omega) k2 fun h' tk hd keep=>?_
 refine ⟨.ref s.heap.objs.size,_,I.laid (t':=tk) (a:=s.heap.objs.size) (o:=.dK kvs) keep (Nat.le_refl _) ?_,rfl,q _ (I.hok.fresh (Nat.le_refl _))⟩
 exact Nx (by omega) (by simpa using (Nat.ne_of_gt hb)) k1 hd
end
end L2
namespace DL
open PySem PySem.Spec L2 L3
open PyProof.Rows hiding St
variable {Γ:Hp->Prop}
section
variable {X:Cx} {e ke:Expr} {es:List Expr} {t:TDs} {te tk:TD} {p p2 pos pos2:Pos}
noncomputable def kD:Key->D
 | .inl i=>.int i
 | .inr x=>.str x
noncomputable def Wj (ks:List Key) (ds:List D):List D:=(ks.zip ds).map fun q=>.tup [kD q.1,q.2]
noncomputable def sDictP:FT:=fun xs φ=>match xs with
 | [.lst l]=>∃ ks ds,l = Wj ks ds /\ ks.length = ds.length /\ ks.Nodup /\ φ (df (.dk ks ds))
 | _=>False
theorem Hd {K:W.Frag} {H:Hp} {O:List Addr} {k:Key} {v:V} (h:Rep K H O (kD k) v):v = kV k:=by
 cases k with
 | inl i=>exact h
 | inr x=>exact h
theorem gb {K:W.Frag} {H:Hp} {O:List Addr}:∀ (ks:List Key) (ds:List D) (ps:List V),ks.length = ds.length->Reps K H O (Wj ks ds) ps->∃ xs,Q9 K H ps (ks.zip xs) /\ Reps K H O ds xs
 | [],[],ps,_,h=>by
  cases (show ps = [] from h)
  exact ⟨[],.nil,rfl⟩
 | [],_ :: _,_,h,_=>by cases h
 | _ :: _,[],_,h,_=>by cases h
 | k :: ks,d :: ds,ps,hl,h=>by
  obtain ⟨v,ws,rfl,⟨a,zs,rfl,sq,r⟩,hr⟩:=h
  obtain ⟨v1,w1,rfl,r1,v2,w2,rfl,r2,rfl⟩:=r
  cases Hd r1
  obtain ⟨xs,h1,h2⟩:=gb ks ds ws (by simpa using hl) hr
  exact ⟨v2 :: xs,.cons ⟨a,rfl,sq.1⟩ h1,v2,xs,rfl,r2,h2⟩
theorem Wt {α β:Type}:∀ (ks:List α) (xs:List β),ks.length = xs.length->(ks.zip xs).map (·.1) = ks
 | [],_,_=>rfl
 | k :: ks,[],h=>by cases h
 | k :: ks,x :: xs,h=>by
  rw [List.zip_cons_cons,List.map_cons,Wt ks xs (by simpa using h)]
theorem V8 (hm:X.mg "dict" = none) (ha:EA Γ X (e :: es) t) (hc:X.calm = true:=by rfl) (hg:Gl X "dict":=by rfl) (he:starEach (e :: es) X.env = (false,eval e X.env) :: starEach es X.env:=by rfl) (hpl:(backTo pos (starEach es X.env)).any (·.1) = false:=by rfl):ED Γ X (.Call (.Name "dict" p) (e :: es) [] pos) (dCB sDictP t) :=
 Y3 (Ua hc) (fun H O ds vs φ Q ho hv h k=>by
  unfold sDictP at h
  split at h
  ·obtain ⟨ks,ds,rfl,hl,nd,h⟩:=h
   obtain ⟨v,ws,rfl,⟨a,xs,rfl,q,r⟩,rfl⟩:=hv
   obtain ⟨zs,h1,h2⟩:=gb ks ds xs hl r
   have hz:ks.length = zs.length:=by rw [hl,h2.length]
   exact ⟨a,xs,_,rfl,SqL.of q,h1,by rw [Wt ks zs hz]; exact nd,fun p hp=>k _ (df (.dk _ _)) _ (zu hp _) ⟨p,rfl,hp,ho p hp,zs,zk,hl,nd,Reps.grow (Wx hp) _ _ h2⟩ h⟩
  ·exact h.elim) hm Ub ha hg (by decide) (by decide) he hpl
end
end DL
namespace L2
open PySem PySem.Spec PyProof.Rows
section
variable {X:Cx} {tg:Expr} {pn:List (Addr × Obj)} {σ:St} {H:Hp} {s:Shared} {a:Addr} {ob:Obj} {kvs:List (Key × V)}
end
end L2
namespace L3
open PySem PySem.Spec L2
open PyProof.Rows hiding St
noncomputable def Ite (K:W.Frag) (l:Addr):It :=
 ⟨fun i H=>∃ xs x,SqL K H l xs /\ xs[i]? = some x,
  fun i H v H'=>∃ T x,H T = none /\ v = .ref T /\ (∀ xs,SqL K H l xs->xs[i]? = some x) /\ H' = upd H T (.tup [.int i,x]),
  fun i H=>∃ xs,SqL K H l xs /\ xs.length <= i⟩
theorem Uh {P:Program} {w:World} {K:W.Frag} {es:List Expr} {kk:Nat} {tp:Pos} {e it l:Addr} (hne:e ≠ it) :
  Turn P w K (.Tuple es kk tp) (Ite K l) [e,it] e (fun i h=>(∃ old,IsEnum h e it i old) /\ h.IsListIter it l i) where
 mem:=by simp
 obj:=fun i h Z b hb=>by
  obtain ⟨⟨old,h1⟩,o,h2,h3,h4⟩:=Z
  simp only [List.mem_cons,List.not_mem_nil,or_false] at hb
  rcases hb with rfl | rfl
  ·exact ⟨_,h1,fun v q=>(by cases q)⟩
  ·exact ⟨o,h2,fun v q=>by rw [h4] at q; cases q⟩
 keep:=fun i h h' Z k=>by
  obtain ⟨⟨old,h1⟩,h2⟩:=Z
  exact ⟨⟨old,k e (by simp) _ h1⟩,h2.at fun o q=>k it (by simp) o q⟩
 item:=by
  intro X hP hw hK hc i pn s σ H E I hf Z hg
  subst hP hw hK
  obtain ⟨xs,x,e1,hx⟩:=hg
  obtain ⟨its1,r1,pl,hz⟩:=I.list e1
  obtain ⟨u,hu,ru⟩:=r1.get hx
  obtain ⟨⟨old,z1⟩,z2⟩:=Z
  have fe:=hf e (by simp)
  have fi:=hf it (by simp)
  refine wpAny_pyNext_enum_item z1 z2 pl.isList (x:=u) (by simpa using hu) hne fun g zo zi pr hsz kp=>?_
  have hn:H s.heap.objs.size = none:=I.fresh
  have hout:∀ b,b ∉ [e,it]->b ≠ e /\ b ≠ it:=fun b hb=>by
   simp only [List.mem_cons,List.not_mem_nil,or_false,not_or] at hb
   exact hb
  have off:∀ b ho,H b = some ho->b ≠ e /\ b ≠ it:=fun b ho q=>⟨ze q fe.1,ze q fi.1⟩
  have un:Un (frs X.stack) [e,it] H (upd H s.heap.objs.size (.tup [.int i,x])) s.heap g :=
   ⟨fun b o q _ _ hx=>kp b o (hout b hx).1 (hout b hx).2 q,fun b o q _ _ hx=>⟨o.slots,kp b o (hout b hx).1 (hout b hx).2 q⟩,fun b o q n _=>by rw [zj (Nat.ne_of_lt (Heap.lt_size q))]; exact n,fun b o q hx=>⟨o,kp b o (hout b hx).1 (hout b hx).2 q⟩,
    fun b zs q=>by rw [zj (ze q hn)]; exact q,fun b o zs q=>by rw [zj (ze q hn)]; exact q,fun b ps q=>⟨#[],by rw [zj (ze q hn),q]; simp⟩⟩
  have hok:HOk X.prog X.w (upd H s.heap.objs.size (.tup [.int i,x])) g:=fun b o q=>by
   by_cases hb:b = s.heap.objs.size
   ·subst hb
    rw [zk] at q
    cases q
    refine ⟨by simp only [List.length_cons,List.length_nil]; rw [sizeLine_eq]; decide,[.int i s.toks,u],.cons ⟨_,rfl⟩ (.cons ru .nil),⟨_,pr,rfl,_,rfl⟩,_,pr,rfl⟩
   ·rw [zj hb] at q
    refine (I.hok b o q).stay (fun c ob hc q2=>kp c ob ?_ ?_ q2) (fun c q=>by rw [zj (ze q hn)]; exact q) fun c zs q=>by rw [zj (ze q hn)]; exact q
    ·rcases hc with rfl | hc
     ·exact (off _ _ q).1
     ·exact (off _ _ hc).1
    ·rcases hc with rfl | hc
     ·exact (off _ _ q).2
     ·exact (off _ _ hc).2
  have I2:Inv X pn σ (upd H s.heap.objs.size (.tup [.int i,x])) { s with heap:=g,toks:=s.toks + 1 }:=I.call' (s':={ s with heap:=g,toks:=s.toks + 1 }) (ch:=[e,it]) rfl un hok I.bare fun b hb=>by
   have q:=hf b hb
   exact ⟨q.2.2.2.1,q.2.1,q.2.2.2.2.1,q.2.2.2.2.2⟩
  have none5:∀ b ∈ [e,it],upd H s.heap.objs.size (.tup [.int i,x]) b = none:=fun b hb=>by
   have lb:b < s.heap.objs.size:=by
    obtain ⟨o,q2,_⟩:=z2
    simp only [List.mem_cons,List.not_mem_nil,or_false] at hb
    rcases hb with rfl | rfl
    ·exact Heap.lt_size z1
    ·exact Heap.lt_size q2
   rw [zj (Nat.ne_of_lt lb)]
   exact (hf b hb).1
  refine ⟨_,rfl,wpAny_letOwnedTupleGo_enum zo fun g2 z3 sb=>?_⟩
  refine ⟨.ref s.heap.objs.size,_,I2.turned (t':=s.toks + 1) (fun b o hb q=>sb.extBut b o hb q) (none5 e (by simp)) fe.2.1 fe.2.2.2.1 fe.2.2.2.2.1 fe.2.2.2.2.2,rfl,⟨_,x,hn,rfl,(fun zs q=>by rw [<- I.list_inj e1 q]; exact hx),rfl⟩,?_,none5⟩
  exact ⟨⟨_,by exact_mod_cast z3⟩,zi.at fun o q=>sb.extBut _ o (Ne.symm hne) q⟩
 done:=by
  intro X hP hw hK hc i pn s σ H E I hf Z hg
  subst hP hw hK
  obtain ⟨xs,e1,hend⟩:=hg
  obtain ⟨its1,r1,pl,hz⟩:=I.list e1
  obtain ⟨⟨old,z1⟩,z2⟩:=Z
  have fi:=hf it (by simp)
  have l1':=r1.length
  exact wpAny_pyNext_enum_end (I.ok.hd hc) z1 z2 pl.isList (by simp; omega) fun g kp=>⟨rfl,I.turned (t':=s.toks) (fun b o hb q=>kp b o hb q) fi.1 fi.2.1 fi.2.2.2.1 fi.2.2.2.2.1 fi.2.2.2.2.2⟩
 self:=fun _ _ _ _ _ Z h=>by
  obtain ⟨⟨old,z1⟩,_⟩:=Z
  exact wpAny_pyIter_enum z1 h
theorem jm:bootBuiltins "enumerate" = some (.type "enumerate"):=by kernel_rfl
noncomputable def Dc (K:W.Frag) (ta:TA):TI:=fun σ H R=>ta σ H fun vs H1=>∃ l xs,vs = [.ref l] /\ SqL K H1 l xs /\ R (Ite K l) H1
theorem L7 {X:Cx} {es:List Expr} {kk:Nat} {tp:Pos} {a:Expr} {ta:TA} {p pos:Pos} (hg:Gl X "enumerate") (hm:X.mg "enumerate" = none) (ha:PA X [a] ta)
  (he:starEach [a] X.env = (false,eval a X.env) :: starEach [] X.env:=by rfl):PI X (.Tuple es kk tp) (.Call (.Name "enumerate" p) [a] [] pos) (Dc X.K ta):=by
 intro pn s σ H R I h
 refine wpAny_Call_Name_kw (j4 I hg hm jm ?_ (by decide) (by decide))
 refine PyProof.Rows.callWith_type1 (thn (ha pos pn s σ H _ I h) fun us s1 ⟨vs,H1,I1,r1,l,xs,e,e1,q⟩=>?_) he (by rfl)
 subst e
 obtain ⟨u,rfl,ru⟩:=bx r1
 cases ru
 obtain ⟨its1,r1,pl,hz⟩:=I1.list e1
 refine call_enumerate_list pl.isList fun g z1 z2 hsz kp=>wpAny_pyIter_enum z1 ?_
 refine ⟨_,_,_,_,H1,rfl,I1.kept (t':=s1.toks) kp,Uh (by exact Nat.succ_ne_self _),⟨⟨_,z1⟩,z2⟩,fun b hb=>?_,q⟩
 have lb:s1.heap.objs.size <= b:=by
  simp only [List.mem_cons,List.not_mem_nil,or_false] at hb
  rcases hb with rfl | rfl
  ·exact Nat.le_add_right _ _
  ·exact Nat.le_refl _
 exact I1.fpOk lb (I1.hok.fresh lb)
end L3
namespace DL
open PySem PySem.Spec L2 L3
open PyProof.Rows hiding St
variable {Γ:Hp->Prop}
section
variable {X:Cx}
noncomputable def enD (l:List D):List D:=l.zipIdx.map fun q=>.tup [.int (q.2:Nat),q.1]
noncomputable def iE (t:TDs):TID:=fun ρ φ=>t ρ fun rs=>match rs with
 | [r]=>(match r.k with | .own=>False | _=>True) /\ (match r.d with
  | .lst l=>φ (enD l)
  | _=>False)
 | _=>False
theorem K4 {K:W.Frag} {l:Addr} {ds:List D}:ItD K (Ite K l) (enD ds) (fun H O=>Rep K H O (.lst ds) (.ref l)) where
 go:=fun H O i d hp e=>by
  obtain ⟨a,xs,ea,q,_,r⟩:=hp
  cases ea
  unfold enD at e
  rw [List.getElem?_map,List.getElem?_zipIdx] at e
  cases ex:ds[i]? with
  | none=>rw [ex] at e; cases e
  | some x =>
   rw [ex] at e
   have ed:d = .tup [.int (i:Nat),x]:=by simpa using e.symm
   subst ed
   obtain ⟨u,eu,ru⟩:=r.get ex
   refine ⟨⟨xs,u,SqL.of q,eu⟩,fun z H' yl=>?_⟩
   obtain ⟨T,u',hT,rfl,eu',rfl⟩:=yl
   have eu':=eu' _ (SqL.of q)
   rw [eu] at eu'
   cases eu'
   have sm:Same H (upd H T (.tup [.int i,u])):=fun b w hb=>by rw [zj (ze hb hT)]; exact hb
   refine ⟨sm,T,[.int i,u],rfl,⟨.inl (.inl zk),zk⟩,?_⟩
   exact ⟨.int i,[u],rfl,by exact rfl,u,[],rfl,Rep.grow (Grow.same sm) _ _ ru,rfl⟩
 stop:=fun H O hp=>by
  obtain ⟨a,xs,ea,q,_,r⟩:=hp
  cases ea
  exact ⟨xs,SqL.of q,by unfold enD; rw [List.length_map,List.length_zipIdx,r.length]; exact Nat.le_refl _⟩
 keep:=fun O O' H H' hp g=>Rep.grow g _ _ hp
theorem xm {es:List Expr} {kk:Nat} {tp:Pos} {a:Expr} {t:TDs} {p pos:Pos} (hm:X.mg "enumerate" = none) (ha:EA Γ X [a] t) (hg:Gl X "enumerate":=by rfl)
  (he:starEach [a] X.env = (false,eval a X.env) :: starEach [] X.env:=by rfl):EI Γ X (.Tuple es kk tp) (.Call (.Name "enumerate" p) [a] [] pos) (iE t):=fun H₀=>impI (L7 hg hm (ha H₀) he) fun σ H R q=>by
 obtain ⟨ρ,o,RE,φ,hφ,k⟩:=q
 refine ⟨ρ,o,RE,_,hφ,fun vs rs H1 s1 rvs h1=>?_⟩
 split at h1
 ·rename_i r
  obtain ⟨n1,h1⟩:=h1
  obtain ⟨v1,w1,rfl,q1,rfl⟩:=rvs
  have p1:=q1.solid (wv n1)
  obtain ⟨kd,d⟩:=r
  cases d with
  | lst l =>
   obtain ⟨a,xs,rfl,q,no,r⟩:=id p1
   exact ⟨a,xs,rfl,SqL.of q,k _ _ _ H1 s1 K4 p1 h1⟩
  | _=>exact h1.elim
 ·exact h1.elim
end
end DL
namespace L2
open PySem PySem.Spec PyProof.Rows
noncomputable def xk {α:Type} (xs:List α) (lo hi st:Option Int):List α :=
 let b:=sliceBounds lo hi st xs.length
 (sliceRange b.1 b.2.1 b.2.2).filterMap fun i=>xs[i]?
section
variable {X:Cx} {e:Expr} {te:TE} {lo hi:Option Expr} {st:Expr} {tl th ts:TO} {pos p2:Pos}
theorem qy {xs:List V} {us:List Value} (r:Vals xs us):∀ is:List Nat,Vals (is.filterMap fun i=>xs[i]?) (is.filterMap fun i=>us[i]?)
 | []=>.nil
 | i :: is=>by
  rw [List.filterMap_cons,List.filterMap_cons]
  cases ex:xs[i]? with
  | none =>
   rw [r.none_of ex]
   exact qy r is
  | some x =>
   obtain ⟨u,eu,ru⟩:=r.get ex
   rw [eu]
   exact .cons ru (qy r is)
noncomputable def Ql (K:W.Frag) (te:TE) (tl th ts:TO):TE:=fun σ H Q=>te σ H fun x H1=>tl σ H1 fun l H2=>th σ H2 fun u H3=>ts σ H3 fun k H4=>∃ a xs,x = .ref a /\ SqL K H4 a xs /\ k ≠ some 0 /\ ∀ p,H4 p = none->Q (.ref p) (upd H4 p (.lst (xk xs l u k)))
theorem L8 (he:PE X e te) (hl:PO X lo tl) (hu:PO X hi th) (hs:PO X (some st) ts):PE X (.Subscript e (.Slice lo hi (some st) p2) pos) (Ql X.K te tl th ts):=by
 intro pn s σ H Q I h
 refine Subscript_ (thn (he pn s σ H _ I h) fun v s1 ⟨x,H1,I1,r1,q1⟩=>?_)
 refine wpAny_Slice (thn (hl pn s1 σ H1 _ I1 q1) fun vl s2 ⟨l,H2,I2,pl,q2⟩=>thn (hu pn s2 σ H2 _ I2 q2) fun vu s3 ⟨u,H3,I3,pu,q3⟩=>thn (hs pn s3 σ H3 _ I3 q3) fun vk s4 ⟨k,H4,I4,pk,a,xs,e1,sq,k0,q⟩=>?_)
 subst e1
 cases r1
 have I5:Inv X pn σ H4 { s4 with heap:=s4.heap.push { cls:=.type "slice", data:=.fields #[vl,vu,vk] } }:=I4.kept (t':=s4.toks) fun b ob q=>Heap.get?_push_of_some _ q
 obtain ⟨its,r,plain,hz⟩:=I5.list sq
 have hlen:its.length = xs.length:=r.length.symm
 show wpAny (model X.prog X.w) X.A (subscriptTail e (.Slice lo hi (some st) p2) (.ref a) (.ref s4.heap.objs.size)) (EP X pn σ Q) X.xe { s4 with heap:=s4.heap.push { cls:=.type "slice", data:=.fields #[vl,vu,vk] } }
 refine tail_any (ops:=[.ref a,.ref s4.heap.objs.size]) plain.isList.typeIs list_getitem_lookup ?_ (by with_unfolding_all rfl)
 refine wpAny_getItem_list_slice plain.isList (Heap.IsSliceOf.new ..) pl pu pk k0 ?_ (by simp; omega)
 refine ⟨.ref _,_,I5.laid (t':=s4.toks) (o:=.lst (xk xs l u k)) (fun b ob q=>Heap.get?_push_of_some _ q) (Nat.le_refl _) ?_,rfl,q _ (I5.hok.fresh (Nat.le_refl _))⟩
 have hp:(slicePick its.toArray l u k).toList = xk its l u k:=by
  unfold slicePick xk
  simp
 have hv:Vals (xk xs l u k) (xk its l u k):=by
  unfold xk
  rw [hlen]
  exact qy r _
 have hle:(xk its l u k).length <= its.length:=by
  have:=slicePick_size_le its.toArray l u k
  rw [<- Array.length_toList,hp] at this
  simpa using this
 refine ⟨by rw [hv.length]; omega,xk its l u k,0,hv,?_⟩
 rw [Heap.get?_push_size _ rfl,<- hp]
end
end L2
namespace DL
open PySem PySem.Spec L2 L3
open PyProof.Rows hiding St
variable {Γ:Hp->Prop}
section
variable {X:Cx} {e:Expr} {te:TD} {pos:Pos}
noncomputable def E1 (te:TD) (tl th ts:TDo):TD:=fun ρ φ=>te ρ fun x=>tl ρ fun l=>th ρ fun u=>ts ρ fun k=>k ≠ some 0 /\ match x.d with
 | .lst ds=>φ (df (.lst (xk ds l u k)))
 | .scr ns=>φ (df (.lst ((xk ns l u k).map D.int)))
 | _=>False
theorem kg {K:W.Frag} {H:Hp} {O:List Addr} {ds:List D} {xs:List V} (r:Reps K H O ds xs):∀ is:List Nat,Reps K H O (is.filterMap fun i=>ds[i]?) (is.filterMap fun i=>xs[i]?)
 | []=>rfl
 | i :: is=>by
  rw [List.filterMap_cons,List.filterMap_cons]
  cases ex:ds[i]? with
  | none =>
   have:xs[i]? = none:=by
    rw [List.getElem?_eq_none_iff] at ex ⊢
    rw [r.length]
    exact ex
   rw [this]
   exact kg r is
  | some d =>
   obtain ⟨v,ev,rv⟩:=r.get ex
   rw [ev]
   exact ⟨v,_,rfl,rv,kg r is⟩
theorem Yq {K:W.Frag} {H:Hp} {O:List Addr} {ds:List D} {xs:List V} (r:Reps K H O ds xs) (l u k:Option Int):Reps K H O (xk ds l u k) (xk xs l u k):=by
 unfold xk
 rw [r.length]
 exact kg r _
theorem Wh {α β:Type} (f:α->β) (xs:List α) (l u k:Option Int):xk (xs.map f) l u k = (xk xs l u k).map f:=by
 unfold xk
 rw [List.length_map,List.map_filterMap]
 dsimp only
 congr 1
 funext i
 rw [List.getElem?_map]
theorem Ki {lo hi:Option Expr} {st:Expr} {tl th ts:TDo} {p2:Pos} (he:ED Γ X e te) (hl:EO Γ X lo tl) (hu:EO Γ X hi th) (hs:EO Γ X (some st) ts):ED Γ X (.Subscript e (.Slice lo hi (some st) p2) pos) (E1 te tl th ts):=fun H₀ =>
 impE (L8 (he H₀) (hl H₀) (hu H₀) (hs H₀)) fun σ H Q q=>by
  obtain ⟨ρ,o,R,φ,hφ,kk⟩:=q
  refine ⟨ρ,o,R,_,hφ,fun v r H1 s1 rv h1=>⟨ρ,o,R.to s1,_,h1,fun l H2 s2 h2=>⟨ρ,o,R.to (s1.trans s2),_,h2,fun u H3 s3 h3=>⟨ρ,o,R.to ((s1.trans s2).trans s3),_,h3,fun k H4 s4 h4=>?_⟩⟩⟩⟩
  have s14:=((s1.trans s2).trans s3).trans s4
  have vw:=(rv.same ((s2.trans s3).trans s4)).view
  obtain ⟨h0,h4⟩:=h4
  obtain ⟨kd,d⟩:=r
  cases d with
  | lst ds =>
   obtain ⟨a,xs,rfl,q,r⟩:=vw
   refine ⟨a,xs,rfl,SqL.of q,h0,fun p hp=>?_⟩
   exact kk _ _ _ (s14.trans (zu hp _)) (RV.start (uy (fun a e=>R.ofree (s14.free e)) hp (Yq r l u k)) s14) h4
  | scr ns =>
   obtain ⟨a,rfl,q⟩:=vw
   refine ⟨a,_,rfl,q.seq,h0,fun p hp=>?_⟩
   rw [Wh]
   exact kk _ _ _ (s14.trans (zu hp _)) (RV.start (uy (fun a e=>R.ofree (s14.free e)) hp (Reps.ints _)) s14) h4
  | _=>exact h4.elim
end
noncomputable abbrev TK:=List Key
noncomputable instance decMemTK (k:TK) (ks:List TK):Decidable (k ∈ ks):=decidable_of_iff (ks.any (fun x=>decide (x = k)) = true) (by simp)
end DL
namespace L2
open PySem PySem.Spec PySem.W PyProof.Rows
noncomputable def D7:Key->Option Int
 | .inl i=>some i
 | .inr _=>none
end L2
namespace DL
open PySem PySem.Spec L2 L3
open PyProof.Rows hiding St
variable {Γ:Hp->Prop}
noncomputable def zK (k:TK):List Int:=k.filterMap D7
section
variable {X:Cx} {σ:St} {scope:Scope} {T F:List Str} {js:List Nat} {tg iter elt:Expr} {ifs:List Expr} {pos:Pos} {ti:TID} {g2:TG} {g:TGD} {tc:TDb} {te:TD}
noncomputable def Rx (ti:TID) (n:Nat) (js:List Nat) (g:TGD) (tc:TDb) (te:TD):TD:=fun ρ φ=>ti ρ fun ds=>∃ P:Nat->List D->Prop,ds.length <= 100000 /\ P 0 [] /\
 (∀ (i:Nat) (d:D) (es:List D),ds[i]? = some d->es.length <= i->P i es->g d (ρ0 n js ρ) fun ρ'=>tc ρ' fun c=>(c = true->te ρ' fun r=>(match r.k with | .own=>False | _=>True) /\ P (i + 1) (es ++ [r.d])) /\ (c = false->P (i + 1) es)) /\ ∀ es,P ds.length es->φ (df (.lst es))
theorem Vx {H₀:Hp} (nd:js.Nodup) (hl:bu X.K g2 g):∀ σ H Q,vc X.K H₀ (Rx ti T.length js g tc te) σ H Q->Qm (Lu X.K H₀ ti) T js g2 (kz X.K H₀ tc) (vc X.K H₀ te) σ H Q:=fun σ H Q q=>by
  obtain ⟨ρ,o,R,φ,hφ,k⟩:=q
  refine ⟨ρ,o,R,_,hφ,fun J ds P H1 s1 I hP ⟨PP,hlen,P0,turn,fin⟩ Da hDa=>?_⟩
  have R1:=R.to s1
  have gD:∀ {H':Hp},Same H1 H'->Grow (o.map Prod.snd) (Da :: o.map Prod.snd) H1 H':=fun s=>⟨fun b u h nb=>⟨s b u h,fun z=>(List.mem_cons.mp z).elim (fun e=>ze h hDa e) nb⟩,fun b xs h=>s b _ h,fun b ob u h=>s b _ h⟩
  refine ⟨fun i m ys H'=>m = ds.length - i /\ i <= ds.length /\ Same H1 H' /\ H' Da = some (.lst ys) /\ ∃ es,es.length <= i /\ PP i es /\ Reps X.K H' (Da :: o.map Prod.snd) es ys,
   ⟨_,rfl,Nat.zero_le _,zu hDa _,zk,[],Nat.le_refl _,P0,rfl⟩,?_⟩
  rintro i m ys H' ⟨rfl,hi',s2,hD',es,le,pe,rp⟩
  refine ⟨hD',?_⟩
  have hP':=I.keep _ _ _ _ hP (gD s2)
  by_cases hlt:i < ds.length
  ·have ed:ds[i]? = some ds[i]:=by simp [hlt]
   obtain ⟨j1,j2⟩:=I.go H' _ i _ hP' ed
   refine .inr ⟨j1,fun zs H2=>Same H1 H2 /\ H2 Da = some (.lst zs) /\ ∃ es,es.length <= i + 1 /\ PP (i + 1) es /\ Reps X.K H2 (Da :: o.map Prod.snd) es zs,fun zs H2 ⟨a1,a2,a3⟩=>⟨_,(by omega:ds.length - (i + 1) < ds.length - i),rfl,hlt,a1,a2,a3⟩,fun x H2 y=>?_⟩
   obtain ⟨s3,rx⟩:=j2 x H2 y
   have s13:=s2.trans s3
   have hD2:=s3 _ _ hD'
   have RB:=gf (n:=T.length) R1 nd hDa s13 hD2 T rfl
   have hO:((T.length + js.length,Da) :: o.map fun p=>(ixO T.length js p.1,p.2)).map Prod.snd = Da :: o.map Prod.snd:=by
    rw [List.map_cons,List.map_map]
    rfl
   have rpl:ys.length <= 100000:=by
    rw [rp.length]
    omega
   refine hl H₀ H2 (st0 T js σ) (ρ0 T.length js ρ) _ _ x _ _ RB (by rw [hO]; exact rx) (turn i _ es ed le pe) fun ρ' σ' R' q'=>?_
   refine ⟨ρ',_,R',_,q',fun c H3 s4 h4=>?_⟩
   have hD3:=s4 _ _ hD2
   cases c with
   | false =>
    exact iteF ⟨s13.trans s4,hD3,es,Nat.le_succ_of_le le,h4.2 rfl,Reps.grow (Grow.same (s3.trans s4)) _ _ rp⟩
   | true =>
    refine iteT ⟨ρ',_,R'.to s4,_,h4.1 rfl,fun v r H4 s5 rv h5=>?_⟩
    have hD4:=s5 _ _ hD3
    have rd:=rv.solid (wv h5.1)
    rw [hO] at rd
    have ne:∀ b u,H1 b = some u->b ≠ Da:=fun b u h=>ze h hDa
    have gu:Grow (Da :: o.map Prod.snd) (Da :: o.map Prod.snd) H4 (upd H4 Da (.lst (ys ++ [v]))) :=
     ⟨fun b u h n=>⟨by rw [zj (fun z=>n (List.mem_cons.mpr (.inl z)))]; exact h,n⟩,fun b xs h=>by rw [zj (fun z=>by rw [z,hD4] at h; cases h)]; exact h,fun b ob u h=>by rw [zj (fun z=>by rw [z,hD4] at h; cases h)]; exact h⟩
    refine ⟨hD4,Nat.lt_of_le_of_lt rpl (by decide),⟨fun b u h=>?_,zk,es ++ [r.d],by rw [List.length_append]; exact Nat.succ_le_succ le,h5.2,?_⟩⟩
    ·rw [zj (ne b u h)]
     exact s5 _ _ (s4 _ _ (s13 b u h))
    ·exact Reps.grow gu _ _ ((Reps.grow (Grow.same (s3.trans (s4.trans s5))) _ _ rp).append (Reps.one rd))
  ·have e:i = ds.length:=by omega
   subst e
   refine .inl ⟨I.stop H' _ hP',?_⟩
   exact k (.ref Da) (df (.lst es)) H' (s1.trans s2) ⟨Da,rfl,s1.free hDa,R.ofree (s1.free hDa),ys,hD',rp⟩ (fin es pe)
theorem je {ti:TID} {n:Nat} {js:List Nat} {g:TGD} {tc:TDb} {te:TD} {ρ:DE} {φ:EV->Prop} (ds:List D) (h:∀ ψ:List D->Prop,ψ ds->ti ρ ψ) (P:Nat->List D->Prop) (hl:ds.length <= 100000) (h0:P 0 [])
  (ht:∀ (i:Nat) (d:D) (es:List D),ds[i]? = some d->es.length <= i->P i es->g d (ρ0 n js ρ) fun ρ'=>tc ρ' fun c=>(c = true->te ρ' fun r=>(match r.k with | .own=>False | _=>True) /\ P (i + 1) (es ++ [r.d])) /\ (c = false->P (i + 1) es)) (hφ:∀ es,P ds.length es->φ (df (.lst es))):Rx ti n js g tc te ρ φ:=h _ ⟨P,hl,h0,ht,hφ⟩
theorem uj (i:Nat) {y:Str} {py spos:Pos} (hN:X.N.Nodup) (hi:EI Γ X tg iter ti) (S:zl X.env.scope scope T F) (hjs:Paired (fun x j=>X.N[j]? = some x) F js) (nd:js.Nodup)
  (hg:∀ cl C fp s H,PG (ym X (T ++ F) scope cl C fp s H) tg g2) (hk:jz T.length g2) (hl:bu X.K g2 g)
  (ht:∀ cl C fp s H,EIf Γ (ym X (T ++ F) scope cl C fp s H) ifs tc) (he:∀ cl C fp s H,ED Γ (ym X (T ++ F) scope cl C fp s H) elt te)
  (hc:X.calm = true:=by rfl) (hs:∀ x,foldedSetIterable iter X.env x = pure x:=by intro _; rfl) (hy:X.N[i]? = some y:=by rfl) (hlo:X.env.scope.names.lookup y = some .local:=by rfl) (hsw:swapsWith (.ListComp elt [⟨tg,iter,ifs,0⟩] scope pos) (some (.Name y py)) spos.line X.env = pure true:=by rfl):SD Γ X (.Assign [.Name y py] (.ListComp elt [⟨tg,iter,ifs,0⟩] scope pos) spos) (sSet i (Rx ti T.length js g tc te)):=fun H₀ =>
 impS (ss (tc:=kz X.K H₀.1 tc) (te:=vc X.K H₀.1 te) hc hN hy (.inl hlo) (hi H₀) S hjs hg hk (fun cl C fp s H=>ht cl C fp s H H₀) (fun cl C fp s H=>he cl C fp s H H₀) hsw hs (.inr hlo)) fun D σ H h=>by
  obtain ⟨ρ,o,R,Z,hZ,k1,k2,k3,k4⟩:=h
  refine Vx nd hl σ H _ ⟨ρ,o,R,_,hZ,fun v r H1 s1 rv h1=>?_⟩
  obtain ⟨o',R',g'⟩:=R.put s1 i rv (wv h1.1)
  exact k1 _ _ H1 o' g' R' h1.2
end
theorem Jo {K:W.Frag} {H H':Hp} {a:Addr} {xs:List V} (kt:∀ b xs,H b = some (.tup xs)->H' b = some (.tup xs)) (kf:∀ b o u,H b = some (.frz o u)->H' b = some (.frz o u)) (h:SqR K H a xs):SqR K H' a xs:=by
 obtain ⟨h1,h2⟩:=h
 refine ⟨?_,kt _ _ h2⟩
 rcases h1 with (h | ⟨o,h⟩) | h
 ·exact .inl (.inl (kt _ _ h))
 ·exact .inl (.inr ⟨o,kf _ _ _ h⟩)
 ·exact .inr h
theorem Jy {K:W.Frag} {H H':Hp} {a:Addr} {ns:List Int} (kf:∀ b o u,H b = some (.frz o u)->H' b = some (.frz o u)) (h:Scr K H a ns):Scr K H' a ns:=by
 rcases h with ⟨o,h⟩ | h
 ·exact .inl ⟨o,kf _ _ _ h⟩
 ·exact .inr h
mutual
theorem RepN.go {K:W.Frag} {P P':Addr->Prop} {H H':Hp} (kt:∀ b xs,H b = some (.tup xs)->H' b = some (.tup xs)) (kf:∀ b o u,H b = some (.frz o u)->H' b = some (.frz o u)) (g:∀ b u,P b->H b = some u->H' b = some u /\ P' b):∀ (d:D) (v:V),RepN K H P d v->RepN K H' P' d v
 | .non,_,h=>h
 | .bl _,_,h=>h
 | .int _,_,h=>h
 | .str _,_,h=>h
 | .ty _,_,h=>h
 | .cn _,_,h=>h
 | .tup ds,v,h=>by
  obtain ⟨a,xs,e,q,r⟩:=h
  exact ⟨a,xs,e,Jo kt kf q,zx.go kt kf g ds xs r⟩
 | .lst ds,v,h=>by
  obtain ⟨a,xs,e,q,n,r⟩:=h
  exact ⟨a,xs,e,(g a _ n q).1,(g a _ n q).2,zx.go kt kf g ds xs r⟩
 | .scr ns,v,h=>by
  obtain ⟨a,e,q⟩:=h
  exact ⟨a,e,Jy kf q⟩
 | .dz rs,v,h=>by
  obtain ⟨a,e,q⟩:=h
  exact ⟨a,e,let ⟨o,z⟩:=q.1; ⟨o,kf _ _ _ z⟩,q.2⟩
 | .exc C,v,h=>by
  obtain ⟨a,e,q,n⟩:=h
  exact ⟨a,e,(g a _ n q).1,(g a _ n q).2⟩
 | .fd C,v,h=>by
  obtain ⟨a,e,q,n⟩:=h
  exact ⟨a,e,(g a _ n q).1,(g a _ n q).2⟩
 | .dk ks ds,v,h=>by
  obtain ⟨a,xs,e,q,n,l,nd,r⟩:=h
  exact ⟨a,xs,e,(g a _ n q).1,(g a _ n q).2,l,nd,zx.go kt kf g ds xs r⟩
 | .dt ks ds,v,h=>by
  obtain ⟨a,xs,e,q,n,l,nd,r⟩:=h
  exact ⟨a,xs,e,(g a _ n q).1,(g a _ n q).2,l,nd,zx.go kt kf g ds xs r⟩
 | .ob C ns ds,v,h=>by
  obtain ⟨a,dx,xs,e,q,n,l,nd,r⟩:=h
  exact ⟨a,dx,xs,e,(g a _ n q).1,(g a _ n q).2,l,nd,zx.go kt kf g ds xs r⟩
theorem zx.go {K:W.Frag} {P P':Addr->Prop} {H H':Hp} (kt:∀ b xs,H b = some (.tup xs)->H' b = some (.tup xs)) (kf:∀ b o u,H b = some (.frz o u)->H' b = some (.frz o u)) (g:∀ b u,P b->H b = some u->H' b = some u /\ P' b):∀ (ds:List D) (xs:List V),zx K H P ds xs->zx K H' P' ds xs
 | [],_,h=>h
 | d :: ds,xs,h=>by
  obtain ⟨v,r,e,q,t⟩:=h
  exact ⟨v,r,e,RepN.go kt kf g d v q,zx.go kt kf g ds r t⟩
end
end DL
namespace LQ
open PySem PySem.Spec L2 L3
open PyProof.Rows hiding St
noncomputable def dd (l:List Str) (k:Str):List Str:=if k ∈ l then l else l ++ [k]
noncomputable def many (l:List Str):Nat:=(l.foldl dd []).length
section
variable {X:Cx}
end
end LQ
namespace LQ
open PySem PySem.Spec PyProof.Rows
section
variable {P:Program} {w:World} {A:Around} {E:Value->Shared->Prop} {s:Shared}
structure ZAt (g:Heap) (z ti to i1 i2 l1 l2:Addr) (f:Value) (k:Nat):Prop where
 zz:IsZip g z ti to f
 its:IsPair g ti (.ref i1) (.ref i2)
 out:∃ a b,IsPair g to a b
 one:g.IsTupleIter i1 l1 k
 two:g.IsListIter i2 l2 k
structure ZNe (z ti to i1 i2:Addr):Prop where
 ab:ti ≠ z
 ac:to ≠ z
 ad:i1 ≠ z
 ae:i2 ≠ z
 bc:ti ≠ to
 bd:ti ≠ i1
 be:ti ≠ i2
 cd:to ≠ i1
 ce:to ≠ i2
 de:i1 ≠ i2
end
end LQ
namespace LQ
open PySem PySem.Spec L2 L3
open PyProof.Rows hiding St
end LQ
namespace L3
open PySem PySem.Spec L2
open PyProof.Rows hiding St
section
variable {X:Cx} {pn:List (Addr × Obj)} {σ:St} {H2:Hp} {s2:Shared} {scope:Scope} {T F:List Str} {cl:List (Str × Addr)} {fp:List Addr} {js:List Nat} {tg iter elt:Expr} {ifs:List Expr} {pos:Pos}
 {g:TG} {tc:TT} {te:TE} {J:It} {it:Addr} {tn:Nat->Heap->Prop} {E:Value->Shared->Prop} {RR:Value->Addr->Result->Shared->Prop}
end
end L3
namespace DL
open PySem PySem.Spec L2 L3
open PyProof.Rows hiding St
structure Gt (H H':Hp):Prop where
 tups:∀ b xs,H b = some (.tup xs)->H' b = some (.tup xs)
 frzs:∀ b o u,H b = some (.frz o u)->H' b = some (.frz o u)
theorem Gt.trans {H H1 H2:Hp} (a:Gt H H1) (b:Gt H1 H2):Gt H H2:=⟨fun c xs h=>b.tups c xs (a.tups c xs h),fun c o u h=>b.frzs c o u (a.frzs c o u h)⟩
mutual
noncomputable def Ft (K:W.Frag) (H:Hp):D->V->List Addr->Prop
 | .lst ds,v,A=>∃ a xs B,v = .ref a /\ H a = some (.lst xs) /\ A = a :: B /\ Fts K H ds xs B
 | .dk ks ds,v,A=>∃ a xs B,v = .ref a /\ H a = some (.dK (ks.zip xs)) /\ ks.length = ds.length /\ ks.Nodup /\ A = a :: B /\ Fts K H ds xs B
 | .tup ds,v,A=>∃ a xs,v = .ref a /\ SqR K H a xs /\ Fts K H ds xs A
 | .non,v,A=>A = [] /\ v = .non
 | .bl b,v,A=>A = [] /\ v = .bl b
 | .int i,v,A=>A = [] /\ v = .int i
 | .str x,v,A=>A = [] /\ v = .str x
 | .ty n,v,A=>A = [] /\ v = .ty n
 | .cn c,v,A=>A = [] /\ CRep K c v
 | .scr ns,v,A=>A = [] /\ ∃ a,v = .ref a /\ Scr K H a ns
 | .dz rs,v,A=>A = [] /\ ∃ a,v = .ref a /\ Dz H a rs
 | .exc _,_,_=>False
 | .fd _,_,_=>False
 | .dt _ _,_,_=>False
 | .ob C ns ds,v,A=>∃ a dx xs B,v = .ref a /\ H a = some (.ins C dx (ns.zip xs)) /\ ns.length = ds.length /\ ns.Nodup /\ A = a :: B /\ Fts K H ds xs B
noncomputable def Fts (K:W.Frag) (H:Hp):List D->List V->List Addr->Prop
 | [],xs,A=>xs = [] /\ A = []
 | d :: ds,xs,A=>∃ v r B C,xs = v :: r /\ A = B ++ C /\ Ft K H d v B /\ Fts K H ds r C
end
noncomputable def hid:Nat->DE->DE
 | _,[]=>[]
 | 0,_ :: ρ=>none :: ρ
 | l + 1,x :: ρ=>x :: hid l ρ
noncomputable def tg (l:Nat) (A:List Addr):List (Nat × Addr):=A.map fun a=>(l,a)
structure ST (K:W.Frag) (H₀ H:Hp) (σ:St) (ρ:DE) (o:List (Nat × Addr)) (l:Nat) (A:List Addr) (d:D) (v:V):Prop where
 Q:REnv K H₀ H σ (hid l ρ) (o ++ tg l A)
 hd:ρ[l]? = some (some (dv d))
 hv:σ[l]? = some (some v)
 ft:Ft K H d v A
noncomputable abbrev TQ:=DE->(D->DE->Prop)->Prop
noncomputable abbrev TQs:=DE->(List D->DE->Prop)->Prop
noncomputable abbrev TQb:=DE->(Bool->DE->Prop)->Prop
structure QZ where
 nx:DE->Prop
 rt:D->DE->Prop
 bk:DE->Prop:=fun _=>False
 ct:DE->Prop:=fun _=>False
noncomputable abbrev TQS:=DE->QZ->Prop
noncomputable def Ez (K:W.Frag) (H₀:Hp) (l:Nat) (t:TQ):TE:=fun σ H Q=>∃ ρ o A d v,ST K H₀ H σ ρ o l A d v /\ ∃ φ,t ρ φ /\ ∀ u e ρ' H' A' d',Grow A A' H H'->ST K H₀ H' σ ρ' o l A' d' v->dw e->Rep K H' [] e u->φ e ρ'->Q u H'
noncomputable def Gr (K:W.Frag) (H₀:Hp) (l:Nat) (t:TQb):TT:=fun σ H Q=>∃ ρ o A d v,ST K H₀ H σ ρ o l A d v /\ ∃ φ,t ρ φ /\ ∀ b ρ' H' A' d',Grow A A' H H'->ST K H₀ H' σ ρ' o l A' d' v->φ b ρ'->Q b H'
noncomputable def Gu (K:W.Frag) (H₀:Hp) (l:Nat) (t:TQs):TA:=fun σ H Q=>∃ ρ o A d v,ST K H₀ H σ ρ o l A d v /\ ∃ φ,t ρ φ /\ ∀ us es ρ' H' A' d',Grow A A' H H'->ST K H₀ H' σ ρ' o l A' d' v->Reps K H' (o.map Prod.snd ++ A') es us->φ es ρ'->Q us H'
noncomputable def Nl (K:W.Frag) (H₀:Hp) (l:Nat) (t:TQS):TS:=fun Dz σ H=>∃ ρ o A d v,ST K H₀ H σ ρ o l A d v /\ ∃ Z,t ρ Z /\
 (∀ ρ' σ' H' o' A' d',ST K H₀ H' σ' ρ' o' l A' d' v->Z.nx ρ'->Dz.nx σ' H') /\
 (∀ ρ' σ' H' o' A' d',ST K H₀ H' σ' ρ' o' l A' d' v->Z.bk ρ'->Dz.bk σ' H') /\
 (∀ ρ' σ' H' o' A' d',ST K H₀ H' σ' ρ' o' l A' d' v->Z.ct ρ'->Dz.ct σ' H') /\
 (∀ u e ρ' σ' H' o' A' d',ST K H₀ H' σ' ρ' o' l A' d' v->dw e->Rep K H' [] e u->Z.rt e ρ'->Dz.rt u H')
noncomputable def EQ (G:Hp->Prop) (l:Nat) (X:Cx) (e:Expr) (t:TQ):Prop:=∀ H₀:{H:Hp // G H},PE X e (Ez X.K H₀.1 l t)
noncomputable def QT (G:Hp->Prop) (l:Nat) (X:Cx) (e:Expr) (t:TQb):Prop:=∀ H₀:{H:Hp // G H},PT X e (Gr X.K H₀.1 l t)
noncomputable def QA (G:Hp->Prop) (l:Nat) (X:Cx) (es:List Expr) (t:TQs):Prop:=∀ H₀:{H:Hp // G H},PA X es (Gu X.K H₀.1 l t)
noncomputable def QS (G:Hp->Prop) (l:Nat) (X:Cx) (st:Stmt) (t:TQS):Prop:=∀ H₀:{H:Hp // G H},PS X st (Nl X.K H₀.1 l t)
noncomputable def QSs (G:Hp->Prop) (l:Nat) (X:Cx) (st:List Stmt) (t:TQS):Prop:=∀ H₀:{H:Hp // G H},PSs X st (Nl X.K H₀.1 l t)
theorem v6:∀ {ρ:DE} {i:Nat} {r:EV},ρ[i]? = some (some r)->slot ρ i = some r
 | [],_,_,h=>by cases h
 | _ :: _,0,_,h=>Option.some.inj h
 | _ :: ρ,i + 1,r,h=>v6 (ρ:=ρ) (i:=i) (by simpa using h)
variable {Γ:Hp->Prop} {l:Nat}
section
variable {X:Cx} {e:Expr} {es:List Expr} {pos:Pos}
noncomputable def qE (te:TD):TQ:=fun ρ φ=>te ρ fun r=>dw r.d /\ φ r.d ρ
end
end DL
namespace DL
open PySem PySem.Spec L2 L3
open PyProof.Rows hiding St
variable {Γ:Hp->Prop} {l:Nat}
noncomputable def Gs (K:W.Frag) (H₀:Hp) (l:Nat) (t:TQs):TE:=fun σ H Q=>∃ ρ o A d v,ST K H₀ H σ ρ o l A d v /\ ∃ φ,t ρ φ /\
 ∀ a xs es ρ' H' A' d',Grow A A' H H'->ST K H₀ H' σ ρ' o l A' d' v->H' a = some (.lst xs)->a ∉ A'->a ∉ o.map Prod.snd->wb es->Reps K H' [] es xs->φ es ρ'->Q (.ref a) H'
noncomputable def QL (G:Hp->Prop) (l:Nat) (X:Cx) (e:Expr) (t:TQs):Prop:=∀ H₀:{H:Hp // G H},PE X e (Gs X.K H₀.1 l t)
end DL
namespace DL
open PySem PySem.Spec L2 L3
open PyProof.Rows hiding St
section
variable {K:W.Frag} {H H':Hp}
theorem Fts.length:∀ {ds:List D} {xs:List V} {A:List Addr},Fts K H ds xs A->xs.length = ds.length
 | [],_,_,h=>by rw [h.1]; rfl
 | d :: ds,xs,A,h=>by
  obtain ⟨v,r,B,C,rfl,_,_,t⟩:=h
  simp [Fts.length t]
end
variable {Γ:Hp->Prop} {l:Nat}
section
variable {X:Cx} {x:Str} {e ke:Expr} {es:List Expr} {te tk:TD} {np apos cpos pos pos':Pos}
end
end DL
namespace DL
open PySem PySem.Spec L2 L3
open PyProof.Rows hiding St
variable {Γ:Hp->Prop} {l:Nat}
end DL
namespace DL
open PySem PySem.Spec L2 L3
open PyProof.Rows hiding St
structure CO (K:W.Frag) (C:Addr) (ns:List Str):Prop where
 cl:Cls K C
 na:∀ f ∈ ns,se K C f
noncomputable def ixF:List Str->Str->Option Nat
 | [],_=>none
 | n :: ns,f=>if n = f then some 0 else (ixF ns f).map (· + 1)
theorem ra {α:Type} {f:Str}:∀ {ns:List Str} {xs:List α} {i:Nat},ixF ns f = some i->ns.length = xs.length->(ns.zip xs).lookup f = xs[i]?
 | [],_,_,h,_=>by cases h
 | n :: ns,[],_,_,l=>by simp at l
 | n :: ns,x :: xs,i,h,l=>by
  unfold ixF at h
  by_cases e:n = f
  ·rw [if_pos e] at h
   cases h
   subst e
   simp [List.lookup]
  ·rw [if_neg e] at h
   obtain ⟨j,hj,rfl⟩:=Option.map_eq_some_iff.mp h
   have hne:(f == n) = false:=beq_eq_false_iff_ne.mpr (fun z=>e z.symm)
   show (List.lookup f ((n,x) :: ns.zip xs)) = _
   rw [List.lookup,hne]
   simpa using ra hj (by simpa using l)
theorem cg {f:Str}:∀ {ns:List Str} {i:Nat},ixF ns f = some i->f ∈ ns
 | [],_,h=>by cases h
 | n :: ns,i,h=>by
  unfold ixF at h
  by_cases e:n = f
  ·exact e ▸ List.mem_cons_self
  ·rw [if_neg e] at h
   obtain ⟨j,hj,rfl⟩:=Option.map_eq_some_iff.mp h
   exact List.mem_cons_of_mem _ (cg hj)
theorem Wd {f:Str} {y:V}:∀ {ns:List Str} {xs:List V} {i:Nat},ixF ns f = some i->ns.length = xs.length->putF f y (ns.zip xs) = ns.zip (xs.set i y)
 | [],_,_,h,_=>by cases h
 | n :: ns,[],_,_,l=>by simp at l
 | n :: ns,x :: xs,i,h,l=>by
  unfold ixF at h
  show (if n = f then (n,y) :: ns.zip xs else (n,x) :: putF f y (ns.zip xs)) = _
  by_cases e:n = f
  ·rw [if_pos e] at h ⊢
   cases h
   rfl
  ·rw [if_neg e] at h ⊢
   obtain ⟨j,hj,rfl⟩:=Option.map_eq_some_iff.mp h
   rw [Wd hj (by simpa using l)]
   rfl
variable {Γ:Hp->Prop} {l:Nat}
end DL
namespace DL
open PySem PySem.Spec L2 L3
open PyProof.Rows hiding St
variable {Γ:Hp->Prop} {l:Nat}
section
variable {X:Cx} {x f:Str} {e ke oe:Expr} {es:List Expr} {te tk:TD} {np apos cpos pos pos':Pos} {C:Addr} {ns:List Str}
noncomputable def dFld (C:Addr) (ns:List Str) (f:Str) (te:TD):TD:=fun ρ φ=>te ρ fun r=>match r.d with
 | .ob C' ns' ds=>C' = C /\ ns' = ns /\ (match ixF ns f with
  | some i=>(match ds[i]? with
   | some x=>φ (dv x)
   | none=>False)
  | none=>False)
 | _=>False
theorem yf (O:CO X.K C ns) (he:ED Γ X e te) (hb:attributeBase e f X.env (eval e X.env) = eval e X.env:=by rfl):ED Γ X (.Attribute e f pos) (dFld C ns f te):=fun H₀=>impE (Ng (he H₀) hb) fun σ H Q q=>by
 obtain ⟨ρ,o,R,φ,hφ,k⟩:=q
 refine ⟨ρ,o,R,_,hφ,fun v r H1 s1 rv h1=>?_⟩
 have vw:=rv.view
 obtain ⟨kd,d⟩:=r
 cases d with
 | ob C' ns' ds =>
  obtain ⟨rfl,rfl,h1⟩:=h1
  obtain ⟨a,dx,xs,rfl,q,_,ln,nd,rr⟩:=vw
  split at h1
  ·rename_i i ei
   split at h1
   ·rename_i y ey
    obtain ⟨w,ew,rw'⟩:=rr.get ey
    exact ⟨a,_,dx,_,w,rfl,q,O.cl,O.na f (cg ei),by rw [ra ei (by rw [ln,rr.length])]; exact ew,k _ (dv y) H1 s1 rw' h1⟩
   ·exact h1.elim
  ·exact h1.elim
 | _=>exact h1.elim
end
section
variable {K:W.Frag} {H₀ H:Hp} {σ:St} {ρ:DE} {o:List (Nat × Addr)} {l:Nat} {A:List Addr} {d:D} {v:V}
theorem u7 {α:Type} {f:Str}:∀ {ns:List Str} {xs:List α},f ∉ ns->(ns.zip xs).lookup f = none
 | [],_,_=>rfl
 | n :: ns,[],_=>rfl
 | n :: ns,x :: xs,h=>by
  rw [List.zip_cons_cons,List.lookup,beq_eq_false_iff_ne.mpr (fun z=>h (by rw [z]; exact List.mem_cons_self))]
  exact u7 fun z=>h (List.mem_cons_of_mem _ z)
theorem dq {f:Str} {y:V}:∀ {ns:List Str} {xs:List V},f ∉ ns->ns.length = xs.length->putF f y (ns.zip xs) = (ns ++ [f]).zip (xs ++ [y])
 | [],[],_,_=>rfl
 | [],_ :: _,_,h=>by simp at h
 | _ :: _,[],_,h=>by simp at h
 | n :: ns,x :: xs,h,l=>by
  show (if n = f then (n,y) :: ns.zip xs else (n,x) :: putF f y (ns.zip xs)) = _
  rw [if_neg (fun z=>h (by rw [z]; exact List.mem_cons_self)),dq (fun z=>h (List.mem_cons_of_mem _ z)) (by simpa using l)]
  rfl
end
theorem Rz (rs us:List D) (h:us ≠ []):cutD (rs ++ us) (some (-(us.length:Int))) none = us /\ cutD (rs ++ us) none (some (-(us.length:Int))) = rs:=by
 have hp:=List.length_pos_iff.mpr h
 have e:HT.sIx (rs ++ us).length 0 (some (-(us.length:Int))) = rs.length:=by
  unfold HT.sIx
  simp only [List.length_append]
  rw [if_pos (by omega)]
  omega
 have e2:HT.sIx (rs ++ us).length (rs ++ us).length (some (-(us.length:Int))) = rs.length:=by
  unfold HT.sIx
  simp only [List.length_append]
  rw [if_pos (by omega)]
  omega
 refine ⟨?_,?_⟩
 ·unfold cutD
  rw [e]
  rw [List.drop_left]
  show us.take ((rs ++ us).length - rs.length) = us
  rw [List.length_append]
  exact List.take_of_length_le (by omega)
 ·unfold cutD
  rw [e2]
  show (rs ++ us).take (rs.length - 0) = rs
  rw [Nat.sub_zero,List.take_left]
end DL
namespace DL
open PySem PySem.Spec L2 L3
open PyProof.Rows hiding St
open PySem.Builtin.Int (intBits)
variable {Γ:Hp->Prop}
section
variable {X:Cx} {C:Addr} {ns ps:List Str} {m:Str} {T:FT} {te:TD} {t:TDs} {k:Nat} {o e:Expr} {es:List Expr} {apos pos:Pos}
structure FMD (P:Program) (w:World) (K:W.Frag) (mg:Str->Option Value) (base:Heap) (k:Nat) (C:Addr) (ns:List Str) (m:Str) (ps:List Str) (T:FT):Prop where
 ex:∃ f fd,FnOk P w K mg base CX0 k f fd ps (spD K ps.length T) /\ vf K fd ps [] /\ Meth K C m f
 no:m ∉ ns
noncomputable def Ko (n:Nat) (C:Addr) (ns:List Str) (T:FT) (te:TD) (t:TDs):TD:=fun ρ φ=>te ρ fun r=>(∃ ds,r.d = .ob C ns ds) /\ t ρ fun rs=>Nat.beq (rs.length + 1) n = true /\ T (r.d :: rs.map EV.d) φ
theorem v8 {pl:Sem Bool} (O:CO X.K C ns) (F:FMD X.prog X.w X.K X.mg X.base k C ns m ps T) (hr:Room k X.A) (ho:ED Γ X o te) (ha:EA Γ X (e :: es) t)
  (hst:starEach (e :: es) X.env = (false,eval e X.env) :: starEach es X.env:=by rfl) (hpl:(backTo pos (starEach es X.env)).any (·.1) = false:=by rfl)
  (ht:eval (.Call (.Attribute o m apos) (e :: es) [] pos) X.env = (do
   let ov <- eval o X.env
   standAt apos.atName
   let (f,first) <- holding [ov] (getMethod ov m pl)
   callWith pos f first (backTo pos (starEach (e :: es) X.env)) (backToKw pos (keywordEach [] X.env))):=by rfl) :
  ED Γ X (.Call (.Attribute o m apos) (e :: es) [] pos) (Ko ps.length C ns T te t):=fun H₀=>by
 obtain ⟨f,fd,ok,b,hm⟩:=F.ex
 refine impE (Tj (ho H₀) O.cl hm ok hr b .nil Yr (ha H₀) hst hpl ht) fun σ H Q q=>?_
 obtain ⟨ρ,o,R,φ,hφ,k⟩:=q
 refine ⟨ρ,o,R,_,hφ,fun v r H1 s1 rv h1=>?_⟩
 obtain ⟨⟨ds,ed⟩,h1⟩:=h1
 have vw:=rv.view
 obtain ⟨kd,d⟩:=r
 cases ed
 have v0:Rep X.K H1 [] (.ob C ns ds) v:=vw.rep0
 obtain ⟨a,dx,xs,rfl,q,_,ln,nd,rr⟩:=vw
 refine ⟨a,dx,_,rfl,q,u7 F.no,ρ,o,R.to s1,_,h1,fun vs rs H2 s2 rvs h2=>?_⟩
 show spD X.K ps.length T (.ref a :: (vs ++ [])) H2 Q E0
 rw [List.append_nil]
 refine ⟨.ob C ns ds :: rs.map EV.d,φ,by rw [List.length_cons,List.length_map]; exact Nat.eq_of_beq_eq_true h2.1,⟨_,_,rfl,Rep.grow (Grow.same s2) _ _ v0,rvs.reps0⟩,h2.2,fun u r' H3 s3 rv' pr h3=>?_⟩
 exact k u r' H3 ((s1.trans s2).trans s3) (RV.start (rv'.lift pr fun a e=>R.ofree ((s1.trans s2).free e)) (s1.trans s2)) h3
theorem u9 {P:Program} {w:World} {K:W.Frag} {mg:Str->Option Value} {base:Heap} {x qual m:Str} {st:Stmt} {f:Addr} {fd:FuncData} {N ps:List Str} {k:Nat} {T:FT} {C:Addr} {ns:List Str} (F:Fun K x qual st f fd) (S:zp N ps (zb st)) (b:vf K fd ps []) (hm:Meth K C m f) (no:m ∉ ns)
  (qY:∀ (qZ:Value) (A:Around) (outer:List Env) (s:Shared) (H:Hp) (E:XK) (ds:List D) (φ:EV->Prop),Room k (A.deeper (envOfC qual (zb st) s.heap.objs.size f qZ))->ds.length = ps.length->T ds φ ->
   ∃ t,SDs (fun _=>True) (cxOf CX0 P w K mg base N qual (zb st) f qZ A outer s H E).nox (yt st) t /\ t (yu N.length ds) { nx:=fun _=>φ (dv .non),rt:=fun r=>wa r /\ φ r }):FMD P w K mg base (k + 1) C ns m ps T :=
 ⟨⟨f,fd,Ss F S qY,b,hm⟩,no⟩
end
end DL
namespace DL
open PySem PySem.Spec L2 L3
open PyProof.Rows hiding St
variable {Γ:Hp->Prop}
section
variable {X:Cx} {o:Expr} {te:TD} {pos apos:Pos} {C:Addr} {ns ps:List Str} {m:Str} {T:FT} {k:Nat}
theorem tw {pl:Sem Bool} (O:CO X.K C ns) (F:FMD X.prog X.w X.K X.mg X.base k C ns m ps T) (hr:Room k X.A) (ho:ED Γ X o te)
  (ht:eval (.Call (.Attribute o m apos) [] [] pos) X.env = (do
   let ov <- eval o X.env
   standAt apos.atName
   let (f,first) <- holding [ov] (getMethod ov m pl)
   callWith pos f first (backTo pos (starEach [] X.env)) (backToKw pos (keywordEach [] X.env))):=by rfl) :
  ED Γ X (.Call (.Attribute o m apos) [] [] pos) (Ko ps.length C ns T te aNil):=fun H₀=>by
 obtain ⟨f,fd,ok,b,hm⟩:=F.ex
 refine impE (Wi (ho H₀) O.cl hm ok hr b .nil Yr ht) fun σ H Q q=>?_
 obtain ⟨ρ,o,R,φ,hφ,k⟩:=q
 refine ⟨ρ,o,R,_,hφ,fun v r H1 s1 rv h1=>?_⟩
 obtain ⟨⟨ds,ed⟩,h1⟩:=h1
 have vw:=rv.view
 obtain ⟨kd,d⟩:=r
 cases ed
 have v0:Rep X.K H1 [] (.ob C ns ds) v:=vw.rep0
 obtain ⟨a,dx,xs,rfl,q,_,ln,nd,rr⟩:=vw
 refine ⟨a,dx,_,rfl,q,u7 F.no,?_⟩
 show spD X.K ps.length T [.ref a] H1 Q E0
 refine ⟨[.ob C ns ds],φ,Nat.eq_of_beq_eq_true h1.1,⟨_,_,rfl,v0,rfl⟩,h1.2,fun u r' H3 s3 rv' pr h3=>?_⟩
 exact k u r' H3 (s1.trans s3) (RV.start (rv'.lift pr fun a e=>R.ofree (s1.free e)) s1) h3
end
end DL
namespace DL
open PySem PySem.Spec L2 L3
open PyProof.Rows hiding St
noncomputable def Pn (p q:Addr):Addr->Prop:=fun a=>a ≠ p /\ a ≠ q
mutual
noncomputable def sfD (n:Nat):D->Prop
 | .lst ds=>ds.length ≠ n /\ sfDs n ds
 | .tup ds=>sfDs n ds
 | .dk _ _=>False
 | .dt _ _=>False
 | .ob _ _ _=>False
 | .exc _=>False
 | .fd _=>False
 | .scr _=>True
 | .dz _=>True
 | .non=>True
 | .bl _=>True
 | .int _=>True
 | .str _=>True
 | .ty _=>True
 | .cn _=>True
noncomputable def sfDs (n:Nat):List D->Prop
 | []=>True
 | d :: ds=>sfD n d /\ sfDs n ds
end
mutual
theorem dh {K:W.Frag} {H:Hp} {O:List Addr} {p q:Addr} {n:Nat} (hp:∀ xs,H p ≠ some (.lst xs)) (hq:∀ xs,H q = some (.lst xs)->xs.length = n):∀ (d:D) (v:V),sfD n d->Rep K H O d v->RepN K H (Pn p q) d v
 | .non,_,_,h=>h
 | .bl _,_,_,h=>h
 | .int _,_,_,h=>h
 | .str _,_,_,h=>h
 | .ty _,_,_,h=>h
 | .cn _,_,_,h=>h
 | .scr _,_,_,h=>h
 | .dz _,_,_,h=>h
 | .exc _,_,f,_=>f.elim
 | .fd _,_,f,_=>f.elim
 | .dk _ _,_,f,_=>f.elim
 | .dt _ _,_,f,_=>f.elim
 | .ob _ _ _,_,f,_=>f.elim
 | .tup ds,v,f,h=>by
  obtain ⟨a,xs,e,q,r⟩:=h
  exact ⟨a,xs,e,q,qq hp hq ds xs f r⟩
 | .lst ds,v,f,h=>by
  obtain ⟨a,xs,e,g,_,r⟩:=h
  refine ⟨a,xs,e,g,⟨fun z=>hp xs (z ▸ g),fun z=>f.1 ?_⟩,qq hp hq ds xs f.2 r⟩
  rw [<- r.length]
  exact hq xs (z ▸ g)
theorem qq {K:W.Frag} {H:Hp} {O:List Addr} {p q:Addr} {n:Nat} (hp:∀ xs,H p ≠ some (.lst xs)) (hq:∀ xs,H q = some (.lst xs)->xs.length = n):∀ (ds:List D) (xs:List V),sfDs n ds->Reps K H O ds xs->zx K H (Pn p q) ds xs
 | [],_,_,h=>h
 | d :: ds,xs,f,h=>by
  obtain ⟨v,r,e,g,t⟩:=h
  exact ⟨v,r,e,dh hp hq d v f.1 g,qq hp hq ds r f.2 t⟩
end
noncomputable def safe (n:Nat) (r:EV):Prop:=match r.k with
 | .val=>sfD n r.d
 | .own=>False
 | .fre=>match r.d with
  | .lst ds=>sfDs n ds
  | _=>False
 | .new=>True
theorem ux {K:W.Frag} {H0 H:Hp} {p q:Addr} {n:Nat} {r:EV} {v:V} (hp:∀ xs,H p ≠ some (.lst xs)) (hq:∀ xs,H q = some (.lst xs)->xs.length = n) (tp:H0 p ≠ none) (tq:H0 q ≠ none) (rv:RV K H0 H [] r v) (s:safe n r):RepN K H (Pn p q) r.d v:=by
 obtain ⟨k,d⟩:=r
 cases k with
 | val=>exact dh hp hq _ _ s rv
 | own=>exact s.elim
 | fre =>
  obtain ⟨a,rfl,ha,_,c⟩:=rv
  cases d with
  | lst ds =>
   obtain ⟨xs,g,r⟩:=c
   exact ⟨a,xs,rfl,g,⟨fun z=>tp (z ▸ ha),fun z=>tq (z ▸ ha)⟩,qq hp hq _ _ s r⟩
  | _=>exact s.elim
 | new=>exact RepN.to (Same.refl H) (fun a z=>⟨fun e=>tp (e ▸ z.2),fun e=>tq (e ▸ z.2)⟩) _ _ rv
theorem zx.set {K:W.Frag} {H:Hp} {P:Addr->Prop}:∀ {ds:List D} {xs:List V} (j:Nat) {d:D} {v:V},RepN K H P d v->zx K H P ds xs->zx K H P (ds.set j d) (xs.set j v)
 | [],_,_,_,_,_,h=>by cases h; rfl
 | d :: ds,xs,0,d',v',q',h=>by
  obtain ⟨v,r,rfl,q,t⟩:=h
  exact ⟨v',r,rfl,q',t⟩
 | d :: ds,xs,n + 1,d',v',q',h=>by
  obtain ⟨v,r,rfl,q,t⟩:=h
  exact ⟨v,r.set n v',rfl,q,zx.set n q' t⟩
theorem zx.gets {K:W.Frag} {H:Hp} {P:Addr->Prop}:∀ {ds:List D} {xs:List V} {i:Nat} {d:D},zx K H P ds xs->ds[i]? = some d->∃ v,xs[i]? = some v /\ RepN K H P d v
 | [],_,_,_,_,e=>by simp at e
 | d :: ds,xs,0,d',h,e=>by
  obtain ⟨v,r,rfl,q,_⟩:=h
  simp at e
  subst e
  exact ⟨v,rfl,q⟩
 | d :: ds,xs,i + 1,d',h,e=>by
  obtain ⟨v,r,rfl,_,t⟩:=h
  obtain ⟨v',e',q'⟩:=zx.gets (i:=i) t (by simpa using e)
  exact ⟨v',by simpa using e',q'⟩
noncomputable def obD (C:Addr) (ns:List Str) (ds:List D) (is:List Int):D:=.ob C ns (ds ++ [.lst (is.map D.int)])
theorem kl {C:Addr} {ns:List Str} {ds es:List D} {is js:List Int} (h:obD C ns ds is = obD C ns es js):ds = es /\ is = js:=by
 unfold obD at h
 have h1:=(D.ob.inj h).2.2
 obtain ⟨a,b⟩:=List.append_inj' h1 rfl
 refine ⟨a,?_⟩
 have c:=D.lst.inj (List.cons.inj b).1
 have:∀ (is js:List Int),is.map D.int = js.map D.int->is = js:=fun is=>by
  induction is with
  | nil=>intro js e; cases js with
   | nil=>rfl
   | cons _ _=>cases e
  | cons i is ih=>intro js e; cases js with
   | nil=>cases e
   | cons j js =>
    have e':=List.cons.inj e
    rw [D.int.inj e'.1,ih js e'.2]
 exact this _ _ c
structure OB (K:W.Frag) (H:Hp) (C:Addr) (ns:List Str) (p th:Addr) (ds:List D) (is:List Int):Prop where
 ob:∃ dx xs,H p = some (.ins C dx (ns.zip (xs ++ [.ref th]))) /\ zx K H (Pn p th) ds xs
 li:H th = some (.lst (is.map V.int))
 ln:ns.length = ds.length + 1
 nd:ns.Nodup
section
variable {K:W.Frag} {H H':Hp} {C:Addr} {ns:List Str} {p th:Addr} {ds:List D} {is:List Int}
theorem OB.ne (h:OB K H C ns p th ds is):p ≠ th:=fun e=>by
 obtain ⟨dx,xs,g,_⟩:=h.ob
 have:=h.li
 rw [<- e,g] at this
 cases this
theorem OB.rep (h:OB K H C ns p th ds is):Rep K H [] (obD C ns ds is) (.ref p):=by
 obtain ⟨⟨dx,xs,e,r⟩,li,ln,nd⟩:=h
 refine ⟨p,dx,xs ++ [.ref th],rfl,e,by simp,by rw [List.length_append]; exact ln,nd,?_⟩
 exact Reps.append (zx.reps (fun a _=>by simp) _ _ r) (Reps.one ⟨th,_,rfl,li,by simp,Reps.ints is⟩)
theorem OB.pl (h:OB K H C ns p th ds is):∀ xs,H p ≠ some (.lst xs):=fun xs z=>by
 obtain ⟨dx,xs,g,_⟩:=h.ob
 rw [g] at z
 cases z
theorem OB.ql (h:OB K H C ns p th ds is):∀ xs,H th = some (.lst xs)->xs.length = is.length:=fun xs z=>by
 rw [h.li] at z
 cases z
 exact List.length_map ..
theorem OB.tp (h:OB K H C ns p th ds is):H p ≠ none:=fun z=>by
 obtain ⟨dx,xs,g,_⟩:=h.ob
 rw [g] at z
 cases z
theorem OB.tq (h:OB K H C ns p th ds is):H th ≠ none:=fun z=>by
 rw [h.li] at z
 cases z
theorem OB.jump (h:OB K H C ns p th ds is) (k:∀ b u,H b = some u->b ≠ p->b ≠ th->H' b = some u) {d:D} {v:V} (r:RepN K H (Pn p th) d v):RepN K H' (Pn p th) d v:=by
 obtain ⟨dx,xs,g,_⟩:=h.ob
 refine RepN.go (fun b xs hb=>k b _ hb (fun z=>?_) fun z=>?_) (fun b o u hb=>k b _ hb (fun z=>?_) fun z=>?_) (fun b u hP hb=>⟨k b u hb hP.1 hP.2,hP⟩) _ _ r
 ·rw [z,g] at hb; cases hb
 ·rw [z,h.li] at hb; cases hb
 ·rw [z,g] at hb; cases hb
 ·rw [z,h.li] at hb; cases hb
theorem OB.jumps (h:OB K H C ns p th ds is) (k:∀ b u,H b = some u->b ≠ p->b ≠ th->H' b = some u):∀ {es:List D} {xs:List V},zx K H (Pn p th) es xs->zx K H' (Pn p th) es xs
 | [],_,r=>r
 | _ :: _,_,⟨v,r,e,q,t⟩=>⟨v,r,e,h.jump k q,h.jumps k t⟩
theorem OB.to (h:OB K H C ns p th ds is) (s:Same H H'):OB K H' C ns p th ds is:=by
 obtain ⟨dx,xs,g,r⟩:=h.ob
 exact ⟨⟨dx,xs,s _ _ g,h.jumps (fun b u hb _ _=>s b u hb) r⟩,s _ _ h.li,h.ln,h.nd⟩
end
structure MF (K:W.Frag) (H₀ H:Hp) (σ:St) (ρ:DE) (l:Nat) (C:Addr) (ns:List Str) (p th:Addr) (ds:List D) (is:List Int):Prop where
 ob:OB K H C ns p th ds is
 hd:ρ[l]? = some (some (dv (obD C ns ds is)))
 hv:σ[l]? = some (some (.ref p))
 sl:∀ i r,i ≠ l->ρ[i]? = some (some r)->r.k = .val /\ ∃ v,σ[i]? = some (some v) /\ RepN K H (Pn p th) r.d v
 len:σ.length = ρ.length
 kp:∀ b u,H₀ b = some u->b ≠ p->b ≠ th->H b = some u
 dm:∀ b,H b = none->H₀ b = none
section
variable {K:W.Frag} {H₀ H H':Hp} {σ:St} {ρ:DE} {l:Nat} {C:Addr} {ns:List Str} {p th:Addr} {ds:List D} {is:List Int}
theorem MF.renv (M:MF K H₀ H σ ρ l C ns p th ds is):REnv K H H σ ρ [] where
 same:=Same.refl H
 fresh:=fun _ z=>absurd z (by simp)
 trk:=fun _ z=>absurd z (by simp)
 mtb:=fun _ z=>absurd z (by simp)
 nda:=List.nodup_nil
 slots:=fun i r e=>by
  by_cases il:i = l
  ·subst il
   rw [M.hd] at e
   cases e
   exact ⟨_,M.hv,.inl ⟨rfl,M.ob.rep⟩⟩
  ·obtain ⟨k,v,ev,r⟩:=M.sl i r il e
   exact ⟨v,ev,.inl ⟨k,RepN.rep (fun a _=>by simp) _ _ r⟩⟩
 len:=M.len
theorem MF.to (M:MF K H₀ H σ ρ l C ns p th ds is) (s:Same H H'):MF K H₀ H' σ ρ l C ns p th ds is :=
 ⟨M.ob.to s,M.hd,M.hv,fun i r il e=>let ⟨k,v,ev,q⟩:=M.sl i r il e; ⟨k,v,ev,M.ob.jump (fun b u hb _ _=>s b u hb) q⟩,M.len,fun b u hb n1 n2=>s _ _ (M.kp b u hb n1 n2),fun b hb=>M.dm b (s.free hb)⟩
theorem MF.set (M:MF K H₀ H σ ρ l C ns p th ds is) {i:Nat} (il:i ≠ l) {d:D} {v:V} (r:RepN K H (Pn p th) d v):MF K H₀ H (σ.set i (some v)) (setS ρ i (dv d)) l C ns p th ds is where
 ob:=M.ob
 hd:=by rw [x8,List.getElem?_set_ne il]; exact M.hd
 hv:=by rw [List.getElem?_set_ne il]; exact M.hv
 sl:=fun j r' jl e=>by
  rw [x8] at e
  by_cases ij:i = j
  ·subst ij
   rw [List.getElem?_set_self' ] at e
   cases hi:ρ[i]? with
   | none=>rw [hi] at e; cases e
   | some x =>
    rw [hi] at e
    cases e
    refine ⟨rfl,v,?_,r⟩
    have:i < σ.length:=by rw [M.len]; exact (List.getElem?_eq_some_iff.mp hi).1
    rw [List.getElem?_set_self this]
  ·rw [List.getElem?_set_ne ij] at e
   obtain ⟨k,w,ew,q⟩:=M.sl j r' jl e
   exact ⟨k,w,by rw [List.getElem?_set_ne ij]; exact ew,q⟩
 len:=by rw [x8,List.length_set,List.length_set]; exact M.len
 kp:=M.kp
 dm:=M.dm
theorem MF.chg (M:MF K H₀ H σ ρ l C ns p th ds is) {es:List D} {js:List Int} (o:OB K H' C ns p th es js) (k:∀ b u,H b = some u->b ≠ p->b ≠ th->H' b = some u) (dm:∀ b,H' b = none->H b = none):MF K H₀ H' σ (setS ρ l (dv (obD C ns es js))) l C ns p th es js where
 ob:=o
 hd:=by rw [x8,List.getElem?_set_self (List.getElem?_eq_some_iff.mp M.hd).1]
 hv:=M.hv
 sl:=fun i r il e=>by
  rw [x8,List.getElem?_set_ne (Ne.symm il)] at e
  obtain ⟨kd,v,ev,q⟩:=M.sl i r il e
  exact ⟨kd,v,ev,M.ob.jump k q⟩
 len:=by rw [x8,List.length_set]; exact M.len
 kp:=fun b u hb n1 n2=>k b u (M.kp b u hb n1 n2) n1 n2
 dm:=fun b hb=>M.dm b (dm b hb)
end
structure MZ where
 nx:DE->Prop
 rt:DE->EV->Prop
noncomputable abbrev TM:=DE->MZ->Prop
noncomputable def Gv (K:W.Frag) (H₀:Hp) (l:Nat) (C:Addr) (ns:List Str) (p th:Addr) (t:TM):TS:=fun D σ H=>∃ ρ ds is,MF K H₀ H σ ρ l C ns p th ds is /\ ∃ Z:MZ,t ρ Z /\
 (∀ ρ' σ' H' ds' is',MF K H₀ H' σ' ρ' l C ns p th ds' is'->Z.nx ρ'->D.nx σ' H') /\
 (∀ v r ρ' σ' H' ds' is',MF K H₀ H' σ' ρ' l C ns p th ds' is'->RV K H₀ H' [] r v->wa r->Z.rt ρ' r->D.rt v H')
noncomputable def QM (l:Nat) (C:Addr) (ns:List Str) (X:Cx) (st:Stmt) (t:TM):Prop:=∀ (H₀:Hp) (p th:Addr),PS X st (Gv X.K H₀ l C ns p th t)
noncomputable def QMs (l:Nat) (C:Addr) (ns:List Str) (X:Cx) (st:List Stmt) (t:TM):Prop:=∀ (H₀:Hp) (p th:Addr),PSs X st (Gv X.K H₀ l C ns p th t)
noncomputable def mSeq (t u:TM):TM:=fun ρ Z=>t ρ { Z with nx:=fun ρ'=>u ρ' Z }
noncomputable def mNil:TM:=fun ρ Z=>Z.nx ρ
noncomputable def mIf (tc:TDb) (t u:TM):TM:=fun ρ Z=>tc ρ fun b=>(b = true->t ρ Z) /\ (b = false->u ρ Z)
noncomputable def mRet (te:TD):TM:=fun ρ Z=>te ρ fun r=>wa r /\ Z.rt ρ r
noncomputable def mSet (l:Nat) (C:Addr) (ns:List Str) (i:Nat) (te:TD):TM:=fun ρ Z=>te ρ fun r=>∃ ds is,slot ρ l = some (dv (obD C ns ds is)) /\ safe is.length r /\ Z.nx (setS ρ i (dv r.d))
noncomputable def mFld (l:Nat) (C:Addr) (ns:List Str) (f:Str) (te:TD):TM:=fun ρ Z=>te ρ fun r=>∃ ds is j,slot ρ l = some (dv (obD C ns ds is)) /\ ixF ns f = some j /\ j < ds.length /\ ns.length <= 100 /\ safe is.length r /\ Z.nx (setS ρ l (dv (obD C ns (ds.set j r.d) is)))
noncomputable def mPut (l:Nat) (C:Addr) (ns:List Str) (f:Str) (tk te:TD):TM:=fun ρ Z=>∃ ds is,slot ρ l = some (dv (obD C ns ds is)) /\ ixF ns f = some ds.length /\ te ρ fun r=>tk ρ fun kr=>∃ i j x,r.d = .int x /\ kr.d = .int i /\ ixN is.length i = some j /\ Z.nx (setS ρ l (dv (obD C ns ds (is.set j x))))
noncomputable def mWh (tc:TDb) (tb:TM):TM:=fun ρ Z=>∃ P:Nat->DE->Prop,(∃ m,P m ρ) /\ ∀ m ρ1,P m ρ1->tc ρ1 fun b=>(b = true->tb ρ1 { nx:=fun ρ3=>∃ m',m' < m /\ P m' ρ3,rt:=Z.rt }) /\ (b = false->Z.nx ρ1)
noncomputable abbrev FTM:=D->List D->(EV->D->Prop)->Prop
noncomputable def spM (K:W.Frag) (C:Addr) (ns:List Str) (n:Nat) (T:FTM):Sp:=fun vs H Q _=>∃ p th ds is as ws φ,vs = .ref p :: ws /\ as.length + 1 = n /\ OB K H C ns p th ds is /\ zx K H (Pn p th) as ws /\ T (obD C ns ds is) as φ /\
 ∀ v r H' ds' is',OB K H' C ns p th ds' is'->(∀ b u,H b = some u->b ≠ p->b ≠ th->H' b = some u)->(∀ b,H' b = none->H b = none)->RV K H H' [] r v->wa r->φ r (obD C ns ds' is')->Q v H'
structure FMM (P:Program) (w:World) (K:W.Frag) (mg:Str->Option Value) (base:Heap) (k:Nat) (C:Addr) (ns:List Str) (m:Str) (ps:List Str) (T:FTM):Prop where
 ex:∃ f fd,FnOk P w K mg base CX0 k f fd ps (spM K C ns ps.length T) /\ vf K fd ps [] /\ Meth K C m f
 no:m ∉ ns
noncomputable def Gp (l:Nat) (i j:Nat) (T:FTM):TM:=fun ρ Z=>i ≠ l /\ j ≠ l /\ ∃ o x y,slot ρ l = some (dv o) /\ slot ρ i = some (dv x) /\ slot ρ j = some (dv y) /\ T o [x,y] fun _ o'=>Z.nx (setS ρ l (dv o'))
section
variable {l:Nat} {C:Addr} {ns:List Str} {X:Cx} {st:Stmt} {rest a b:List Stmt} {t u:TM} {e c oe ke:Expr} {te tk:TD} {tc:TDb} {pos pos':Pos} {f m:Str}
theorem Hh:QMs l C ns X [] mNil:=fun H₀ p th pn s σ H D I h=>by
 obtain ⟨ρ,ds,is,M,Z,hZ,k1,k2⟩:=h
 exact dy pn s σ H D I (k1 _ _ _ _ _ M hZ)
theorem wf (h1:QM l C ns X st t) (h2:QMs l C ns X rest u):QMs l C ns X (st :: rest) (mSeq t u):=fun H₀ p th=>Sk (vi (h1 H₀ p th) (h2 H₀ p th)) fun D σ H h=>by
 obtain ⟨ρ,ds,is,M,Z,hZ,k1,k2⟩:=h
 exact ⟨ρ,ds,is,M,_,hZ,fun ρ' σ' H' ds' is' M' h'=>⟨ρ',ds',is',M',Z,h',k1,k2⟩,k2⟩
theorem Wc (h1:QM l C ns X st t):QMs l C ns X [st] t:=fun H₀ p th=>kj (h1 H₀ p th)
theorem Ej (hc:ET (fun _=>True) X c tc) (ha:QMs l C ns X a t) (hb:QMs l C ns X b u):QM l C ns X (.If c a b pos) (mIf tc t u):=fun H₀ p th pn s σ H D I h=>by
 obtain ⟨ρ,ds,is,M,Z,hZ,k1,k2⟩:=h
 refine Mt (hc ⟨H,trivial⟩) (ha H₀ p th) (hb H₀ p th) pn s σ H D I ⟨ρ,[],M.renv,_,hZ,fun cb H1 s1 h1=>?_⟩
 cases cb with
 | true=>rw [if_pos rfl]; exact ⟨ρ,ds,is,M.to s1,Z,h1.1 rfl,k1,k2⟩
 | false=>rw [if_neg (by decide)]; exact ⟨ρ,ds,is,M.to s1,Z,h1.2 rfl,k1,k2⟩
theorem RV.back {K:W.Frag} {H0 H1 H:Hp} {r:EV} {v:V} (h:RV K H1 H [] r v) (p:wa r) (d:∀ b,H1 b = none->H0 b = none):RV K H0 H [] r v:=by
 obtain ⟨k,d'⟩:=r
 cases k with
 | val=>exact h
 | own=>exact p.elim
 | fre=>obtain ⟨a,e,m,n,c⟩:=h; exact ⟨a,e,d a m,n,c⟩
 | new=>exact RepN.to (Same.refl H) (fun a z=>⟨z.1,d a z.2⟩) _ _ h
theorem Nc (he:ED (fun _=>True) X e te):QM l C ns X (.Return (some e) pos) (mRet te):=fun H₀ p th pn s σ H D I h=>by
 obtain ⟨ρ,ds,is,M,Z,hZ,k1,k2⟩:=h
 refine Z9 (he ⟨H,trivial⟩) pn s σ H D I ⟨ρ,[],M.renv,_,hZ,fun v r H1 s1 rv h1=>?_⟩
 exact k2 v r ρ σ H1 ds is (M.to s1) (RV.back rv h1.1 M.dm) h1.1 h1.2
theorem Z7 (i:Nat) {y:Str} {py:Pos} (il:i ≠ l) (hN:X.N.Nodup) (he:ED (fun _=>True) X e te) (hy:X.N[i]? = some y:=by rfl) (hx:Loc X.env.scope y:=by first | exact Or.inl rfl | exact Or.inr rfl) (hs:swapsWith e (some (.Name y py)) pos.line X.env = pure false:=by rfl) (hf:X.fn y = true \/ X.env.scope.names.lookup y = some .local:=by first | exact .inl rfl | exact .inr rfl | assumption) :
  QM l C ns X (.Assign [.Name y py] e pos) (mSet l C ns i te):=fun H₀ p th pn s σ H D I h=>by
 obtain ⟨ρ,ds,is,M,Z,hZ,k1,k2⟩:=h
 refine Wg hN hy hx (he ⟨H,trivial⟩) hs hf pn s σ H D I ⟨ρ,[],M.renv,_,hZ,fun v r H1 s1 rv h1=>?_⟩
 obtain ⟨ds',is',e1,sf,h1⟩:=h1
 rw [v6 M.hd] at e1
 have e2:obD C ns ds is = obD C ns ds' is':=congrArg EV.d (Option.some.inj e1)
 obtain ⟨rfl,rfl⟩:=kl e2
 have M1:=M.to s1
 exact k1 _ _ _ _ _ (M1.set il (ux M1.ob.pl M1.ob.ql M.ob.tp M.ob.tq rv sf)) h1
theorem Te (O:CO X.K C ns) (ho:PE X oe (tVar l)) (he:ED (fun _=>True) X e te) (hs:swapsWith e (some (.Attribute oe f pos')) pos.line X.env = pure false:=by rfl):QM l C ns X (.Assign [.Attribute oe f pos'] e pos) (mFld l C ns f te):=fun H₀ p th pn s σ H D I h=>by
 obtain ⟨ρ,ds,is,M,Z,hZ,k1,k2⟩:=h
 refine Tf ho (he ⟨H,trivial⟩) hs pn s σ H D I ⟨ρ,[],M.renv,_,hZ,fun v r H1 s1 rv h1=>?_⟩
 obtain ⟨ds',is',j,e1,ei,hj,hn,sf,h1⟩:=h1
 rw [v6 M.hd] at e1
 have e2:obD C ns ds is = obD C ns ds' is':=congrArg EV.d (Option.some.inj e1)
 obtain ⟨rfl,rfl⟩:=kl e2
 have M1:=M.to s1
 have rn:=ux M1.ob.pl M1.ob.ql M.ob.tp M.ob.tq rv sf
 obtain ⟨dx,xs,g,rr⟩:=M1.ob.ob
 have lx:ns.length = (xs ++ [V.ref th]).length:=by rw [List.length_append,rr.length]; exact M1.ob.ln
 refine ⟨.ref p,M.hv,p,C,dx,_,rfl,g,O.cl,O.na f (cg ei),by rw [List.length_zip]; omega,?_⟩
 rw [Wd ei lx,List.set_append_left _ _ (by rw [rr.length]; exact hj)]
 have kk:∀ b u,H1 b = some u->b ≠ p->b ≠ th->upd H1 p (.ins C dx (ns.zip (xs.set j v ++ [V.ref th]))) b = some u:=fun b u hb n1 _=>by rw [zj n1]; exact hb
 refine k1 _ _ _ _ _ (M1.chg (es:=ds.set j r.d) (js:=is) ⟨⟨dx,xs.set j v,zk,?_⟩,by rw [zj (Ne.symm M1.ob.ne)]; exact M1.ob.li,by rw [List.length_set]; exact M1.ob.ln,M1.ob.nd⟩ kk fun b hb=>?_) h1
 ·exact zx.set j (M1.ob.jump kk rn) (M1.ob.jumps kk rr)
 ·by_cases bp:b = p
  ·rw [bp,zk] at hb; cases hb
  ·rw [zj bp] at hb; exact hb
theorem Hg (O:CO X.K C ns) (ho:PE X oe (tVar l)) (hk:ED (fun _=>True) X ke tk) (he:ED (fun _=>True) X e te) {apos:Pos} (hb:attributeBase oe f X.env (eval oe X.env) = eval oe X.env:=by rfl)
  (hs:swapsWithSole [.Subscript (.Attribute oe f apos) ke pos'] e pos.line X.env = pure false:=by rfl) (hw:swappedStores [.Subscript (.Attribute oe f apos) ke pos'] e X.env = pure none:=by rfl)
  (h1:(assignEach [.Subscript (.Attribute oe f apos) ke pos'] X.env).map (·.2) = [assign (.Subscript (.Attribute oe f apos) ke pos') X.env]:=by rfl)
  (ha:∀ v,assign (.Subscript (.Attribute oe f apos) ke pos') X.env v = (do
   let ov <- holding [v] (eval (.Attribute oe f apos) X.env)
   let iv <- holding [v,ov] (eval ke X.env)
   standAt pos'
   holding [v,ov,iv] (setItem ov iv v)
   release [v,ov,iv] []):=by intro _; rfl):QM l C ns X (.Assign [.Subscript (.Attribute oe f apos) ke pos'] e pos) (mPut l C ns f tk te):=fun H₀ p th pn s σ H D I h=>by
 obtain ⟨ρ,ds,is,M,Z,hZ,k1,k2⟩:=h
 obtain ⟨ds',is',e1,ei,hZ⟩:=hZ
 rw [v6 M.hd] at e1
 have e2:obD C ns ds is = obD C ns ds' is':=congrArg EV.d (Option.some.inj e1)
 obtain ⟨rfl,rfl⟩:=kl e2
 have hk':PE X ke fun σ H Q=>vc X.K H tk σ H Q:=fun pn s σ H Q I h=>hk ⟨H,trivial⟩ pn s σ H Q I h
 refine Tg (he ⟨H,trivial⟩) (Nd (Ng ho hb) hk' W7 ha) hs hw h1 pn s σ H D I ⟨ρ,[],M.renv,_,hZ,fun v r H1 s1 rv h1=>?_⟩
 have M1:=M.to s1
 obtain ⟨dx,xs,g,rr⟩:=M1.ob.ob
 have lx:ns.length = (xs ++ [V.ref th]).length:=by rw [List.length_append,rr.length]; exact M1.ob.ln
 refine ⟨.ref p,M.hv,p,C,dx,_,.ref th,rfl,g,O.cl,O.na f (cg ei),?_,ρ,[],M1.renv,_,h1,fun w kr H2 s2 rv2 h2=>?_⟩
 ·rw [ra ei lx,List.getElem?_append_right (by rw [rr.length]; exact Nat.le_refl _),rr.length,Nat.sub_self]
  rfl
 obtain ⟨i,j,x,er,ek,ej,h2⟩:=h2
 have M2:=M1.to s2
 have vw:=rv2.view
 rw [ek] at vw
 cases (show w = _ from vw)
 have vw1:=rv.view
 rw [er] at vw1
 cases (show v = _ from vw1)
 have kk:∀ b u,H2 b = some u->b ≠ p->b ≠ th->upd H2 th (.lst ((is.map V.int).set j (.int x))) b = some u:=fun b u hb _ n2=>by rw [zj n2]; exact hb
 refine ⟨th,is.map V.int,i,j,rfl,rfl,M2.ob.li,by rw [List.length_map]; exact ej,k1 _ _ _ _ _ (M2.chg (es:=ds) (js:=is.set j x) ⟨⟨dx,xs,?_,?_⟩,?_,M2.ob.ln,M2.ob.nd⟩ kk fun b hb=>?_) h2⟩
 ·rw [zj M2.ob.ne]; exact s2 _ _ g
 ·exact M2.ob.jumps kk (M1.ob.jumps (fun b u hb _ _=>s2 b u hb) rr)
 ·rw [zk,List.map_set]
 ·by_cases bp:b = th
  ·rw [bp,zk] at hb; cases hb
  ·rw [zj bp] at hb; exact hb
theorem P4 {body:List Stmt} {tb:TM} (hc:ET (fun _=>True) X c tc) (hb:QMs l C ns X body tb) (hp:PassesOwn (model X.prog X.w) X.A X.env X.xe:=by exact PassesOwn.never):QM l C ns X (.While c body [] pos) (mWh tc tb):=fun H₀ p th=>by
 have hc':PT X c fun σ H Q=>kz X.K H tc σ H Q:=fun pn s σ H Q I h=>hc ⟨H,trivial⟩ pn s σ H Q I h
 refine impS (Wf hp hc' (hb H₀ p th)) fun D σ H h=>?_
 obtain ⟨ρ,ds,is,M,Z,⟨P,⟨m0,hP⟩,turn⟩,k1,k2⟩:=h
 refine ⟨fun m σ' H'=>∃ ρ' ds' is',MF X.K H₀ H' σ' ρ' l C ns p th ds' is' /\ P m ρ',⟨m0,ρ,ds,is,M,hP⟩,?_⟩
 rintro m σ1 H1 ⟨ρ1,ds1,is1,M1,p1⟩
 refine ⟨ρ1,[],M1.renv,_,turn m ρ1 p1,fun b H2 s2 h2=>?_⟩
 have M2:=M1.to s2
 cases b with
 | false =>
  dsimp only
  rw [if_neg (by decide)]
  exact k1 _ _ _ _ _ M2 (h2.2 rfl)
 | true =>
  dsimp only
  rw [if_pos rfl]
  refine ⟨fun σ' H'=>∃ ρ' ds' is',MF X.K H₀ H' σ' ρ' l C ns p th ds' is' /\ ∃ m',m' < m /\ P m' ρ',fun σ' H' ⟨ρ',ds',is',M',m',q',p'⟩=>⟨m',q',ρ',ds',is',M',p'⟩,ρ1,ds1,is1,M2,_,h2.1 rfl,fun ρ3 σ3 H3 ds3 is3 M3 h3=>⟨ρ3,ds3,is3,M3,h3⟩,k2⟩
theorem P5 {k i j:Nat} {ps:List Str} {T:FTM} {pl:Sem Bool} {apos cpos:Pos} {e1 e2:Expr} (O:CO X.K C ns) (F:FMM X.prog X.w X.K X.mg X.base k C ns m ps T) (hr:Room k X.A) (ho:PE X oe (tVar l)) (h1:PE X e1 (tVar i)) (h2:PE X e2 (tVar j)) (hps:ps.length = 3:=by rfl)
  (hs:swapsWith (.Call (.Attribute oe m apos) [e1,e2] [] cpos) none pos.line X.env = pure false:=by rfl)
  (hst:starEach [e1,e2] X.env = (false,eval e1 X.env) :: starEach [e2] X.env:=by rfl) (hst2:starEach [e2] X.env = (false,eval e2 X.env) :: starEach [] X.env:=by rfl) (hpl:(backTo cpos (starEach [e2] X.env)).any (·.1) = false:=by rfl)
  (ht:eval (.Call (.Attribute oe m apos) [e1,e2] [] cpos) X.env = (do
   let ov <- eval oe X.env
   standAt apos.atName
   let (f,first) <- holding [ov] (getMethod ov m pl)
   callWith cpos f first (backTo cpos (starEach [e1,e2] X.env)) (backToKw cpos (keywordEach [] X.env))):=by rfl):QM l C ns X (.Expr (.Call (.Attribute oe m apos) [e1,e2] [] cpos) pos) (Gp l i j T):=fun H₀ p th=>by
 obtain ⟨f,fd,ok,b,hm⟩:=F.ex
 refine impS (c3 (Tj ho O.cl hm ok hr b .nil Yr (xi h1 (xi h2 t0 hst2) hst) hst hpl ht) hs) fun D σ H h=>?_
 obtain ⟨ρ,ds,is,M,Z,⟨il,jl,o,x,y,eo,ex,ey,hT⟩,k1,k2⟩:=h
 rw [v6 M.hd] at eo
 have e2:obD C ns ds is = o:=congrArg EV.d (Option.some.inj eo)
 subst e2
 obtain ⟨_,v1,ev1,r1⟩:=M.sl i _ il (wd ex)
 obtain ⟨_,v2,ev2,r2⟩:=M.sl j _ jl (wd ey)
 obtain ⟨dx,xs,g,rr⟩:=M.ob.ob
 refine ⟨.ref p,M.hv,p,dx,_,rfl,g,u7 F.no,v1,ev1,v2,ev2,?_⟩
 refine ⟨p,th,ds,is,[x,y],[v1,v2],_,rfl,hps.symm,M.ob,⟨v1,[v2],rfl,r1,v2,[],rfl,r2,rfl⟩,hT,fun v r H' ds' is' o' k' d' rv pr h'=>?_⟩
 exact k1 _ _ _ _ _ (M.chg o' k' d') h'
end
section
variable {l:Nat} {C:Addr} {ns:List Str} {X:Cx} {scope:Scope} {T F:List Str} {js:List Nat} {tgt iter elt:Expr} {ifs:List Expr} {pos:Pos} {ti:TID} {g2:TG} {g:TGD} {tc:TDb} {te:TD}
theorem Vp (i:Nat) {y:Str} {py spos:Pos} (hil:i ≠ l) (hN:X.N.Nodup) (hi:EI (fun _=>True) X tgt iter ti) (S:zl X.env.scope scope T F) (hjs:Paired (fun x j=>X.N[j]? = some x) F js) (nd:js.Nodup)
  (hg:∀ cl C fp s H,PG (ym X (T ++ F) scope cl C fp s H) tgt g2) (hk:jz T.length g2) (hl:bu X.K g2 g)
  (ht:∀ cl C fp s H,EIf (fun _=>True) (ym X (T ++ F) scope cl C fp s H) ifs tc) (he:∀ cl C fp s H,ED (fun _=>True) (ym X (T ++ F) scope cl C fp s H) elt te)
  (hc:X.calm = true:=by rfl) (hs:∀ x,foldedSetIterable iter X.env x = pure x:=by intro _; rfl) (hy:X.N[i]? = some y:=by rfl) (hlo:X.env.scope.names.lookup y = some .local:=by rfl) (hsw:swapsWith (.ListComp elt [⟨tgt,iter,ifs,0⟩] scope pos) (some (.Name y py)) spos.line X.env = pure true:=by rfl) :
  QM l C ns X (.Assign [.Name y py] (.ListComp elt [⟨tgt,iter,ifs,0⟩] scope pos) spos) (mSet l C ns i (Ry ti T.length js g tc te)):=fun H₀ p th pn s σ H D I h=>by
 obtain ⟨ρ,ds,is,M,Z,hZ,k1,k2⟩:=h
 refine ss (tc:=kz X.K H tc) (te:=vc X.K H te) hc hN hy (.inl hlo) (hi ⟨H,trivial⟩) S hjs hg hk (fun cl C fp s H'=>ht cl C fp s H' ⟨H,trivial⟩) (fun cl C fp s H'=>he cl C fp s H' ⟨H,trivial⟩) hsw hs (.inr hlo) pn s σ H D I (ky nd hl σ H _ ⟨ρ,[],M.renv,_,hZ,fun v r H1 s1 rv h1=>?_⟩)
 obtain ⟨ds',is',e1,sf,h1⟩:=h1
 rw [v6 M.hd] at e1
 have e2:obD C ns ds is = obD C ns ds' is':=congrArg EV.d (Option.some.inj e1)
 obtain ⟨rfl,rfl⟩:=kl e2
 have M1:=M.to s1
 exact k1 _ _ _ _ _ (M1.set hil (ux M1.ob.pl M1.ob.ql M.ob.tp M.ob.tq rv sf)) h1
end
section
variable {P:Program} {w:World} {K:W.Frag} {mg:Str->Option Value} {base:Heap}
theorem MF.start {H:Hp} {N:List Str} {C:Addr} {ns:List Str} {p th:Addr} {ds:List D} {is:List Int} {as:List D} {ws:List V} (o:OB K H C ns p th ds is) (r:zx K H (Pn p th) as ws):MF K H H (L2.start N (.ref p :: ws)) (yu N.length (obD C ns ds is :: as)) 0 C ns p th ds is where
 ob:=o
 hd:=rfl
 hv:=rfl
 sl:=fun i r' il e=>by
  have rl:=r.length
  cases i with
  | zero=>exact absurd rfl il
  | succ i =>
   unfold yu at e
   rw [List.map_cons,List.cons_append,List.getElem?_cons_succ] at e
   rcases Nat.lt_or_ge i as.length with hi | hi
   ·rw [List.getElem?_append_left (by simpa using hi),List.getElem?_map] at e
    have ed:as[i]? = some as[i]:=by simp [hi]
    rw [ed] at e
    have e':some (dv as[i]) = some r':=Option.some.inj e
    cases e'
    obtain ⟨v,ev,rv⟩:=r.gets ed
    refine ⟨rfl,v,?_,rv⟩
    unfold L2.start
    rw [List.map_cons,List.cons_append,List.getElem?_cons_succ,List.getElem?_append_left (by rw [List.length_map,rl]; exact hi),List.getElem?_map,ev]
    rfl
   ·rw [List.getElem?_append_right (by simpa using hi),List.getElem?_replicate] at e
    split at e <;> cases e
 len:=by
  have rl:=r.length
  unfold L2.start yu
  simp [rl]
 kp:=fun b u hb _ _=>hb
 dm:=fun b hb=>hb
theorem Nr {x qual m:Str} {st:Stmt} {f:Addr} {fd:FuncData} {N ps:List Str} {k:Nat} {T:FTM} {C:Addr} {ns:List Str} (F:Fun K x qual st f fd) (S:zp N ps (zb st)) (b:vf K fd ps []) (hm:Meth K C m f) (no:m ∉ ns)
  (qY:∀ (qZ:Value) (A:Around) (outer:List Env) (s:Shared) (H:Hp) (E:XK) (d:D) (ds:List D) (φ:EV->D->Prop),Room k (A.deeper (envOfC qual (zb st) s.heap.objs.size f qZ))->ds.length + 1 = ps.length->T d ds φ ->
   ∃ t,QMs 0 C ns (cxOf CX0 P w K mg base N qual (zb st) f qZ A outer s H E).nox (yt st) t /\ t (yu N.length (d :: ds)) { nx:=fun ρ=>∃ d',slot ρ 0 = some (dv d') /\ φ (dv .non) d',rt:=fun ρ r=>∃ d',slot ρ 0 = some (dv d') /\ φ r d' }):FMM P w K mg base (k + 1) C ns m ps T:=by
 refine ⟨⟨f,fd,F.ok S (fun vs H Q E h=>?_) (fun qZ A outer s H vs Q E hr h=>?_),b,hm⟩,no⟩
 ·obtain ⟨p,th,ds,is,as,ws,φ,rfl,hl,_,r,_⟩:=h
  rw [List.length_cons,r.length,hl]
 ·obtain ⟨p,th,ds,is,as,ws,φ,rfl,hl,o,r,hT,kk⟩:=h
  obtain ⟨t,ht,hq⟩:=qY qZ A outer s H E _ as φ hr hl hT
  refine ⟨_,ht H p th,_,ds,is,MF.start o r,_,hq,fun ρ' σ' H' ds' is' M' h'=>?_,fun v r ρ' σ' H' ds' is' M' rv pr h'=>?_⟩
  ·obtain ⟨d',e',h'⟩:=h'
   rw [v6 M'.hd] at e'
   have e2:obD C ns ds' is' = d':=congrArg EV.d (Option.some.inj e')
   subst e2
   exact kk .non (dv .non) H' ds' is' M'.ob M'.kp M'.dm rfl trivial h'
  ·obtain ⟨d',e',h'⟩:=h'
   rw [v6 M'.hd] at e'
   have e2:obD C ns ds' is' = d':=congrArg EV.d (Option.some.inj e')
   subst e2
   exact kk v r H' ds' is' M'.ob M'.kp M'.dm rv pr h'
end
structure IFr (K:W.Frag) (H₀ H:Hp) (σ:St) (ρ:DE) (C:Addr) (p:Addr) (ns:List Str) (ds:List D):Prop where
 ob:∃ dx xs,H p = some (.ins C dx (ns.zip xs)) /\ zx K H (Pn p p) ds xs
 ln:ns.length = ds.length
 nd:ns.Nodup
 hd:ρ[0]? = some (some (dv (.ob C ns ds)))
 hv:σ[0]? = some (some (.ref p))
 sl:∀ i r,i ≠ 0->ρ[i]? = some (some r)->r.k = .val /\ ∃ v,σ[i]? = some (some v) /\ RepN K H (Pn p p) r.d v
 len:σ.length = ρ.length
 kp:∀ b u,H₀ b = some u->b ≠ p->H b = some u
 dm:∀ b,H b = none->H₀ b = none
section
variable {K:W.Frag} {H₀ H H':Hp} {σ:St} {ρ:DE} {C:Addr} {ns:List Str} {p:Addr} {ds:List D}
theorem IFr.jump (M:IFr K H₀ H σ ρ C p ns ds) {q:Addr} (k:∀ b u,H b = some u->b ≠ p->H' b = some u) (hq:q ≠ p->H q = none) {d:D} {v:V} (r:RepN K H (Pn p p) d v):RepN K H' (Pn p q) d v:=by
 obtain ⟨dx,xs,g,_⟩:=M.ob
 refine RepN.go (fun b xs hb=>k b _ hb fun z=>?_) (fun b o u hb=>k b _ hb fun z=>?_) (fun b u hP hb=>⟨k b u hb hP.1,hP.1,fun z=>?_⟩) _ _ r
 ·rw [z,g] at hb; cases hb
 ·rw [z,g] at hb; cases hb
 ·rw [z] at hb
  by_cases e:q = p
  ·exact hP.1 (z.trans e)
  ·rw [hq e] at hb; cases hb
theorem IFr.jumps (M:IFr K H₀ H σ ρ C p ns ds) {q:Addr} (k:∀ b u,H b = some u->b ≠ p->H' b = some u) (hq:q ≠ p->H q = none):∀ {es:List D} {xs:List V},zx K H (Pn p p) es xs->zx K H' (Pn p q) es xs
 | [],_,r=>r
 | _ :: _,_,⟨v,r,e,g,t⟩=>⟨v,r,e,M.jump k hq g,M.jumps k hq t⟩
theorem IFr.renv (M:IFr K H₀ H σ ρ C p ns ds):REnv K H H σ ρ [] where
 same:=Same.refl H
 fresh:=fun _ z=>absurd z (by simp)
 trk:=fun _ z=>absurd z (by simp)
 mtb:=fun _ z=>absurd z (by simp)
 nda:=List.nodup_nil
 slots:=fun i r e=>by
  by_cases il:i = 0
  ·subst il
   rw [M.hd] at e
   cases e
   obtain ⟨dx,xs,g,r⟩:=M.ob
   exact ⟨_,M.hv,.inl ⟨rfl,p,dx,xs,rfl,g,by simp,M.ln,M.nd,zx.reps (fun a _=>by simp) _ _ r⟩⟩
  ·obtain ⟨k,v,ev,r⟩:=M.sl i r il e
   exact ⟨v,ev,.inl ⟨k,RepN.rep (fun a _=>by simp) _ _ r⟩⟩
 len:=M.len
theorem IFr.to (M:IFr K H₀ H σ ρ C p ns ds) (s:Same H H'):IFr K H₀ H' σ ρ C p ns ds:=by
 obtain ⟨dx,xs,g,r⟩:=M.ob
 exact ⟨⟨dx,xs,s _ _ g,M.jumps (fun b u hb _=>s b u hb) (fun z=>absurd rfl z) r⟩,M.ln,M.nd,M.hd,M.hv,fun i r il e=>let ⟨k,v,ev,q⟩:=M.sl i r il e; ⟨k,v,ev,M.jump (fun b u hb _=>s b u hb) (fun z=>absurd rfl z) q⟩,M.len,fun b u hb n1=>s _ _ (M.kp b u hb n1),fun b hb=>M.dm b (s.free hb)⟩
end
noncomputable abbrev TIL:=DE->(D->Prop)->Prop
noncomputable def D2 (K:W.Frag) (H₀:Hp) (C p:Addr) (t:TIL):TS:=fun D σ H=>∃ ρ ns ds,IFr K H₀ H σ ρ C p ns ds /\ ∃ Z,t ρ Z /\ ∀ σ' H' th ns' ds' is',OB K H' C ns' p th ds' is'->H₀ th = none->(∀ b u,H₀ b = some u->b ≠ p->H' b = some u)->(∀ b,H' b = none->H₀ b = none)->Z (obD C ns' ds' is')->D.nx σ' H'
noncomputable def QIs (C:Addr) (X:Cx) (st:List Stmt) (t:TIL):Prop:=∀ (H₀:Hp) (p:Addr),PSs X st (D2 X.K H₀ C p t)
noncomputable def iFld (C:Addr) (f:Str) (te:TD) (u:TIL):TIL:=fun ρ Z=>te ρ fun r=>∃ n ns ds,slot ρ 0 = some (dv (.ob C ns ds)) /\ f ∉ ns /\ ns.length <= 100 /\ safe n r /\ u (setS ρ 0 (dv (.ob C (ns ++ [f]) (ds ++ [r.d])))) Z
noncomputable def D9 (C:Addr) (f:Str) (te:TD):TIL:=fun ρ Z=>te ρ fun r=>∃ ns ds is,slot ρ 0 = some (dv (.ob C ns ds)) /\ f ∉ ns /\ ns.length <= 100 /\ r = df (.lst (is.map D.int)) /\ Z (obD C (ns ++ [f]) ds is)
section
variable {C:Addr} {X:Cx} {rest:List Stmt} {u:TIL} {e oe:Expr} {te:TD} {pos pos':Pos} {f:Str}
theorem gj {ns:List Str} (nd:ns.Nodup) (hf:f ∉ ns):(ns ++ [f]).Nodup:=by
 rw [List.nodup_append]
 refine ⟨nd,by simp,fun a ha c hc e=>?_⟩
 rw [List.mem_singleton.mp hc] at e
 exact hf (e ▸ ha)
theorem gh (cl:Cls X.K C) (na:se X.K C f) (ho:PE X oe (tVar 0)) (he:ED (fun _=>True) X e te) (hr:QIs C X rest u) (hs:swapsWith e (some (.Attribute oe f pos')) pos.line X.env = pure false:=by rfl):QIs C X (.Assign [.Attribute oe f pos'] e pos :: rest) (iFld C f te u):=fun H₀ p=>by
 have he':PE X e fun σ H Q=>vc X.K H te σ H Q:=fun pn s σ H Q I h=>he ⟨H,trivial⟩ pn s σ H Q I h
 refine Sk (vi (Tf ho he' hs) (hr H₀ p)) fun D σ H h=>?_
 obtain ⟨ρ,ns,ds,M,Z,hZ,k1⟩:=h
 refine ⟨ρ,[],M.renv,_,hZ,fun v r H1 s1 rv h1=>?_⟩
 obtain ⟨n,ns',ds',e1,hf,hn,sf,h1⟩:=h1
 rw [v6 M.hd] at e1
 have e2:DL.D.ob C ns ds = DL.D.ob C ns' ds':=congrArg EV.d (Option.some.inj e1)
 cases e2
 have M1:=M.to s1
 obtain ⟨dx0,xs0,g0,_⟩:=M.ob
 obtain ⟨dx,xs,g,rr⟩:=M1.ob
 have pl:∀ ys,H1 p ≠ some (.lst ys):=fun ys z=>by rw [g] at z; cases z
 have tp:H p ≠ none:=fun z=>by rw [g0] at z; cases z
 have rn:=ux (n:=n) pl (fun ys z=>absurd z (pl ys)) tp tp rv sf
 have lx:ns.length = xs.length:=by rw [rr.length]; exact M.ln
 refine ⟨.ref p,M.hv,p,C,dx,_,rfl,g,cl,na,by rw [List.length_zip]; omega,?_⟩
 rw [dq hf lx]
 have kk:∀ b u,H1 b = some u->b ≠ p->upd H1 p (.ins C dx ((ns ++ [f]).zip (xs ++ [v]))) b = some u:=fun b u hb n1=>by rw [zj n1]; exact hb
 refine ⟨_,ns ++ [f],ds ++ [r.d],⟨⟨dx,xs ++ [v],zk,?_⟩,?_,gj M.nd hf,?_,M.hv,?_,?_,?_,?_⟩,Z,h1,k1⟩
 ·exact zx.append (M1.jumps kk (fun z=>absurd rfl z) rr) ⟨v,[],rfl,M1.jump kk (fun z=>absurd rfl z) rn,rfl⟩
 ·rw [List.length_append,List.length_append,M.ln]; rfl
 ·rw [x8,List.getElem?_set_self (List.getElem?_eq_some_iff.mp M.hd).1]
 ·intro i r il e
  rw [x8,List.getElem?_set_ne (Ne.symm il)] at e
  obtain ⟨kd,v,ev,q⟩:=M1.sl i r il e
  exact ⟨kd,v,ev,M1.jump kk (fun z=>absurd rfl z) q⟩
 ·rw [x8,List.length_set]; exact M.len
 ·exact fun b u hb n1=>kk b u (M1.kp b u hb n1) n1
 ·intro b hb
  refine M1.dm b ?_
  by_cases bp:b = p
  ·rw [bp,zk] at hb; cases hb
  ·rw [zj bp] at hb; exact hb
theorem Mp (cl:Cls X.K C) (na:se X.K C f) (ho:PE X oe (tVar 0)) (he:ED (fun _=>True) X e te) (hs:swapsWith e (some (.Attribute oe f pos')) pos.line X.env = pure false:=by rfl):QIs C X [.Assign [.Attribute oe f pos'] e pos] (D9 C f te):=fun H₀ p=>by
 have he':PE X e fun σ H Q=>vc X.K H te σ H Q:=fun pn s σ H Q I h=>he ⟨H,trivial⟩ pn s σ H Q I h
 refine Sk (kj (Tf ho he' hs)) fun D σ H h=>?_
 obtain ⟨ρ,ns,ds,M,Z,hZ,k1⟩:=h
 refine ⟨ρ,[],M.renv,_,hZ,fun v r H1 s1 rv h1=>?_⟩
 obtain ⟨ns',ds',is,e1,hf,hn,er,h1⟩:=h1
 rw [v6 M.hd] at e1
 have e2:DL.D.ob C ns ds = DL.D.ob C ns' ds':=congrArg EV.d (Option.some.inj e1)
 cases e2
 subst er
 obtain ⟨th,rfl,ht,_,ys,gt,rt⟩:=rv
 cases u5 rt
 obtain ⟨dx,xs,g,rr⟩:=M.ob
 have g1:=s1 _ _ g
 have lx:ns.length = xs.length:=by rw [rr.length]; exact M.ln
 refine ⟨.ref p,M.hv,p,C,dx,_,rfl,g1,cl,na,by rw [List.length_zip]; omega,?_⟩
 rw [dq hf lx]
 have ne:th ≠ p:=fun z=>by rw [z,g] at ht; cases ht
 have kk:∀ b u,H b = some u->b ≠ p->upd H1 p (.ins C dx ((ns ++ [f]).zip (xs ++ [.ref th]))) b = some u:=fun b u hb n1=>by rw [zj n1]; exact s1 _ _ hb
 refine k1 _ _ th _ ds is ⟨⟨dx,xs,zk,M.jumps kk (fun _=>ht) rr⟩,by rw [zj ne]; exact gt,by rw [List.length_append,M.ln]; rfl,gj M.nd hf⟩ (M.dm _ ht) (fun b u hb n1=>kk b u (M.kp b u hb n1) n1) (fun b hb=>?_) h1
 by_cases bp:b = p
 ·rw [bp,zk] at hb; cases hb
 ·rw [zj bp] at hb; exact M.dm b (s1.free hb)
end
noncomputable abbrev FTI:=List D->(D->Prop)->Prop
noncomputable def spI (K:W.Frag) (C:Addr) (n:Nat) (T:FTI):Sp:=fun vs H Q _=>∃ p dx as ws φ,vs = .ref p :: ws /\ as.length + 1 = n /\ H p = some (.ins C dx []) /\ zx K H (Pn p p) as ws /\ T as φ /\
 ∀ H' th ns ds is,OB K H' C ns p th ds is->H th = none->(∀ b u,H b = some u->b ≠ p->H' b = some u)->(∀ b,H' b = none->H b = none)->φ (obD C ns ds is)->Q .non H'
theorem Df {P:Program} {w:World} {K:W.Frag} {mg:Str->Option Value} {base:Heap} {x qual:Str} {st:Stmt} {f:Addr} {fd:FuncData} {N ps:List Str} {k:Nat} {T:FTI} {C:Addr} (F:Fun K x qual st f fd) (S:zp N ps (zb st))
  (qY:∀ (qZ:Value) (A:Around) (outer:List Env) (s:Shared) (H:Hp) (E:XK) (as:List D) (φ:D->Prop),Room k (A.deeper (envOfC qual (zb st) s.heap.objs.size f qZ))->as.length + 1 = ps.length->T as φ ->
   ∃ t,QIs C (cxOf CX0 P w K mg base N qual (zb st) f qZ A outer s H E).nox (yt st) t /\ t (yu N.length (.ob C [] [] :: as)) φ):FnOk P w K mg base CX0 (k + 1) f fd ps (spI K C ps.length T):=by
 refine F.ok S (fun vs H Q E h=>?_) (fun qZ A outer s H vs Q E hr h=>?_)
 ·obtain ⟨p,dx,as,ws,φ,rfl,hl,_,r,_⟩:=h
  rw [List.length_cons,r.length,hl]
 ·obtain ⟨p,dx,as,ws,φ,rfl,hl,g,r,hT,kk⟩:=h
  obtain ⟨t,ht,hq⟩:=qY qZ A outer s H E as φ hr hl hT
  have rl:=r.length
  refine ⟨_,ht H p,_,[],[],⟨⟨dx,[],g,rfl⟩,rfl,List.nodup_nil,rfl,rfl,fun i r' il e=>?_,?_,fun b u hb _=>hb,fun b hb=>hb⟩,φ,hq,fun σ' H' th ns' ds' is' o hth k' d' h'=>kk H' th ns' ds' is' o hth k' d' h'⟩
  ·cases i with
   | zero=>exact absurd rfl il
   | succ i =>
    unfold yu at e
    rw [List.map_cons,List.cons_append,List.getElem?_cons_succ] at e
    rcases Nat.lt_or_ge i as.length with hi | hi
    ·rw [List.getElem?_append_left (by simpa using hi),List.getElem?_map] at e
     have ed:as[i]? = some as[i]:=by simp [hi]
     rw [ed] at e
     have e':some (dv as[i]) = some r':=Option.some.inj e
     cases e'
     obtain ⟨v,ev,rv⟩:=r.gets ed
     refine ⟨rfl,v,?_,rv⟩
     unfold L2.start
     rw [List.map_cons,List.cons_append,List.getElem?_cons_succ,List.getElem?_append_left (by rw [List.length_map,rl]; exact hi),List.getElem?_map,ev]
     rfl
    ·rw [List.getElem?_append_right (by simpa using hi),List.getElem?_replicate] at e
     split at e <;> cases e
  ·unfold L2.start yu
   simp [rl]
theorem pe0 {X:Cx} {e:Expr} {te:TD} (he:ED (fun _=>True) X e te):PE X e fun σ H Q=>vc X.K H te σ H Q:=fun pn s σ H Q I h=>he ⟨H,trivial⟩ pn s σ H Q I h
theorem pt0 {X:Cx} {e:Expr} {te:TDb} (he:ET (fun _=>True) X e te):PT X e fun σ H Q=>kz X.K H te σ H Q:=fun pn s σ H Q I h=>he ⟨H,trivial⟩ pn s σ H Q I h
end DL
namespace HT
open PySem PyProof.Rows
open PySem.AutoSeq1 (wpAny_loadPart')
open PySem.MeetsSeq PySem.MeetsSeq2 PySem.MeetsSeq3 PySem.SeqAt
theorem cw:∀ {vs:List Value} {ns:List Int} {i:Nat} {v:Value},IntsAre vs ns->vs[i]? = some v->∃ a t,v = .int a t /\ ns[i]? = some a
 | _,_,_,_,.nil,e=>by simp at e
 | _,_,0,v,.cons a t _,e=>by simp at e; exact ⟨a,t,e.symm,rfl⟩
 | _,_,i + 1,v,.cons a t h,e=>by simp at e; obtain ⟨a',t',e1,e2⟩:=cw h e; exact ⟨a',t',e1,by simpa using e2⟩
theorem Pj (l b:Addr) (items items2:Array Value) (n n2:Nat) (dd dd2:Option Addr) (sl sl2:Array (Option Value)) (hsz:items.size = items2.size) (ns ms:List Int) (hi:IntsAre items.toList ns) (hj:IntsAre items2.toList ms) (k:Nat) :
  ∀ i:Nat,items.size - i = k->Meets (Builtin.«list.__eq__.loop» ⟨[.ref l,.ref b,rawInt i,rawInt 0],[]⟩)
   (fun A R s=>s.heap.get? l = some { cls:=.type "list", dict:=dd,data:=.seq items n,slots:=sl } /\ s.heap.get? b = some { cls:=.type "list", dict:=dd2,data:=.seq items2 n2,slots:=sl2 } /\
    R (.ok (.ret (.bool (HT.lexLt (ns.drop i) (ms.drop i))))) s):=by
 have z1:items.size = ns.length:=by rw [<- hi.length]; simp
 have z2:items2.size = ms.length:=by rw [<- hj.length]; simp
 induction k with
 | zero =>
  intro i hk prog w A R s h
  obtain ⟨hp,g,d,tk,os⟩:=s; obtain ⟨hl,hb,h⟩:=h
  wp_walk using wpAny_loadPart' hl,wpAny_loadPart' hb
  have hi1:items[((i:Nat):Int).toNat]? = none:=by simp; omega
  have hi2:items2[((i:Nat):Int).toNat]? = none:=by simp; omega
  rw [List.drop_eq_nil_of_le (by omega),List.drop_eq_nil_of_le (by omega)] at h
  rw [hi1,hi2]
  wp_walk using wpAny_loadPart' hl,wpAny_loadPart' hb
  show R (.ok (.ret (.bool (decide (items.size < items2.size))))) _
  rw [decide_eq_false (by omega)]
  exact h
 | succ k ih =>
  intro i hk prog w A R s h
  obtain ⟨hp,g,d,tk,os⟩:=s; obtain ⟨hl,hb,h⟩:=h
  wp_walk using wpAny_loadPart' hl,wpAny_loadPart' hb
  have hlt:i < items.size:=by omega
  have hlt2:i < items2.size:=by omega
  have hi1:items[((i:Nat):Int).toNat]? = some items[i]:=by simp [hlt]
  have hi2:items2[((i:Nat):Int).toNat]? = some items2[i]:=by simp [hlt2]
  have hc:((i:Int) + 1) = ((i + 1:Nat):Int):=by push_cast; rfl
  obtain ⟨a,t,e1,n1⟩:=cw hi (i:=i) (v:=items[i]) (by simp [hlt])
  obtain ⟨c,u,e2,n2'⟩:=cw hj (i:=i) (v:=items2[i]) (by simp [hlt2])
  obtain ⟨_,m1⟩:=List.getElem?_eq_some_iff.mp n1
  obtain ⟨_,m2⟩:=List.getElem?_eq_some_iff.mp n2'
  rw [List.drop_eq_getElem_cons (show i < ns.length by omega),List.drop_eq_getElem_cons (show i < ms.length by omega),m1,m2,lexLt_cons] at h
  rw [hi1,hi2,e1,e2]
  obtain ⟨e,he,hiff⟩:=Oh A.in1 ⟨hp,g,d,tk,os⟩ a t c u
  refine wpAny_bind (he prog w _ _ ?_)
  cases e with
  | true =>
   rw [if_pos (hiff.mp rfl)] at h
   wp_walk
   rw [hc]
   exact ⟨plainId_quiet plain_eq_loop _,codeAny_builtin entry_eq_loop (by
    rw [Around.under_plainId plain_eq_loop _]
    exact ih (i + 1) (by omega) prog w A R _ ⟨hl,hb,h⟩)⟩
  | false =>
   rw [if_neg (fun q=>absurd (hiff.mpr q) Bool.false_ne_true)] at h
   have hri:=P2 A.in1 ⟨hp,g,d,tk,os⟩ a t c u prog w
   wp_walk using wpAny_loadPart' hl,wpAny_loadPart' hb
   rw [hi1,hi2,e1,e2]
   wp_walk using hri
   exact h
theorem Pk (l b:Addr) (items items2:Array Value) (n n2:Nat) (dd dd2:Option Addr) (sl sl2:Array (Option Value)) (hsz:items.size = items2.size) (ns ms:List Int) (hi:IntsAre items.toList ns) (hj:IntsAre items2.toList ms) :
  Meets (Builtin.«list.__lt__» ⟨[.ref l,.ref b],[]⟩)
   (fun A R s=>s.heap.get? l = some { cls:=.type "list", dict:=dd,data:=.seq items n,slots:=sl } /\ s.heap.get? b = some { cls:=.type "list", dict:=dd2,data:=.seq items2 n2,slots:=sl2 } /\
    R (.ok (.ret (.bool (HT.lexLt ns ms)))) s):=by
 intro prog w A R s h
 obtain ⟨hp,g,d,tk,os⟩:=s; obtain ⟨hl,hb,h⟩:=h
 have f3:=AutoSeq1.sub_list_list
 wp_walk using wpAny_loadPart' hl,wpAny_loadPart' hb
 exact ⟨plainId_quiet plain_eq_loop _,codeAny_builtin entry_eq_loop (by
  rw [Around.under_plainId plain_eq_loop _]
  exact Pj l b items items2 n n2 dd dd2 sl sl2 hsz ns ms hi hj _ 0 rfl prog w A R _ ⟨hl,hb,h⟩)⟩
section
variable {prog:Program} {w:World} {A:Around} {E:Value->Shared->Prop} {s:Shared}
theorem lt_listInts {l b:Addr} {items items2:Array Value} {ns ms:List Int} {Q:Value->Shared->Prop} (hl:s.heap.IsList l items) (hb:s.heap.IsList b items2) (hsz:items.size = items2.size) (hi:IntsAre items.toList ns) (hj:IntsAre items2.toList ms)
  (hu:A.units < cLine) (h:Q (.bool (HT.lexLt ns ms)) s):wpAny (model prog w) A (compareOp .Lt (.ref l) (.ref b)) Q E s:=by
 obtain ⟨⟨cls,dd,data,sl⟩,ho,hc,n,hd⟩:=id hl
 obtain ⟨⟨cls2,dd2,data2,sl2⟩,ho2,hc2,n2,hd2⟩:=id hb
 simp only at hc hd hc2 hd2
 subst hc hd hc2 hd2
 exact richCompare_meets_room (op:=.Lt) ⟨_,ho,rfl⟩ ⟨_,ho2,rfl⟩ PySem.F.slot_list_lt PySem.F.entry_list_lt (PySem.F.args_list_lt_2 _ _) (Pk l b items items2 n n2 dd dd2 sl sl2 hsz ns ms hi hj)
  ⟨ho,ho2,show Value.bool (HT.lexLt ns ms) ≠ Value.notImplemented /\ Q (.bool (HT.lexLt ns ms)) s from ⟨(fun x=>nomatch x),h⟩⟩ hu
end
end HT
namespace L2
open PySem PySem.Spec PyProof.Rows
section
variable {X:Cx}
noncomputable def rLtL (K:W.Frag):R2:=fun x y H Q=>∃ a b ns ms,x = .ref a /\ y = .ref b /\ SqL K H a (ns.map V.int) /\ SqL K H b (ms.map V.int) /\ ns.length = ms.length /\ Q (.bl (HT.lexLt ns ms)) H
theorem Gd (hu:X.A.units < cLine):OpR X (compareOp .Lt) (rLtL X.K):=by
 intro pn s σ H x y v u Q I rx ry h
 obtain ⟨a,b,ns,ms,rfl,rfl,ha,hb,hl,q⟩:=h
 cases rx
 cases ry
 obtain ⟨its,r1,p1,_⟩:=I.list ha
 obtain ⟨its2,r2,p2,_⟩:=I.list hb
 have i1:IntsAre its.toArray.toList ns:=fb r1
 have i2:IntsAre its2.toArray.toList ms:=fb r2
 have e1:=i1.length
 have e2:=i2.length
 exact HT.lt_listInts p1.isList p2.isList (by simp only [List.size_toArray]; simp only [List.toList_toArray] at e1 e2; omega) i1 i2 hu ⟨.bl (HT.lexLt ns ms),H,I,rfl,q⟩
end
end L2
namespace DL
open PySem PySem.Spec L2 L3
open PyProof.Rows hiding St
noncomputable def sLtL:D->D->(EV->Prop)->Prop:=fun x y φ=>∃ ns ms:List Int,x = .lst (ns.map D.int) /\ y = .lst (ms.map D.int) /\ ns.length = ms.length /\ φ (dv (.bl (HT.lexLt ns ms)))
section
variable {Γ:Hp->Prop} {X:Cx} {a b:Expr} {ta tb:TD} {pos:Pos}
theorem Fx (hu:X.A.units + 64 < cLine) (ha:ED Γ X a ta) (hb:ED Γ X b tb):ED Γ X (.Compare a [.Lt] [b] pos) (d2 sLtL ta tb) :=
 Nv (Gd (by omega)) (fun H O x y vx vy φ Q ho hx hy h k=>by
  obtain ⟨ns,ms,rfl,rfl,hl,q⟩:=h
  obtain ⟨a1,xs,rfl,q1,_,r1⟩:=hx.rep0
  obtain ⟨a2,ys,rfl,q2,_,r2⟩:=hy.rep0
  cases u5 r1
  cases u5 r2
  exact ⟨a1,a2,ns,ms,rfl,rfl,SqL.of q1,SqL.of q2,hl,k _ _ H (Same.refl H) (by exact rfl) q⟩) ha hb (t4 _)
end
theorem Zf:∀ {ns ms:List Int},ns.length = ms.length->(HT.lexLt ns ms = true ↔ ∃ k,k < ns.length /\ (∀ j,j < k->ns.getD j 0 = ms.getD j 0) /\ ns.getD k 0 < ms.getD k 0)
 | [],[],_=>⟨fun h=>(by cases h),fun ⟨k,hk,_⟩=>absurd hk (by simp)⟩
 | x :: xs,y :: ys,h=>by
  rw [HT.lexLt_cons]
  have ih:=Zf (ns:=xs) (ms:=ys) (by simpa using h)
  by_cases e:x = y
  ·rw [if_pos e,ih]
   refine ⟨fun ⟨k,hk,z,q⟩=>⟨k + 1,by simpa using hk,fun j hj=>?_,by simpa using q⟩,fun ⟨k,hk,z,q⟩=>?_⟩
   ·cases j with
    | zero=>exact e
    | succ j=>have:=z j (by omega); simpa using this
   ·cases k with
    | zero=>exact absurd q (by simp; omega)
    | succ k=>exact ⟨k,by simpa using hk,fun j hj=>by have:=z (j + 1) (by omega); simpa using this,by simpa using q⟩
  ·rw [if_neg e,decide_eq_true_eq]
   refine ⟨fun q=>⟨0,by simp,fun j hj=>absurd hj (by omega),by simpa using q⟩,fun ⟨k,hk,z,q⟩=>?_⟩
   cases k with
   | zero=>simpa using q
   | succ k=>exact absurd (by have:=z 0 (by omega); simpa using this) e
end DL
namespace DL
open PySem PySem.Spec L2 L3
open PyProof.Rows hiding St
variable {Γ:Hp->Prop}
noncomputable def spV (K:W.Frag) (n:Nat) (T:FT):Sp:=fun vs H Q _=>∃ ds φ,ds.length = n /\ Reps K H [] ds vs /\ T ds φ /\ ∀ v r H',Same H H'->RV K H H' [] r v->φ r->Q v H'
structure FV (P:Program) (w:World) (K:W.Frag) (mg:Str->Option Value) (base:Heap) (k:Nat) (x:Str) (ps:List Str) (T:FT):Prop where
 ex:∃ f fd,FnOk P w K mg base CX0 k f fd ps (spV K ps.length T) /\ vf K fd ps [] /\ W.keepIn K (.ref f) = true /\ mg x = some (.ref f)
noncomputable def frzA (ρ:DE):DE:=ρ.map (Option.map fun r:EV=>dv r.d)
theorem REnv.frzA {K:W.Frag} {H₀ H:Hp} {σ:St} {ρ:DE} {o:List (Nat × Addr)} (R:REnv K H₀ H σ ρ o):REnv K H₀ H σ (frzA ρ) [] where
 same:=R.same
 fresh:=fun _ z=>absurd z (by simp)
 trk:=fun _ z=>absurd z (by simp)
 mtb:=fun _ z=>absurd z (by simp)
 nda:=List.nodup_nil
 len:=by unfold DL.frzA; rw [List.length_map]; exact R.len
 slots:=fun i r e=>by
  unfold DL.frzA at e
  rw [List.getElem?_map] at e
  cases e1:ρ[i]? with
  | none=>rw [e1] at e; cases e
  | some x =>
   rw [e1] at e
   cases x with
   | none=>cases e
   | some r' =>
    have e':some (dv r'.d) = some r:=Option.some.inj e
    cases e'
    obtain ⟨v,ev,q⟩:=R.slots i r' e1
    refine ⟨v,ev,.inl ⟨rfl,?_⟩⟩
    rcases q with ⟨_,q⟩ | ⟨_,a,rfl,m,c⟩
    ·exact Rep.sub (fun _ z=>absurd z (by simp)) _ _ q
    ·exact (c.sub (fun _ z=>absurd z (by simp))).rep (by simp)
theorem Dd {O O':List Addr} {H H':Hp} (g:Grow [] O' H H'):Grow O O' H H':=⟨fun b u h _=>g.1 b u h (by simp),g.2,g.3⟩
section
variable {X:Cx} {x y:Str} {ps:List Str} {T:FT} {k:Nat} {e:Expr} {es:List Expr} {t:TDs} {p pos pos' pos2:Pos}
noncomputable def Jz (i n:Nat) (T:FT) (t:TDs):TDS:=fun ρ Z=>t (frzA ρ) fun rs=>Nat.beq rs.length n = true /\ T (rs.map EV.d) fun r=>(match r.k with | .own=>False | _=>True) /\ Z.nx (setS (frzA ρ) i r.sto)
theorem Mh (i:Nat) (hN:X.N.Nodup) (F:FV X.prog X.w X.K X.mg X.base k x ps T) (hr:Room k X.A) (ha:EA Γ X (e :: es) t) (hg:Gl X x:=by rfl) (hdb:(x == ("__debug__" : Str)) = false:=by decide)
  (he:starEach (e :: es) X.env = (false,eval e X.env) :: starEach es X.env:=by rfl) (hpl:(backTo pos (starEach es X.env)).any (·.1) = false:=by rfl) (hi:X.N[i]? = some y:=by rfl) (hx:Loc X.env.scope y:=by first | exact Or.inl rfl | exact Or.inr rfl) (hs:swapsWith (.Call (.Name x p) (e :: es) [] pos) (some (.Name y pos')) pos2.line X.env = pure false:=by rfl)
  (hf:X.fn y = true \/ X.env.scope.names.lookup y = some .local:=by first | exact .inl rfl | exact .inr rfl | assumption):SD Γ X (.Assign [.Name y pos'] (.Call (.Name x p) (e :: es) [] pos) pos2) (Jz i ps.length T t):=fun H₀=>by
 obtain ⟨f,fd,ok,b,kp,m⟩:=F.ex
 refine impS (Wg hN hi hx (To ok hr hg m kp b .nil Yr (ha H₀) hdb he hpl) hs hf) fun D σ H h=>?_
 obtain ⟨ρ,o,R,Z,hZ,k1,k2,k3,k4⟩:=h
 refine ⟨frzA ρ,[],R.frzA,_,hZ,fun vs rs H1 s1 rvs h1=>?_⟩
 show spV X.K ps.length T (vs ++ []) H1 _ E0
 rw [List.append_nil]
 refine ⟨rs.map EV.d,_,by rw [List.length_map]; exact Nat.eq_of_beq_eq_true h1.1,rvs.reps0,h1.2,fun v r H2 s2 rv h2=>?_⟩
 obtain ⟨o',R',g⟩:=R.frzA.put (s1.trans s2) i (RV.start rv s1) (wv h2.1)
 exact k1 _ _ H2 o' (Dd g) R' h2.2
end
section
variable {P:Program} {w:World} {K:W.Frag} {mg:Str->Option Value} {base:Heap}
theorem Fp {x qual:Str} {st:Stmt} {f:Addr} {fd:FuncData} {N ps:List Str} {k:Nat} {T:FT} (F:Fun K x qual st f fd) (S:zp N ps (zb st))
  (qY:∀ (qZ:Value) (A:Around) (outer:List Env) (s:Shared) (H:Hp) (E:XK) (ds:List D) (φ:EV->Prop),Room k (A.deeper (envOfC qual (zb st) s.heap.objs.size f qZ))->ds.length = ps.length->T ds φ ->
   ∃ t,SDs (fun _=>True) (cxOf CX0 P w K mg base N qual (zb st) f qZ A outer s H E).nox (yt st) t /\ t (yu N.length ds) { nx:=fun _=>φ (dv .non),rt:=φ }):FnOk P w K mg base CX0 (k + 1) f fd ps (spV K ps.length T):=by
 refine F.ok S (fun vs H Q E h=>?_) (fun qZ A outer s H vs Q E hr h=>?_)
 ·obtain ⟨ds,φ,hl,r,_⟩:=h
  rw [r.length,hl]
 ·obtain ⟨ds,φ,hl,r,hT,kk⟩:=h
  obtain ⟨t,ht,hq⟩:=qY qZ A outer s H E ds φ hr hl hT
  have rl:=r.length
  refine ⟨Vy K H t,ht ⟨H,trivial⟩,yu N.length ds,[],⟨Same.refl H,(fun _ z=>absurd z (by simp)),(fun _ z=>absurd z (by simp)),(fun _ z=>absurd z (by simp)),List.nodup_nil,fun i r' e=>?_,?_⟩,_,hq,fun ρ' σ' H' o' g R' q=>?_,fun _ _ _ _ _ _ q=>q.elim,fun _ _ _ _ _ _ q=>q.elim,fun v r' H' s' rv q=>kk v r' H' s' rv q⟩
  ·unfold yu at e
   rcases Nat.lt_or_ge i ds.length with hi | hi
   ·rw [List.getElem?_append_left (by simpa using hi),List.getElem?_map] at e
    have ed:ds[i]? = some ds[i]:=by simp [hi]
    rw [ed] at e
    have e':some (dv ds[i]) = some r':=Option.some.inj e
    cases e'
    obtain ⟨v,ev,rv⟩:=r.get ed
    refine ⟨v,?_,.inl ⟨rfl,rv⟩⟩
    unfold L2.start
    rw [List.getElem?_append_left (by rw [List.length_map,rl]; exact hi),List.getElem?_map,ev]
    rfl
   ·rw [List.getElem?_append_right (by simpa using hi),List.getElem?_replicate] at e
    split at e <;> cases e
  ·unfold L2.start yu
   simp [rl]
  ·exact kk .non (dv .non) H' R'.same rfl q
theorem De {x qual:Str} {st:Stmt} {f:Addr} {fd:FuncData} {N ps:List Str} {k:Nat} {T:FT} (F:Fun K x qual st f fd) (S:zp N ps (zb st)) (b:vf K fd ps []) (m:mg x = some (.ref f))
  (qY:∀ (qZ:Value) (A:Around) (outer:List Env) (s:Shared) (H:Hp) (E:XK) (ds:List D) (φ:EV->Prop),Room k (A.deeper (envOfC qual (zb st) s.heap.objs.size f qZ))->ds.length = ps.length->T ds φ ->
   ∃ t,SDs (fun _=>True) (cxOf CX0 P w K mg base N qual (zb st) f qZ A outer s H E).nox (yt st) t /\ t (yu N.length ds) { nx:=fun _=>φ (dv .non),rt:=φ }):FV P w K mg base (k + 1) x ps T:=⟨f,fd,Fp F S qY,b,F.kp,m⟩
end
end DL
namespace DL
noncomputable def sm:Nat->(Nat->Int)->Int
 | 0,_=>0
 | n + 1,f=>sm n f + f n
theorem zf {n:Nat} {f g:Nat->Int} (h:∀ i,i < n->f i = g i):sm n f = sm n g:=by
 induction n with
 | zero=>rfl
 | succ n ih =>
  show sm n f + f n = sm n g + g n
  rw [ih fun i hi=>h i (by omega),h n (by omega)]
theorem v4 {n:Nat} {f:Nat->Int} (h:∀ i,i < n->f i = 0):sm n f = 0:=by
 induction n with
 | zero=>rfl
 | succ n ih =>
  show sm n f + f n = 0
  rw [ih fun i hi=>h i (by omega),h n (by omega)]; rfl
theorem u3 (n:Nat) (f g:Nat->Int):sm n (fun i=>f i + g i) = sm n f + sm n g:=by
 induction n with
 | zero=>rfl
 | succ n ih =>
  show sm n _ + (f n + g n) = sm n f + f n + (sm n g + g n)
  rw [ih]; omega
theorem ye (n:Nat) (c:Int) (f:Nat->Int):sm n (fun i=>c * f i) = c * sm n f:=by
 induction n with
 | zero=>exact (Int.mul_zero c).symm
 | succ n ih =>
  show sm n _ + c * f n = c * (sm n f + f n)
  rw [ih,Int.mul_add]
theorem xo (n:Nat) (c:Int) (f:Nat->Int):sm n (fun i=>f i * c) = sm n f * c:=by
 rw [Int.mul_comm,<- ye]
 exact zf fun i _=>Int.mul_comm _ _
theorem v5 (n m:Nat) (f:Nat->Nat->Int):sm n (fun i=>sm m (f i)) = sm m (fun j=>sm n fun i=>f i j):=by
 induction n with
 | zero=>exact (v4 fun _ _=>rfl).symm
 | succ n ih =>
  show sm n (fun i=>sm m (f i)) + sm m (f n) = sm m fun j=>sm n (fun i=>f i j) + f n j
  rw [ih,u3]
theorem xq {n k:Nat} (hk:k < n) (f:Nat->Int) (h:∀ i,i < n->i ≠ k->f i = 0):sm n f = f k:=by
 induction n with
 | zero=>omega
 | succ n ih =>
  show sm n f + f n = f k
  by_cases e:k = n
  ·subst e
   rw [v4 fun i hi=>h i (by omega) (by omega)]; omega
  ·rw [ih (by omega) fun i hi=>h i (by omega),h n (by omega) (by omega)]; omega
noncomputable def cset (M:Nat->Nat->Int) (k:Nat) (u:Nat->Int):Nat->Nat->Int:=fun j=>if j = k then u else M j
noncomputable def skip (j:Nat) (M:Nat->Nat->Int):Nat->Nat->Int:=fun k=>if k < j then M k else M (k + 1)
noncomputable def sgn1 (j:Nat):Int:=if j % 2 = 0 then 1 else -1
noncomputable def det:Nat->(Nat->Nat->Int)->Int
 | 0,_=>1
 | n + 1,M=>sm (n + 1) fun j=>sgn1 j * M j n * det n (skip j M)
theorem wq:∀ {n:Nat} {M N:Nat->Nat->Int},(∀ j,j < n->∀ p,p < n->M j p = N j p)->det n M = det n N
 | 0,_,_,_=>rfl
 | n + 1,M,N,h=>zf fun j hj=>by
  rw [h j hj n (by omega),wq (n:=n) (M:=skip j M) (N:=skip j N) fun k hk p hp=>?_]
  unfold skip
  split
  ·exact h k (by omega) p (by omega)
  ·exact h (k + 1) (by omega) p (by omega)
theorem k7 (M:Nat->Nat->Int) (k:Nat) (u:Nat->Int):skip k (cset M k u) = skip k M:=funext fun j=>by
 unfold skip cset
 split
 ·rw [if_neg (by omega)]
 ·rw [if_neg (by omega)]
theorem Yn {j k:Nat} (h:j < k) (M:Nat->Nat->Int) (u:Nat->Int):skip j (cset M k u) = cset (skip j M) (k - 1) u:=funext fun i=>by
 unfold skip cset
 dsimp only
 by_cases e:i < j
 ·rw [if_pos e,if_pos e,if_neg (by omega),if_neg (by omega)]
 ·rw [if_neg e,if_neg e]
  by_cases e2:i + 1 = k
  ·rw [if_pos e2,if_pos (by omega)]
  ·rw [if_neg e2,if_neg (by omega)]
theorem Yo {j k:Nat} (h:k < j) (M:Nat->Nat->Int) (u:Nat->Int):skip j (cset M k u) = cset (skip j M) k u:=funext fun i=>by
 unfold skip cset
 dsimp only
 by_cases e:i < j
 ·rw [if_pos e,if_pos e]
 ·rw [if_neg e,if_neg e,if_neg (by omega),if_neg (by omega)]
theorem uu:∀ {n:Nat} (M:Nat->Nat->Int) {k:Nat},k < n->∀ (a b:Int) (u v:Nat->Int),det n (cset M k fun p=>a * u p + b * v p) = a * det n (cset M k u) + b * det n (cset M k v)
 | 0,_,_,h,_,_,_,_=>absurd h (by omega)
 | n + 1,M,k,hk,a,b,u,v=>by
  show sm (n + 1) _ = a * sm (n + 1) _ + b * sm (n + 1) _
  rw [<- ye,<- ye,<- u3]
  refine zf fun j hj=>?_
  by_cases e:j = k
  ·subst e
   rw [k7,k7,k7]
   show sgn1 j * (cset M j _ j n) * _ = a * (sgn1 j * (cset M j u j n) * _) + b * (sgn1 j * (cset M j v j n) * _)
   unfold cset
   rw [if_pos rfl,if_pos rfl,if_pos rfl]
   grind
  ·have c:∀ w:Nat->Int,cset M k w j n = M j n:=fun w=>by unfold cset; rw [if_neg e]
   rw [c,c,c]
   rcases Nat.lt_or_gt_of_ne e with h | h
   ·rw [Yn h,Yn h,Yn h,uu (skip j M) (by omega)]
    grind
   ·rw [Yo h,Yo h,Yo h,uu (skip j M) (by omega)]
    grind
theorem Uz (j:Nat):sgn1 (j + 1) = -sgn1 j:=by
 unfold sgn1
 by_cases e:j % 2 = 0
 ·rw [if_pos e,if_neg (by omega)]
 ·rw [if_neg e,if_pos (by omega)]; rfl
theorem Me (j:Nat):sgn1 j * sgn1 j = 1:=by
 unfold sgn1
 split <;> rfl
theorem Jr {n k:Nat} (hk:k + 1 < n) (f:Nat->Int) (h:∀ i,i < n->i ≠ k->i ≠ k + 1->f i = 0) (e:f k + f (k + 1) = 0):sm n f = 0:=by
 induction n with
 | zero=>omega
 | succ n ih =>
  show sm n f + f n = 0
  by_cases z:k + 1 = n
  ·subst z
   rw [xq (k:=k) (by omega) f fun i hi ik=>h i (by omega) ik (by omega)]
   exact e
  ·rw [ih (by omega) fun i hi=>h i (by omega),h n (by omega) (by omega) (by omega)]; rfl
theorem bq:∀ {n:Nat} (M:Nat->Nat->Int) {k:Nat},k + 1 < n->M k = M (k + 1)->det n M = 0
 | 0,_,_,h,_=>absurd h (by omega)
 | n + 1,M,k,hk,e=>Jr hk _ (fun j hj j1 j2=>by
   rcases Nat.lt_or_ge j k with h | h
   ·rw [bq (skip j M) (k:=k - 1) (by omega) (by unfold skip; rw [if_neg (by omega),if_neg (by omega),show k - 1 + 1 = k by omega]; exact e),Int.mul_zero]
   ·rw [bq (skip j M) (k:=k) (by omega) (by unfold skip; rw [if_pos (by omega),if_pos (by omega)]; exact e),Int.mul_zero]) (by
   have es:skip k M = skip (k + 1) M:=funext fun i=>by
    unfold skip
    by_cases a:i < k
    ·rw [if_pos a,if_pos (by omega)]
    ·rw [if_neg a]
     by_cases b:i = k
     ·subst b; rw [if_pos (by omega),e]
     ·rw [if_neg (by omega)]
   show sgn1 k * M k n * det n (skip k M) + sgn1 (k + 1) * M (k + 1) n * det n (skip (k + 1) M) = 0
   rw [es,Uz,e]
   grind)
theorem ua (M:Nat->Nat->Int) (k:Nat):cset M k (M k) = M:=funext fun j=>by
 unfold cset
 split
 ·rename_i h; rw [h]
 ·rfl
theorem wr {j k:Nat} (h:j ≠ k) (M:Nat->Nat->Int) (u v:Nat->Int):cset (cset M j u) k v = cset (cset M k v) j u:=funext fun i=>by
 unfold cset
 by_cases a:i = k
 ·rw [if_pos a,if_neg (by omega),if_pos a]
 ·rw [if_neg a]
  by_cases b:i = j
  ·rw [if_pos b,if_pos b]
  ·rw [if_neg b,if_neg b,if_neg a]
theorem U8 (M:Nat->Nat->Int) (k:Nat) (u v:Nat->Int):cset (cset M k u) k v = cset M k v:=funext fun i=>by
 unfold cset
 split <;> rfl
theorem ub (M:Nat->Nat->Int) (k:Nat) (u:Nat->Int):cset M k u k = u:=by unfold cset; rw [if_pos rfl]
theorem vo {j k:Nat} (h:j ≠ k) (M:Nat->Nat->Int) (u:Nat->Int):cset M k u j = M j:=by unfold cset; rw [if_neg h]
theorem Vb {n j k:Nat} (hj:j < n) (hk:k < n) (jk:j ≠ k) (M:Nat->Nat->Int) (z:∀ u:Nat->Int,det n (cset (cset M j u) k u) = 0) (u v:Nat->Int):det n (cset (cset M j u) k v) = - det n (cset (cset M j v) k u):=by
 have h:=z fun p=>1 * u p + 1 * v p
 rw [uu _ hk,wr jk,uu _ hj,wr jk M _ v,uu _ hj,wr jk.symm,wr jk.symm,wr jk.symm,wr jk.symm,z u,z v] at h
 omega
theorem Rt:∀ (m:Nat) {n:Nat} (M:Nat->Nat->Int) {j k:Nat},k = j + m + 1->k < n->M j = M k->det n M = 0
 | 0,n,M,j,k,h,hk,e=>by subst h; exact bq M hk e
 | m + 1,n,M,j,k,h,hk,e=>by
  have a:det n (cset (cset M (k - 1) (M (k - 1))) k (M k)) = - det n (cset (cset M (k - 1) (M k)) k (M (k - 1))):=Vb (by omega) hk (by omega) M (fun u=>bq _ (k:=k - 1) (by omega) (by rw [show k - 1 + 1 = k by omega,ub,vo (by omega),ub])) _ _
  rw [ua,ua,Rt m (cset (cset M (k - 1) (M k)) k (M (k - 1))) (j:=j) (k:=k - 1) (by omega) (by omega) (by rw [vo (by omega),vo (by omega),vo (by omega),ub]; exact e)] at a
  exact a
theorem qx {n j k:Nat} (hj:j < n) (hk:k < n) (jk:j ≠ k) (M:Nat->Nat->Int) (e:M j = M k):det n M = 0:=by
 rcases Nat.lt_or_gt_of_ne jk with h | h
 ·exact Rt (k - j - 1) M (by omega) hk e
 ·exact Rt (j - k - 1) M (by omega) hj e.symm
theorem Ol {n j k:Nat} (hj:j < n) (hk:k < n) (jk:j ≠ k) (M:Nat->Nat->Int) (u v:Nat->Int):det n (cset (cset M j u) k v) = - det n (cset (cset M j v) k u) :=
 Vb hj hk jk M (fun w=>qx hj hk jk _ (by rw [vo jk,ub,ub])) u v
noncomputable def unt (q:Nat):Nat->Int:=fun p=>if p = q then 1 else 0
theorem Rr {n k:Nat} (hk:k < n) (M:Nat->Nat->Int) (a:Nat->Int):∀ m,m <= n->det n (cset M k fun p=>if p < m then a p else 0) = sm m fun q=>a q * det n (cset M k (unt q))
 | 0,_=>by
  have h:=uu M hk 0 0 (fun _=>0) (fun _=>0)
  rw [Int.zero_mul,Int.zero_mul] at h
  refine Eq.trans (congrArg _ (congrArg _ (funext fun p=>?_))) h
  rw [if_neg (by omega)]; rfl
 | m + 1,hm=>by
  have ih:=Rr hk M a m (by omega)
  have h:=uu M hk 1 (a m) (fun p=>if p < m then a p else 0) (unt m)
  show _ = sm m _ + a m * det n (cset M k (unt m))
  rw [<- ih,<- Int.one_mul (det n (cset M k fun p=>if p < m then a p else 0)),<- h]
  refine congrArg _ (congrArg _ (funext fun p=>?_))
  unfold unt
  by_cases e:p < m
  ·rw [if_pos e,if_pos (by omega),if_neg (by omega)]; omega
  ·rw [if_neg e]
   by_cases e2:p = m
   ·rw [if_pos (by omega),if_pos e2,e2]; omega
   ·rw [if_neg (by omega),if_neg e2]; omega
theorem Xo {n k:Nat} (hk:k < n) (M:Nat->Nat->Int) (a:Nat->Int):det n (cset M k a) = sm n fun q=>a q * det n (cset M k (unt q)):=by
 rw [<- Rr hk M a n (Nat.le_refl _)]
 refine wq fun j _ p hp=>?_
 unfold cset
 split
 ·dsimp only; rw [if_pos hp]
 ·rfl
theorem qw:∀ n:Nat,det n unt * det n unt = 1
 | 0=>rfl
 | n + 1=>by
  have e:det (n + 1) unt = sgn1 n * det n unt:=by
   show sm (n + 1) _ = _
   rw [xq (k:=n) (by omega) _ fun j hj jn=>by unfold unt; rw [if_neg (by omega),Int.mul_zero,Int.zero_mul]]
   show sgn1 n * unt n n * det n (skip n unt) = _
   rw [show unt n n = 1 from if_pos rfl,Int.mul_one]
   rw [wq (n:=n) (M:=skip n unt) (N:=unt) fun j hj p hp=>by unfold skip; rw [if_pos hj]]
  rw [e]
  have:=qw n
  have:=Me n
  grind
theorem h7 {n:Nat} {f:Nat->Int} {B:Nat} (h:∀ i,i < n->(f i).natAbs <= B):(sm n f).natAbs <= n * B:=by
 induction n with
 | zero=>exact Nat.zero_le _
 | succ n ih =>
  have a:=ih fun i hi=>h i (by omega)
  have b:=h n (by omega)
  show (sm n f + f n).natAbs <= _
  have:=Int.natAbs_add_le (sm n f) (f n)
  rw [Nat.succ_mul]
  omega
theorem Xp {B:Nat}:∀ {n:Nat} {M:Nat->Nat->Int},n <= 32->(∀ j,j < n->∀ p,p < n->(M j p).natAbs <= B)->(det n M).natAbs <= (32 * B) ^ n
 | 0,_,_,_=>Nat.le_refl _
 | n + 1,M,hn,h=>by
  have t:∀ j,j < n + 1->(sgn1 j * M j n * det n (skip j M)).natAbs <= B * (32 * B) ^ n:=fun j hj=>by
   have d:=Xp (B:=B) (n:=n) (M:=skip j M) (by omega) fun k hk p hp=>by
    unfold skip
    split
    ·exact h k (by omega) p (by omega)
    ·exact h (k + 1) (by omega) p (by omega)
   have s:(sgn1 j).natAbs = 1:=by unfold sgn1; split <;> rfl
   rw [Int.natAbs_mul,Int.natAbs_mul,s,Nat.one_mul]
   exact Nat.mul_le_mul (h j hj n (by omega)) d
  refine Nat.le_trans (h7 t) ?_
  rw [Nat.pow_succ,Nat.mul_comm ((32 * B) ^ n),<- Nat.mul_assoc]
  exact Nat.mul_le_mul_right _ (Nat.mul_le_mul_right _ hn)
noncomputable def lxp (n:Nat) (v:Nat->Int):Prop:=∃ k,k <= n /\ (∀ j,j < k->v j = 0) /\ 0 < v k
noncomputable def lxl (n:Nat) (u v:Nat->Int):Prop:=lxp n fun q=>v q - u q
theorem xb {n:Nat} {u v:Nat->Int} (h:∀ q,q <= n->u q = v q) (p:lxp n u):lxp n v:=by
 obtain ⟨k,hk,z,q⟩:=p
 exact ⟨k,hk,fun j hj=>by rw [<- h j (by omega)]; exact z j hj,by rw [<- h k hk]; exact q⟩
theorem Yw {n:Nat} {u v:Nat->Int} (hu:lxp n u) (hv:lxp n v):lxp n fun q=>u q + v q:=by
 obtain ⟨k,hk,z,q⟩:=hu
 obtain ⟨l,hl,y,p⟩:=hv
 rcases Nat.lt_or_ge k l with h | h
 ·exact ⟨k,hk,fun j hj=>by dsimp only; rw [z j hj,y j (by omega)]; rfl,by have:=y k h; dsimp only; omega⟩
 ·rcases Nat.lt_or_ge l k with h2 | h2
  ·exact ⟨l,hl,fun j hj=>by dsimp only; rw [z j (by omega),y j hj]; rfl,by have:=z l h2; dsimp only; omega⟩
  ·have e:k = l:=by omega
   subst e
   exact ⟨k,hk,fun j hj=>by dsimp only; rw [z j hj,y j hj]; rfl,by dsimp only; omega⟩
theorem ul {n:Nat} {u:Nat->Int} {c:Int} (hc:0 < c) (hu:lxp n u):lxp n fun q=>c * u q:=by
 obtain ⟨k,hk,z,q⟩:=hu
 exact ⟨k,hk,fun j hj=>by dsimp only; rw [z j hj,Int.mul_zero],Int.mul_pos hc q⟩
theorem Yv {n:Nat} {u:Nat->Int} {c:Int} (hc:0 < c) (hu:lxp n fun q=>c * u q):lxp n u:=by
 obtain ⟨k,hk,z,q⟩:=hu
 refine ⟨k,hk,fun j hj=>(Int.mul_eq_zero.mp (z j hj)).resolve_left (by omega),?_⟩
 rcases Int.lt_or_le 0 (u k) with h | h
 ·exact h
 ·exact absurd q (Int.not_lt.mpr (Int.mul_nonpos_of_nonneg_of_nonpos (Int.le_of_lt hc) h))
theorem S1 {n:Nat} {u:Nat->Int} (h:∀ q,q <= n->u q = 0):¬ lxp n u:=fun ⟨k,hk,_,q⟩=>by rw [h k hk] at q; omega
theorem Lp (n:Nat) (u:Nat->Int):lxp n u \/ (∀ q,q <= n->u q = 0) \/ lxp n (fun q=>- u q):=by
 have:∀ m,m <= n + 1->(∃ k,k < m /\ (∀ j,j < k->u j = 0) /\ u k ≠ 0) \/ ∀ q,q < m->u q = 0:=fun m=>by
  induction m with
  | zero=>exact fun _=>.inr fun q hq=>absurd hq (by omega)
  | succ m ih =>
   intro hm
   rcases ih (by omega) with ⟨k,hk,z,q⟩ | h
   ·exact .inl ⟨k,by omega,z,q⟩
   ·by_cases e:u m = 0
    ·exact .inr fun q hq=>by
      rcases Nat.lt_or_ge q m with a | a
      ·exact h q a
      ·rw [show q = m by omega]; exact e
    ·exact .inl ⟨m,by omega,h,e⟩
 rcases this (n + 1) (Nat.le_refl _) with ⟨k,hk,z,q⟩ | h
 ·rcases Int.lt_or_gt_of_ne q with a | a
  ·exact .inr (.inr ⟨k,by omega,fun j hj=>by dsimp only; rw [z j hj]; rfl,by dsimp only; omega⟩)
  ·exact .inl ⟨k,by omega,z,a⟩
 ·exact .inr (.inl fun q hq=>h q (by omega))
theorem Gq {n:Nat} {u:Nat->Int} (h:lxp n u):0 <= u 0:=by
 obtain ⟨k,hk,z,q⟩:=h
 by_cases e:k = 0
 ·subst e; omega
 ·rw [z 0 (by omega)]; omega
theorem Jp {n r:Nat} (hr:r < n) (f:Nat->Int) (x:Int):sm n (fun i=>if i = r then x else f i) = sm n f + (x - f r):=by
 have h:sm n (fun i=>(if i = r then x else f i) - f i) = x - f r:=by
  rw [xq hr _ fun i _ hi=>by rw [if_neg hi]; omega]
  rw [if_pos rfl]
 have e:sm n (fun i=>if i = r then x else f i) = sm n (fun i=>((if i = r then x else f i) - f i) + f i):=zf fun i _=>by omega
 rw [e,u3,h]
 omega
structure XS where
 d:Int
 L:Nat->Nat->Int
 g:Nat->Int
 th:Nat->Nat
section
variable {n N:Nat} {col:Nat->Nat->Int} {bnd cost:Nat->Int} {s:XS} {k r:Nat}
noncomputable def kol (n:Nat) (col:Nat->Nat->Int) (s:XS) (k i:Nat):Int:=sm n fun q=>s.L i (q + 1) * col k q
noncomputable def mis (n:Nat) (col:Nat->Nat->Int) (bnd:Nat->Int) (s:XS) (k:Nat):Int:=bnd k * s.d - sm n fun q=>s.g (q + 1) * col k q
structure IV (n N:Nat) (col:Nat->Nat->Int) (bnd cost:Nat->Int) (s:XS):Prop where
 d0:0 < s.d
 e:∃ ε:Int,ε * ε = 1 /\ s.d = ε * det n (fun j=>col (s.th j)) /\ ∀ i,i < n->∀ q,q < n->s.L i (q + 1) = ε * det n (cset (fun j=>col (s.th j)) i (unt q))
 BL:∀ p,p < n->∀ q,q < n->sm n (fun i=>col (s.th i) p * s.L i (q + 1)) = if p = q then s.d else 0
 L0:∀ i,i < n->s.L i 0 = sm n fun q=>s.L i (q + 1) * cost q
 G:∀ q,q <= n->s.g q = sm n fun i=>bnd (s.th i) * s.L i q
 lx:∀ i,i < n->lxp n (s.L i)
 tN:∀ i,i < n->s.th i < N
theorem IV.LB (I:IV n N col bnd cost s) {i j:Nat} (hi:i < n) (hj:j < n):kol n col s (s.th j) i = if i = j then s.d else 0:=by
 obtain ⟨ε,_,e2,e3⟩:=I.e
 have h:=Xo hi (fun j=>col (s.th j)) (col (s.th j))
 have e:kol n col s (s.th j) i = ε * det n (cset (fun j=>col (s.th j)) i (col (s.th j))):=by
  unfold kol
  rw [h,<- ye]
  exact zf fun q hq=>by rw [e3 i hi q hq]; grind
 rw [e]
 by_cases ij:i = j
 ·subst ij
  rw [if_pos rfl,ua (fun j=>col (s.th j)) i]
  exact e2.symm
 ·rw [if_neg ij,qx hi hj ij _ (by rw [ub,vo (fun z=>ij z.symm)]),Int.mul_zero]
theorem IV.inj (I:IV n N col bnd cost s) {y:Nat->Int} (h:∀ j,j < n->(sm n fun q=>y q * col (s.th j) q) = 0):∀ q,q < n->y q = 0:=fun q hq=>by
 have e:sm n (fun j=>(sm n fun p=>y p * col (s.th j) p) * s.L j (q + 1)) = s.d * y q:=by
  have:sm n (fun j=>(sm n fun p=>y p * col (s.th j) p) * s.L j (q + 1)) = sm n fun p=>y p * sm n fun j=>col (s.th j) p * s.L j (q + 1):=by
   rw [zf (g:=fun j=>sm n fun p=>y p * (col (s.th j) p * s.L j (q + 1))) fun j _=>by rw [<- xo]; exact zf fun p _=>by grind]
   rw [v5]
   exact zf fun p _=>ye n (y p) _
  rw [this,zf (g:=fun p=>y p * (if p = q then s.d else 0)) fun p hp=>by rw [I.BL p hp q hq],xq hq _ fun p _ hp=>by rw [if_neg hp,Int.mul_zero],if_pos rfl,Int.mul_comm]
 rw [v4 fun j hj=>by rw [h j hj,Int.zero_mul]] at e
 exact (Int.mul_eq_zero.mp e.symm).resolve_left (by have:=I.d0; omega)
noncomputable def XL (n:Nat) (col:Nat->Nat->Int) (cost:Nat->Int) (ε:Int) (s:XS) (k r i:Nat):Nat->Int
 | 0=>sm n fun q=>ε * det n (cset (cset (fun j=>col (s.th j)) r (col k)) i (unt q)) * cost q
 | q + 1=>ε * det n (cset (cset (fun j=>col (s.th j)) r (col k)) i (unt q))
theorem IV.kolE (I:IV n N col bnd cost s) {ε:Int} (e3:∀ i,i < n->∀ q,q < n->s.L i (q + 1) = ε * det n (cset (fun j=>col (s.th j)) i (unt q))) (k:Nat) {i:Nat} (hi:i < n):kol n col s k i = ε * det n (cset (fun j=>col (s.th j)) i (col k)):=by
 unfold kol
 rw [Xo hi,<- ye]
 exact zf fun q hq=>by rw [e3 i hi q hq]; grind
theorem IV.exact (I:IV n N col bnd cost s) {ε:Int} (e1:ε * ε = 1) (e2:s.d = ε * det n (fun j=>col (s.th j))) (e3:∀ i,i < n->∀ q,q < n->s.L i (q + 1) = ε * det n (cset (fun j=>col (s.th j)) i (unt q))) (hr:r < n) {i:Nat} (hi:i < n) (ir:i ≠ r) :
  ∀ q,q <= n->s.L i q * kol n col s k r - s.L r q * kol n col s k i = s.d * XL n col cost ε s k r i q:=by
 have main:∀ q,q < n->s.L i (q + 1) * kol n col s k r - s.L r (q + 1) * kol n col s k i = s.d * XL n col cost ε s k r i (q + 1):=fun q hq=>by
  have z:=I.inj (y:=fun q=>s.L i (q + 1) * kol n col s k r - s.L r (q + 1) * kol n col s k i - s.d * XL n col cost ε s k r i (q + 1)) (fun j hj=>?_) q hq
  ·omega
  ·have x:sm n (fun q=>XL n col cost ε s k r i (q + 1) * col (s.th j) q) = ε * det n (cset (cset (fun j=>col (s.th j)) r (col k)) i (col (s.th j))):=by
    rw [Xo hi,<- ye]
    exact zf fun q _=>by show ε * _ * _ = _; grind
   have a:=I.LB hi hj
   have b:=I.LB hr hj
   unfold kol at a b
   have sp:sm n (fun q=>(s.L i (q + 1) * kol n col s k r - s.L r (q + 1) * kol n col s k i - s.d * XL n col cost ε s k r i (q + 1)) * col (s.th j) q) = kol n col s k r * sm n (fun q=>s.L i (q + 1) * col (s.th j) q) + (-(kol n col s k i)) * sm n (fun q=>s.L r (q + 1) * col (s.th j) q) + (-s.d) * sm n (fun q=>XL n col cost ε s k r i (q + 1) * col (s.th j) q):=by
    rw [<- ye,<- ye,<- ye,<- u3,<- u3]
    exact zf fun q _=>by grind
   rw [sp,x,a,b]
   by_cases ji:i = j
   ·subst ji
    rw [if_pos rfl,if_neg (fun z=>ir z.symm),wr (fun z=>ir z.symm),ua (fun j=>col (s.th j)) i,I.kolE e3 k hr]
    grind
   ·rw [if_neg ji]
    by_cases jr:r = j
    ·subst jr
     rw [if_pos rfl,Ol hr hi (fun z=>ir z.symm),ua (fun j=>col (s.th j)) r,I.kolE e3 k hi]
     grind
    ·rw [if_neg jr,qx hi hj ji _ (by rw [ub,vo (fun z=>ji z.symm),vo (fun z=>jr z.symm)])]
     grind
 intro q hq
 cases q with
 | succ q=>exact main q (by omega)
 | zero =>
  rw [I.L0 i hi,I.L0 r hr]
  show _ = s.d * sm n fun q=>XL n col cost ε s k r i (q + 1) * cost q
  rw [<- ye,<- xo,<- xo]
  have:sm n (fun q=>s.d * (XL n col cost ε s k r i (q + 1) * cost q)) = sm n fun q=>s.L i (q + 1) * cost q * kol n col s k r + (-1) * (s.L r (q + 1) * cost q * kol n col s k i):=zf fun q hq=>by
   have:=main q hq
   grind
  rw [this,u3,ye]
  omega
noncomputable def trn (n:Nat) (col:Nat->Nat->Int) (bnd:Nat->Int) (s:XS) (k r:Nat):XS where
 d:=kol n col s k r
 L:=fun i q=>if i = r then s.L r q else (s.L i q * kol n col s k r - s.L r q * kol n col s k i).fdiv s.d
 g:=fun q=>(s.g q * kol n col s k r - s.L r q * (-(mis n col bnd s k))).fdiv s.d
 th:=fun i=>if i = r then k else s.th i
structure Out (n:Nat) (col:Nat->Nat->Int) (s:XS) (k r:Nat):Prop where
 lt:r < n
 pos:0 < kol n col s k r
 low:∀ i,i < n->0 < kol n col s k i->¬ lxl n (fun q=>s.L i q * kol n col s k r) (fun q=>s.L r q * kol n col s k i)
theorem IV.turn (I:IV n N col bnd cost s) (O:Out n col s k r) (hk:k < N) (hm:0 < mis n col bnd s k):IV n N col bnd cost (trn n col bnd s k r) /\ lxp n (fun q=>(trn n col bnd s k r).g q * s.d - s.g q * (trn n col bnd s k r).d):=by
 obtain ⟨ε,e1,e2,e3⟩:=I.e
 have hr:=O.lt
 have d0:=I.d0
 have ex:=fun {i} hi ir=>I.exact (k:=k) e1 e2 e3 hr (i:=i) hi ir
 have LX:∀ i,i < n->i ≠ r->∀ q,q <= n->(trn n col bnd s k r).L i q = XL n col cost ε s k r i q:=fun i hi ir q hq=>by
  show (if i = r then _ else _) = _
  rw [if_neg ir,ex hi ir q hq]
  exact Int.mul_fdiv_cancel_left _ (by omega)
 have LR:∀ q,(trn n col bnd s k r).L r q = s.L r q:=fun q=>if_pos rfl
 have dL:∀ i,i < n->i ≠ r->∀ q,q <= n->s.d * (trn n col bnd s k r).L i q = s.L i q * kol n col s k r - s.L r q * kol n col s k i:=fun i hi ir q hq=>by rw [LX i hi ir q hq,ex hi ir q hq]
 have TH:∀ i,i ≠ r->(trn n col bnd s k r).th i = s.th i:=fun i ir=>if_neg ir
 have TR:(trn n col bnd s k r).th r = k:=if_pos rfl
 have eB:(fun j=>col ((trn n col bnd s k r).th j)) = cset (fun j=>col (s.th j)) r (col k):=funext fun j=>by
  unfold cset
  by_cases jr:j = r
  ·rw [if_pos jr,jr,TR]
  ·rw [if_neg jr,TH j jr]
 have SU:∀ (f:Nat->Int) (q:Nat),q <= n->s.d * sm n (fun i=>f ((trn n col bnd s k r).th i) * (trn n col bnd s k r).L i q) = kol n col s k r * sm n (fun i=>f (s.th i) * s.L i q) - s.L r q * sm n (fun i=>f (s.th i) * kol n col s k i) + s.d * (f k * s.L r q):=fun f q hq=>by
  have a:s.d * sm n (fun i=>f ((trn n col bnd s k r).th i) * (trn n col bnd s k r).L i q) = sm n (fun i=>if i = r then s.d * (f k * s.L r q) else f (s.th i) * (s.L i q * kol n col s k r - s.L r q * kol n col s k i)):=by
   rw [<- ye]
   refine zf fun i hi=>?_
   by_cases ir:i = r
   ·rw [if_pos ir,ir,TR,LR]
   ·rw [if_neg ir,TH i ir,<- dL i hi ir q hq]
    grind
  rw [a,Jp hr]
  have b:sm n (fun i=>f (s.th i) * (s.L i q * kol n col s k r - s.L r q * kol n col s k i)) = kol n col s k r * sm n (fun i=>f (s.th i) * s.L i q) + (-(s.L r q)) * sm n (fun i=>f (s.th i) * kol n col s k i):=by
   rw [<- ye,<- ye,<- u3]
   exact zf fun i _=>by grind
  rw [b]
  grind
 have gk:sm n (fun i=>bnd (s.th i) * kol n col s k i) = sm n (fun q=>s.g (q + 1) * col k q):=by
  rw [zf (g:=fun i=>sm n fun q=>bnd (s.th i) * s.L i (q + 1) * col k q) fun i _=>by unfold kol; rw [<- ye]; exact zf fun q _=>by grind]
  rw [v5]
  exact zf fun q hq=>by rw [xo,I.G (q + 1) (by omega)]
 have gE:∀ q,q <= n->s.d * sm n (fun i=>bnd ((trn n col bnd s k r).th i) * (trn n col bnd s k r).L i q) = s.g q * kol n col s k r - s.L r q * (-(mis n col bnd s k)):=fun q hq=>by
  rw [SU bnd q hq,gk,<- I.G q hq]
  unfold mis
  grind
 have GN:∀ q,q <= n->(trn n col bnd s k r).g q = sm n (fun i=>bnd ((trn n col bnd s k r).th i) * (trn n col bnd s k r).L i q):=fun q hq=>by
  show (s.g q * kol n col s k r - s.L r q * (-(mis n col bnd s k))).fdiv s.d = _
  rw [<- gE q hq]
  exact Int.mul_fdiv_cancel_left _ (by omega)
 refine ⟨⟨O.pos,⟨ε,e1,?_,fun i hi q hq=>?_⟩,fun p hp q hq=>?_,fun i hi=>?_,GN,fun i hi=>?_,fun i hi=>?_⟩,?_⟩
 ·rw [eB]; exact I.kolE e3 k hr
 ·rw [eB]
  by_cases ir:i = r
  ·rw [ir,LR,U8]; exact e3 r hr q hq
  ·exact LX i hi ir (q + 1) (by omega)
 ·-- columns times lines
  refine Int.eq_of_mul_eq_mul_left (a:=s.d) (by omega) ?_
  have h:=SU (fun t=>col t p) (q + 1) (by omega)
  have c:sm n (fun i=>col (s.th i) p * kol n col s k i) = s.d * col k p:=by
   rw [zf (g:=fun i=>sm n fun q=>col (s.th i) p * s.L i (q + 1) * col k q) fun i _=>by unfold kol; rw [<- ye]; exact zf fun q _=>by grind]
   rw [v5,zf (g:=fun q=>(if p = q then s.d else 0) * col k q) fun q hq=>by rw [xo,I.BL p hp q hq],xq hp _ fun q _ qp=>by rw [if_neg (fun z=>qp z.symm),Int.zero_mul],if_pos rfl]
  rw [h,c,I.BL p hp q hq]
  show _ = s.d * if p = q then kol n col s k r else 0
  split <;> grind
 ·by_cases ir:i = r
  ·rw [ir,LR,I.L0 r hr]
   exact zf fun q _=>by rw [LR]
  ·rw [LX i hi ir 0 (Nat.zero_le _)]
   show sm n _ = _
   exact zf fun q hq=>by rw [LX i hi ir (q + 1) (by omega)]; rfl
 ·by_cases ir:i = r
  ·rw [ir]; exact xb (fun q _=>(LR q).symm) (I.lx r hr)
  ·refine Yv (c:=s.d) d0 (xb (u:=fun q=>s.L i q * kol n col s k r - s.L r q * kol n col s k i) (fun q hq=>(dL i hi ir q hq).symm) ?_)
   rcases Int.lt_or_le 0 (kol n col s k i) with ci | ci
   ·rcases Lp n (fun q=>s.L i q * kol n col s k r - s.L r q * kol n col s k i) with h | h | h
    ·exact h
    ·have z:kol n col s k r * kol n col s (s.th i) i = kol n col s k i * kol n col s (s.th i) r:=by
      show _ * sm n _ = _ * sm n _
      rw [<- ye,<- ye]
      exact zf fun q hq=>by have:=h (q + 1) (by omega); grind
     rw [I.LB hi hi,I.LB hr hi,if_pos rfl,if_neg (fun z=>ir z.symm),Int.mul_zero] at z
     have:=Int.mul_pos O.pos d0
     omega
    ·exact absurd (xb (fun q _=>by dsimp only; omega) h) (O.low i hi ci)
   ·have a:=ul O.pos (I.lx i hi)
    rcases Int.lt_or_le (kol n col s k i) 0 with c2 | c2
    ·have b:=ul (c:=-(kol n col s k i)) (by omega) (I.lx r hr)
     exact xb (fun q _=>by grind) (Yw a b)
    ·exact xb (fun q _=>by rw [show kol n col s k i = 0 by omega]; grind) a
 ·show (if i = r then k else s.th i) < N
  split
  ·exact hk
  ·exact I.tN i hi
 ·refine xb (fun q hq=>?_) (ul hm (I.lx r hr))
  have:=gE q hq
  rw [<- GN q hq] at this
  show _ = _ - s.g q * kol n col s k r
  grind
end
section
variable {n N R:Nat} {col:Nat->Nat->Int} {bnd cost:Nat->Int} {s s' s2:XS} {k r:Nat}
noncomputable def gt (n:Nat) (s' s:XS):Prop:=lxp n fun q=>s'.g q * s.d - s.g q * s'.d
theorem O5 (h1:0 < s.d) (h2:0 < s2.d) (h3:0 < s'.d) (a:gt n s' s2) (b:gt n s2 s):gt n s' s :=
 Yv (c:=s2.d) h2 (xb (fun q _=>by grind) (Yw (ul h1 a) (ul h3 b)))
theorem IV.uniq (I:IV n N col bnd cost s) (I':IV n N col bnd cost s') (h:∀ i,i < n->s'.th i = s.th i):∀ q,q <= n->s'.g q * s.d = s.g q * s'.d:=by
 have a:∀ i,i < n->∀ q,q < n->s'.L i (q + 1) * s.d = s.L i (q + 1) * s'.d:=fun i hi q hq=>by
  have z:=I.inj (y:=fun q=>s'.L i (q + 1) * s.d - s.L i (q + 1) * s'.d) (fun j hj=>?_) q hq
  ·omega
  ·have e1:=I.LB hi hj
   have e2:=I'.LB hi hj
   rw [h j hj] at e2
   unfold kol at e1 e2
   have sp:sm n (fun q=>(s'.L i (q + 1) * s.d - s.L i (q + 1) * s'.d) * col (s.th j) q) = s.d * sm n (fun q=>s'.L i (q + 1) * col (s.th j) q) + (-s'.d) * sm n (fun q=>s.L i (q + 1) * col (s.th j) q):=by
    rw [<- ye,<- ye,<- u3]
    exact zf fun q _=>by grind
   rw [sp,e1,e2]
   split <;> grind
 have b:∀ i,i < n->∀ q,q <= n->s'.L i q * s.d = s.L i q * s'.d:=fun i hi q hq=>by
  cases q with
  | succ q=>exact a i hi q (by omega)
  | zero =>
   rw [I.L0 i hi,I'.L0 i hi,<- xo,<- xo]
   exact zf fun q hq=>by have:=a i hi q hq; grind
 intro q hq
 rw [I.G q hq,I'.G q hq,<- xo,<- xo]
 exact zf fun i hi=>by have:=b i hi q hq; rw [h i hi]; grind
noncomputable def allL:Nat->Nat->List (List Nat)
 | 0,_=>[[]]
 | n + 1,N=>(allL n N).flatMap fun l=>(List.range N).map fun x=>l ++ [x]
theorem Wo {th:Nat->Nat}:∀ {n:Nat},(∀ i,i < n->th i < N)->(List.range n).map th ∈ allL n N
 | 0,_=>List.mem_singleton.mpr rfl
 | n + 1,h=>by
  rw [List.range_succ,List.map_append]
  exact List.mem_flatMap.mpr ⟨_,Wo fun i hi=>h i (by omega),List.mem_map.mpr ⟨th n,List.mem_range.mpr (h n (by omega)),rfl⟩⟩
noncomputable def PT1 (n N:Nat) (col:Nat->Nat->Int) (bnd cost:Nat->Int) (s:XS) (τ:List Nat):Prop:=∃ s',IV n N col bnd cost s' /\ (List.range n).map s'.th = τ /\ gt n s' s
open Classical in
noncomputable def mea (n N:Nat) (col:Nat->Nat->Int) (bnd cost:Nat->Int) (s:XS):Nat:=(allL n N).countP fun τ=>decide (PT1 n N col bnd cost s τ)
theorem Y5 {α:Type} {p q:α->Bool}:∀ {l:List α},(∀ x ∈ l,p x = true->q x = true)->(∃ x ∈ l,q x = true /\ p x = false)->l.countP p < l.countP q
 | [],_,⟨x,hx,_⟩=>by cases hx
 | a :: l,h,⟨x,hx,h1,h2⟩=>by
  have mono:l.countP p <= l.countP q:=List.countP_mono_left fun y hy=>h y (List.mem_cons_of_mem _ hy)
  rcases List.mem_cons.mp hx with rfl | hx
  ·rw [List.countP_cons,List.countP_cons,if_pos h1,if_neg (by rw [h2]; decide)]; omega
  ·have ih:=Y5 (fun y hy=>h y (List.mem_cons_of_mem _ hy)) ⟨x,hx,h1,h2⟩
   rw [List.countP_cons,List.countP_cons]
   by_cases pa:p a = true
   ·rw [if_pos pa,if_pos (h a List.mem_cons_self pa)]; omega
   ·rw [if_neg pa]; split <;> omega
open Classical in
theorem Gn (I:IV n N col bnd cost s) (I2:IV n N col bnd cost s2) (h:gt n s2 s):mea n N col bnd cost s2 < mea n N col bnd cost s:=by
 unfold mea
 refine Y5 (fun τ _ p=>?_) ⟨_,Wo I2.tN,?_,?_⟩
 ·obtain ⟨s',I',e,g⟩:=of_decide_eq_true p
  exact decide_eq_true ⟨s',I',e,O5 I.d0 I2.d0 I'.d0 g h⟩
 ·exact decide_eq_true ⟨s2,I2,rfl,h⟩
 ·refine decide_eq_false fun ⟨s',I',e,g⟩=>?_
  refine S1 (fun q hq=>?_) g
  have:=I2.uniq I' (fun i hi=>?_) q hq
  ·omega
  ·have:=congrArg (fun l:List Nat=>l[i]?) e
   simpa [List.getElem?_map,List.getElem?_range hi] using this
theorem qo (R n:Nat) (h:Nat->Int):sm (R + n) h = sm R h + sm n fun p=>h (R + p):=by
 induction n with
 | zero=>show sm R h = sm R h + 0; omega
 | succ n ih =>
  show sm (R + n) h + h (R + n) = sm R h + (sm n (fun p=>h (R + p)) + h (R + n))
  rw [ih]; omega
noncomputable def wgt (n:Nat) (s:XS) (x:Nat->Int) (k:Nat):Int:=sm n fun i=>if s.th i = k then x i else 0
theorem Yj (tN:∀ i,i < n->s.th i < N) (x f:Nat->Int):sm N (fun k=>f k * wgt n s x k) = sm n fun i=>f (s.th i) * x i:=by
 unfold wgt
 rw [zf (g:=fun k=>sm n fun i=>f k * (if s.th i = k then x i else 0)) fun k _=>(ye n (f k) _).symm,v5]
 refine zf fun i hi=>?_
 rw [xq (tN i hi) _ fun k _ hk=>by rw [if_neg (fun z=>hk z.symm),Int.mul_zero],if_pos rfl]
theorem Oz {x:Nat->Int} (h:∀ i,i < n->0 <= x i) (k:Nat):0 <= wgt n s x k:=by
 unfold wgt
 have:∀ m,m <= n->0 <= sm m fun i=>if s.th i = k then x i else 0:=fun m=>by
  induction m with
  | zero=>exact fun _=>Int.le_refl _
  | succ m ih =>
   intro hm
   have:=ih (by omega)
   show 0 <= sm m _ + (if s.th m = k then x m else 0)
   split
   ·have:=h m (by omega); omega
   ·omega
 exact this n (Nat.le_refl _)
theorem Uw {f:Nat->Int} (h:∀ i,i < n->0 <= f i):0 <= sm n f:=by
 induction n with
 | zero=>exact Int.le_refl _
 | succ n ih =>
  have a:=ih fun i hi=>h i (by omega)
  have b:=h n (by omega)
  show 0 <= sm n f + f n
  omega
theorem IV.dist (I:IV n N col bnd cost s) {i j:Nat} (hi:i < n) (hj:j < n) (e:s.th i = s.th j):i = j:=by
 have a:=I.LB hi hi
 have b:=I.LB hi hj
 rw [e,b,if_pos rfl] at a
 by_cases z:i = j
 ·exact z
 ·rw [if_neg z] at a
  have:=I.d0
  omega
theorem IV.mis0 (I:IV n N col bnd cost s) {j:Nat} (hj:j < n):mis n col bnd s (s.th j) = 0:=by
 unfold mis
 have:sm n (fun q=>s.g (q + 1) * col (s.th j) q) = bnd (s.th j) * s.d:=by
  rw [zf (g:=fun q=>sm n fun i=>bnd (s.th i) * (s.L i (q + 1) * col (s.th j) q)) fun q hq=>by rw [I.G (q + 1) (by omega),<- xo]; exact zf fun i _=>by grind]
  rw [v5,zf (g:=fun i=>bnd (s.th i) * (if i = j then s.d else 0)) fun i hi=>by rw [ye]; exact congrArg _ (I.LB hi hj),xq hj _ fun i _ ij=>by rw [if_neg ij,Int.mul_zero],if_pos rfl]
 omega
theorem IV.colL0 (I:IV n N col bnd cost s) {p:Nat} (hp:p < n):sm n (fun i=>col (s.th i) p * s.L i 0) = s.d * cost p:=by
 rw [zf (g:=fun i=>sm n fun q=>col (s.th i) p * s.L i (q + 1) * cost q) fun i hi=>by rw [I.L0 i hi,<- ye]; exact zf fun q _=>by grind]
 rw [v5,zf (g:=fun q=>(if p = q then s.d else 0) * cost q) fun q hq=>by rw [xo,I.BL p hp q hq],xq hp _ fun q _ qp=>by rw [if_neg (fun z=>qp z.symm),Int.zero_mul],if_pos rfl]
theorem IV.colK (I:IV n N col bnd cost s) {p:Nat} (hp:p < n) (k:Nat):sm n (fun i=>col (s.th i) p * kol n col s k i) = s.d * col k p:=by
 rw [zf (g:=fun i=>sm n fun q=>col (s.th i) p * s.L i (q + 1) * col k q) fun i _=>by unfold kol; rw [<- ye]; exact zf fun q _=>by grind]
 rw [v5,zf (g:=fun q=>(if p = q then s.d else 0) * col k q) fun q hq=>by rw [xo,I.BL p hp q hq],xq hp _ fun q _ qp=>by rw [if_neg (fun z=>qp z.symm),Int.zero_mul],if_pos rfl]
theorem IV.bndK (I:IV n N col bnd cost s) (k:Nat):sm n (fun i=>bnd (s.th i) * kol n col s k i) = sm n fun q=>s.g (q + 1) * col k q:=by
 rw [zf (g:=fun i=>sm n fun q=>bnd (s.th i) * s.L i (q + 1) * col k q) fun i _=>by unfold kol; rw [<- ye]; exact zf fun q _=>by grind]
 rw [v5]
 exact zf fun q hq=>by rw [xo,I.G (q + 1) (by omega)]
theorem IV.g0 (I:IV n N col bnd cost s):s.g 0 = sm n fun q=>s.g (q + 1) * cost q:=by
 rw [I.G 0 (Nat.zero_le _),zf (g:=fun i=>sm n fun q=>bnd (s.th i) * s.L i (q + 1) * cost q) fun i hi=>by rw [I.L0 i hi,<- ye]; exact zf fun q _=>by grind]
 rw [v5]
 exact zf fun q hq=>by rw [xo,I.G (q + 1) (by omega)]
structure PR (R n:Nat) (col:Nat->Nat->Int) (bnd:Nat->Int):Prop where
 un:∀ p,p < n->col (R + p) = unt p
 b0:∀ p,p < n->bnd (R + p) = 0
theorem PR.nn (P:PR R n col bnd) {p j:Nat} (hj:j < n):0 <= col (R + j) p:=by
 rw [P.un j hj]
 unfold unt
 split <;> decide
theorem IV.least (I:IV n (R + n) col bnd cost s) (P:PR R n col bnd) (met:∀ k,k < R + n->mis n col bnd s k <= 0) :
  (∀ p,p < n->0 <= s.g (p + 1)) /\ (∀ k,k < R->bnd k * s.d <= sm n fun q=>s.g (q + 1) * col k q) /\ (s.g 0 = sm n fun q=>s.g (q + 1) * cost q) /\
  (∀ k,0 <= wgt n s (fun i=>s.L i 0) k) /\ (∀ p,p < n->sm R (fun k=>col k p * wgt n s (fun i=>s.L i 0) k) <= s.d * cost p) /\ sm R (fun k=>bnd k * wgt n s (fun i=>s.L i 0) k) = s.g 0:=by
 have w0:∀ k,0 <= wgt n s (fun i=>s.L i 0) k:=Oz fun i hi=>Gq (I.lx i hi)
 refine ⟨fun p hp=>?_,fun k hk=>?_,I.g0,w0,fun p hp=>?_,?_⟩
 ·have h:=met (R + p) (by omega)
  unfold mis at h
  rw [P.b0 p hp,P.un p hp,xq hp _ fun q _ qp=>by unfold unt; rw [if_neg qp,Int.mul_zero]] at h
  unfold unt at h
  rw [if_pos rfl] at h
  omega
 ·have h:=met k (by omega)
  unfold mis at h
  omega
 ·have h:=Yj I.tN (fun i=>s.L i 0) (fun k=>col k p)
  rw [qo,I.colL0 hp] at h
  have:=Uw (n:=n) (f:=fun j=>col (R + j) p * wgt n s (fun i=>s.L i 0) (R + j)) fun j hj=>Int.mul_nonneg (P.nn hj) (w0 _)
  omega
 ·have h:=Yj I.tN (fun i=>s.L i 0) bnd
  rw [qo,v4 (n:=n) fun j hj=>by rw [P.b0 j hj,Int.zero_mul],<- I.G 0 (Nat.zero_le _)] at h
  omega
noncomputable def ewt (n:Nat) (col:Nat->Nat->Int) (s:XS) (k j:Nat):Int:=wgt n s (fun i=>-(kol n col s k i)) j + if j = k then s.d else 0
theorem IV.none (I:IV n (R + n) col bnd cost s) (P:PR R n col bnd) (hk:k < R + n) (hm:0 < mis n col bnd s k) (hc:∀ i,i < n->kol n col s k i <= 0) :
  (∀ j,0 <= ewt n col s k j) /\ (∀ p,p < n->sm R (fun j=>col j p * ewt n col s k j) <= 0) /\ 0 < sm R (fun j=>bnd j * ewt n col s k j):=by
 have w0:∀ j,0 <= ewt n col s k j:=fun j=>by
  have:=Oz (n:=n) (s:=s) (x:=fun i=>-(kol n col s k i)) (fun i hi=>by have:=hc i hi; omega) j
  have:=I.d0
  unfold ewt
  split <;> omega
 have tot:∀ f:Nat->Int,sm (R + n) (fun j=>f j * ewt n col s k j) = f k * s.d - sm n fun i=>f (s.th i) * kol n col s k i:=fun f=>by
  have h:=Yj I.tN (fun i=>-(kol n col s k i)) f
  have e:sm (R + n) (fun j=>f j * ewt n col s k j) = sm (R + n) (fun j=>f j * wgt n s (fun i=>-(kol n col s k i)) j) + sm (R + n) (fun j=>f j * if j = k then s.d else 0):=by
   rw [<- u3]
   exact zf fun j _=>by unfold ewt; grind
  rw [e,h,xq hk _ fun j _ jk=>by rw [if_neg jk,Int.mul_zero],if_pos rfl]
  have:sm n (fun i=>f (s.th i) * -(kol n col s k i)) = (-1) * sm n fun i=>f (s.th i) * kol n col s k i:=by
   rw [<- ye]
   exact zf fun i _=>by grind
  rw [this]
  omega
 refine ⟨w0,fun p hp=>?_,?_⟩
 ·have h:=tot fun j=>col j p
  rw [I.colK hp,qo] at h
  have:=Uw (n:=n) (f:=fun j=>col (R + j) p * ewt n col s k (R + j)) fun j hj=>Int.mul_nonneg (P.nn hj) (w0 _)
  rw [Int.mul_comm (col k p)] at h
  omega
 ·have h:=tot bnd
  rw [I.bndK,qo,v4 (n:=n) fun j hj=>by rw [P.b0 j hj,Int.zero_mul]] at h
  unfold mis at hm
  omega
theorem IV.bits (I:IV n N col bnd cost s) {B:Nat} (hn:n <= 32) (b1:1 <= B) (hB:∀ k,k < N->∀ p,p < n->(col k p).natAbs <= B):s.d.natAbs <= (32 * B) ^ n /\ ∀ i,i < n->∀ q,q < n->(s.L i (q + 1)).natAbs <= (32 * B) ^ n:=by
 obtain ⟨ε,e1,e2,e3⟩:=I.e
 have eA:ε.natAbs = 1:=by
  have:=congrArg Int.natAbs e1
  rw [Int.natAbs_mul] at this
  exact Nat.eq_one_of_mul_eq_one_left this
 refine ⟨?_,fun i hi q hq=>?_⟩
 ·rw [e2,Int.natAbs_mul,eA,Nat.one_mul]
  exact Xp hn fun j hj p hp=>hB _ (I.tN j hj) p hp
 ·rw [e3 i hi q hq,Int.natAbs_mul,eA,Nat.one_mul]
  refine Xp hn fun j hj p hp=>?_
  unfold cset
  split
  ·unfold unt
   split
   ·exact b1
   ·exact Nat.zero_le _
  ·exact hB _ (I.tN j hj) p hp
end
theorem sy {α:Type} {us:List α} (h:us.length = 1):∃ a0,us = [a0]:=match us,h with
 | [a0],_=>⟨a0,rfl⟩
theorem t6 {α:Type} {us:List α} (h:us.length = 2):∃ a0 a1,us = [a0,a1]:=match us,h with
 | [a0,a1],_=>⟨a0,a1,rfl⟩
theorem Ps {α:Type} {us:List α} (h:us.length = 3):∃ a0 a1 a2,us = [a0,a1,a2]:=match us,h with
 | [a0,a1,a2],_=>⟨a0,a1,a2,rfl⟩
theorem D5 {α:Type} {us:List α} (h:us.length = 4):∃ a0 a1 a2 a3,us = [a0,a1,a2,a3]:=match us,h with
 | [a0,a1,a2,a3],_=>⟨a0,a1,a2,a3,rfl⟩
theorem D4 {α:Type} {us:List α} (h:us.length = 5):∃ a0 a1 a2 a3 a4,us = [a0,a1,a2,a3,a4]:=match us,h with
 | [a0,a1,a2,a3,a4],_=>⟨a0,a1,a2,a3,a4,rfl⟩
end DL
namespace K46
open PySem PySem.Spec L2 L3 DL
open PyProof.Rows hiding St
open PySem.Builtin.Int (intBits)
local macro_rules | `(tactic| walk_at "dl")=>do
 let ids <- (("sNil sSeq sRet sIf sSet Hc sPar d2 d1 jy dC slot setS EV.sto EV.ret aNil vq dTup dLst On dCB uw vAnd vNot vIf bAnd bOr bNot bYes tTru tBo truD sSub sFd sMod sPow sLt sLe sGt sGe sI sI0 sAdd sMul sNeg sEq sNe sIs Wa Py sIx sSl dSl Gm Gk sLen sAbs sIsI Eg sListC sApp iSeq iR1 Sg gN gT2 yu X2 Zm U2 X8 X5 Zp X4 X1 Yz ck Yy Zj Zn cu X6 List.map_cons List.map_nil List.length_cons List.length_nil List.cons_append List.nil_append List.replicate_succ List.replicate_zero Nat.reduceAdd Nat.reduceSub Nat.zero_add Nat.sub_self Bool.and_self Bool.and_true Bool.true_and true_and and_true Bool.not_true Bool.not_false forall_const true_implies false_implies Bool.true_eq_false Bool.false_eq_true reduceCtorEq implies_true yq Gj Tp Ll uq Ke Fw wa dw wb Bool.not_eq_eq_eq_not beq_eq_false_iff_ne beq_iff_eq ne_eq decide_eq_true_eq decide_eq_false_iff_not Bool.not_eq_true Bool.not_eq_false not_true_eq_false not_false_eq_true Dm Dl Dk and_self Nat.beq_eq Nat.ble_eq Nat.reduceLeDiff eq_self Nat.reduceEqDiff sIxx E4 keyD sIn cp10 Int.reduceLE Int.reduceToNat Ui Kt List.length_map Option.map_some Int.zero_add Z5 Int.reduceEq Int.reduceNeg Int.reduceLT Na Ny sTry hanZ clrS frzE Option.map_none dIsE sFrz frzS iZ Qu Qs Qt sSum ve Kn P9 ki T8 Zl cm cq Zr cv Zk X3 Zo U1 X7 Zq E3 sDictP iE E1 T6 seqD Ha We dFld ix0 ix1 ix2 ix3 ix4 ix5 ix6 List.getElem?_cons_succ List.getElem?_cons_zero".splitOn " ").toArray).mapM fun s=>`(Lean.Parser.Tactic.simpLemma| $(Lean.mkIdent s.toName):ident)
 `(tactic| simp only [$ids,*])
seal SDs SD ED EA ET EW EQ QA QT QS QSs QL
noncomputable def top (i:Nat):Stmt:=PySem.Challenge.pw_toll_k46_whole_chain.main.body.getD i (.Pass ⟨0,0,0,0⟩)
structure Tops (mg:Str->Option Value):Prop where
 ValueError:mg "ValueError" = none
 abs:mg "abs" = none
 all:mg "all" = none
 bool:mg "bool" = none
 dict:mg "dict" = none
 enumerate:mg "enumerate" = none
 int:mg "int" = none
 isinstance:mg "isinstance" = none
 len:mg "len" = none
 list:mg "list" = none
 range:mg "range" = none
 sum:mg "sum" = none
 tuple:mg "tuple" = none
 zip:mg "zip" = none
section
variable {P:Program} {w:World} {K:W.Frag} {mg:Str->Option Value} {base:Heap} {f:Addr} {fd:FuncData}
noncomputable def mth (i:Nat):Stmt:=x9 (top 18) i
noncomputable def zt:List Str:=["by", "rows", "many", "table", "goal", "bottom", "things"]
theorem ix0:ixF zt "by" = some 0:=by decide
theorem ix1:ixF zt "rows" = some 1:=by decide
theorem ix2:ixF zt "many" = some 2:=by decide
theorem ix3:ixF zt "table" = some 3:=by decide
theorem ix4:ixF zt "goal" = some 4:=by decide
theorem ix5:ixF zt "bottom" = some 5:=by decide
theorem ix6:ixF zt "things" = some 6:=by decide
theorem Nu (x:Int) (n:Nat):x.fdiv (n:Int) = x / (n:Int):=Int.fdiv_eq_ediv_of_nonneg _ (by omega)
noncomputable def sh (x:Int):Prop:=x.natAbs < 2 ^ 4000
theorem we {x:Int} (h:sh x):intBits x <= 4000:=wy h
theorem mul4 {x y:Int} (hx:sh x) (hy:sh y):IntMulOk x y:=IntMulOk.of_bits (Nat.le_trans (we hx) (by decide)) (Nat.le_trans (we hy) (by decide))
theorem fd4 {x y:Int} (h:y ≠ 0) (hy:sh y):FdOk x y:=fdOk (m:=4000) h (we hy)
noncomputable def lc (l:List Nat):Nat:=l.foldl Nat.lcm 1
noncomputable def Ma:FT:=fun ds φ=>∃ l:List Nat,ds = [.lst (l.map fun n:Nat=>D.int (n:Int))] /\ (∀ n ∈ l,1 <= n) /\ lc l < 2 ^ 4000 /\ φ (dv (.int (lc l:Int)))
noncomputable def Ym:FT:=fun ds φ=>∃ (a:Int) (b y:Nat),ds = [.tup [.int a,.int b],.int y] /\ 1 <= b /\ sh a /\ b < 2 ^ 4000 /\ y < 2 ^ 4000 /\ φ (dv (.int (a * ((y / b:Nat):Int))))
theorem xw:∀ {l:List Nat} {a:Nat},1 <= a->(∀ n ∈ l,1 <= n)->1 <= l.foldl Nat.lcm a
 | [],_,h,_=>h
 | n :: l,a,h,hl=>xw (l:=l) (Nat.lcm_pos h (hl n List.mem_cons_self)) fun m hm=>hl m (List.mem_cons_of_mem _ hm)
theorem uo:∀ {l:List Nat} {a:Nat},a ∣ l.foldl Nat.lcm a /\ ∀ n ∈ l,n ∣ l.foldl Nat.lcm a
 | [],a=>⟨Nat.dvd_refl _,fun _ h=>nomatch h⟩
 | n :: l,a=>by
  obtain ⟨h1,h2⟩:=uo (l:=l) (a:=Nat.lcm a n)
  refine ⟨Nat.dvd_trans (Nat.dvd_lcm_left ..) h1,fun m hm=>?_⟩
  rcases List.mem_cons.mp hm with rfl | hm
  ·exact Nat.dvd_trans (Nat.dvd_lcm_right ..) h1
  ·exact h2 m hm
theorem Lx {l:List Nat} (h:∀ n ∈ l,1 <= n) (i:Nat):1 <= lc (l.take i) /\ lc (l.take i) <= lc l:=by
 have p:1 <= lc l:=xw (Nat.le_refl _) h
 refine ⟨xw (Nat.le_refl _) fun n hn=>h n (List.mem_of_mem_take hn),Nat.le_of_dvd p ?_⟩
 have e:lc l = (l.drop i).foldl Nat.lcm (lc (l.take i)):=by
  unfold lc
  rw [<- List.foldl_append,List.take_append_drop]
 rw [e]
 exact uo.1
theorem j5 {l:List Nat} (h:∀ n ∈ l,1 <= n) {n:Nat} (hn:n ∈ l):n ∣ lc l /\ n <= lc l:=by
 have d:n ∣ lc l:=uo.2 n hn
 exact ⟨d,Nat.le_of_dvd (xw (Nat.le_refl _) h) d⟩
theorem rm {n:Nat} (h:n < 2 ^ 4000):sh (n:Int):=by unfold sh; rw [Int.natAbs_natCast]; exact h
theorem jo {a b:TDb} {ρ:DE} {ψ:Bool->Prop} (ha:∀ ψ:Bool->Prop,ψ false->a ρ ψ) (hb:∀ ψ:Bool->Prop,ψ false->b ρ ψ) (h:ψ false):bOr a b ρ ψ:=ha _ ⟨fun z=>(by cases z),fun _=>hb _ h⟩
theorem W9 {x:D} {ψ:Bool->Prop} (h1:okD 40 x) (h2:eqD x x = true) (h:ψ false):sNe x x fun r=>match r.d with | .bl b=>ψ b | _=>False:=⟨h1,h1,by rw [h2]; exact h⟩
theorem qz {t:TD} {ρ:DE} {ψ:Bool->Prop} (h:t ρ fun r=>match r.d with | .bl b=>ψ b | _=>False):tBo t ρ ψ:=h
theorem rk {a b:TDb} {ρ:DE} {ψ:Bool->Prop} (h:a ρ fun c=>(c = true->b ρ ψ) /\ (c = false->ψ false)):bAnd a b ρ ψ:=h
theorem jp {a:TDb} {ρ:DE} {ψ:Bool->Prop} (h:a ρ fun c=>ψ (!c)):bNot a ρ ψ:=h
theorem yi {op:D->D->(EV->Prop)->Prop} {ta tb:TD} {ρ:DE} {φ:EV->Prop} (x y:EV) (h1:∀ ψ:EV->Prop,ψ x->ta ρ ψ) (h2:∀ ψ:EV->Prop,ψ y->tb ρ ψ) (h:op x.d y.d φ):d2 op ta tb ρ φ:=h1 _ (h2 _ h)
theorem va {tc:TDb} {t1 t2:TDS} {ρ:DE} {Z:DZ} (b:Bool) (h:∀ ψ:Bool->Prop,ψ b->tc ρ ψ) (h1:b = true->t1 ρ Z) (h2:b = false->t2 ρ Z):sIf tc t1 t2 ρ Z:=h _ ⟨h1,h2⟩
theorem yg {t u:TDS} {ρ:DE} {Z:DZ} (h:t ρ { Z with nx:=fun ρ'=>u ρ' Z }):sSeq t u ρ Z:=h
theorem N9 {t u:TDS} {ρ ρ':DE} {Z:DZ} (e:ρ = ρ') (h:sSeq t u ρ' Z):sSeq t u ρ Z:=e ▸ h
theorem vh {ρ:DE} {Z:DZ} (h:Z.nx ρ):sNil ρ Z:=h
theorem xh {i:Nat} {te:TD} {ρ:DE} {Z:DZ} (h:te ρ fun r=>(match r.k with | .own=>False | _=>True) /\ Z.nx (setS ρ i r.sto)):sSet i te ρ Z:=h
theorem xt {te:TD} {ρ:DE} {Z:DZ} (h:te ρ fun r=>Z.rt r.ret):sRet te ρ Z:=h
theorem Xb {i:Nat} {d:D} {ρ:DE} {ψ:DE->Prop} (h:ψ (setS ρ i (dv d))):gN i d ρ ψ:=h
theorem xc {n:Nat} {T:FT} {t:TDs} {ρ:DE} {φ:EV->Prop} (rs:List EV) (h:∀ ψ:List EV->Prop,ψ rs->t ρ ψ) (hn:Nat.beq rs.length n = true) (hT:T (rs.map EV.d) φ):On n T t ρ φ:=h _ ⟨hn,hT⟩
theorem zh {te:TD} {t:TDs} {ρ:DE} {φ:List EV->Prop} (r:EV) (rs:List EV) (h1:∀ ψ:EV->Prop,ψ r->te ρ ψ) (h2:∀ ψ:List EV->Prop,ψ rs->t ρ ψ) (h:φ (r :: rs)):vq te t ρ φ:=h1 _ (h2 _ h)
theorem Om {t:TDs} {ρ:DE} {φ:EV->Prop} (rs:List EV) (h:∀ ψ:List EV->Prop,ψ rs->t ρ ψ) (hp:ki rs) (hl:Nat.ble rs.length 1000 = true) (hφ:φ ⟨.new,.tup (rs.map EV.d)⟩):Kn t ρ φ:=h _ ⟨hp,hl,hφ⟩
theorem M5 {ta tb:TD} {ρ:DE} {φ:EV->Prop} (h:ta ρ fun x=>match x.d with | .bl c=>(c = true->tb ρ φ) /\ (c = false->φ (dv (.bl false))) | _=>False):vAnd ta tb ρ φ:=h
theorem Xk (T:Tops mg) (F:Fun K "is_whole" "is_whole" (top 7) f fd) (m:mg "is_whole" = some (.ref f)):FD P w K mg base 1 "is_whole" ["thing"] bz:=by
 have S:zp ["thing"] ["thing"] (zb (top 7)):=⟨rfl,rfl,rfl,by decide +kernel,rfl,by decide +kernel,by decide +kernel⟩
 refine ue F S (F.binds fun _ _ _ _ _ _ us hl=>(by obtain ⟨_,rfl⟩:=sy hl; rfl)) m fun qZ A outer s H E ds φ hr hl hT=>?_
 have hu:=hr.units
 refine ⟨_,(zm (yd (Y4 (wo T.isinstance (za (z9 0) (za (Xm T.int Yb) zd))) (Y2 (Rh (wo T.isinstance (za (z9 0) (za (Xm T.bool fu) zd)))))))),?_⟩
 obtain ⟨a,rfl,h⟩:=Qe hT
 walk_at "dl"
 exact h
theorem Rb (T:Tops mg) (F:Fun K "common" "common" (top 10) f fd) (m:mg "common" = some (.ref f)):FD P w K mg base 1 "common" ["one", "other"] d8:=by
 have S:zp ["one", "other", "rest"] ["one", "other"] (zb (top 10)):=⟨rfl,rfl,rfl,by decide +kernel,rfl,by decide +kernel,by decide +kernel⟩
 refine ue F S (F.binds fun _ _ _ _ _ _ us hl=>(by obtain ⟨_,_,rfl⟩:=t6 hl; rfl)) m fun qZ A outer s H E ds φ hr hl hT=>?_
 have hu:=hr.units
 refine ⟨_,(zg (W8 (Zz hu (z9 1) zc) (zg (y0 2 S.nd (wn (z9 0) (z9 1)))
    (zg (y0 0 S.nd (z9 1))
    (zm (y0 1 S.nd (z9 2))))))
   (zm (yd (Rm T.abs (za (z9 0) zd))))),?_⟩
 obtain ⟨a,b,rfl,h⟩:=Qd hT
 refine ⟨fun ρ=>∃ x y r,ρ = [some (dv (.int x)),some (dv (.int y)),r] /\ Int.gcd x y = Int.gcd a b,fun ρ=>match ρ with
  | [_,some ⟨_,.int y⟩,_]=>y.natAbs
  | _=>0,⟨a,b,none,rfl,rfl⟩,?_⟩
 rintro ρ ⟨x,y,r,rfl,e⟩
 walk_at "dl"
 refine ⟨fun hy=>⟨hy,⟨_,_,_,rfl,?_⟩,Su x y hy⟩,fun hy=>?_⟩
 ·rw [Wz]; exact e
 ·subst hy
  rw [Q7]
  rw [Int.gcd_zero_right] at e
  rw [e]
  exact h
theorem Od (T:Tops mg) (C2:FD P w K mg base 1 "is_whole" ["thing"] bz) (C3:FD P w K mg base 1 "common" ["one", "other"] d8) (F:Fun K "ratio" "ratio" (top 9) f fd) (m:mg "ratio" = some (.ref f)):FD P w K mg base 2 "ratio" ["top", "bottom"] W3:=by
 have S:zp ["top", "bottom", "divisor"] ["top", "bottom"] (zb (top 9)):=⟨rfl,rfl,rfl,by decide +kernel,rfl,by decide +kernel,by decide +kernel⟩
 refine ue F S (F.binds fun _ _ _ _ _ _ us hl=>(by obtain ⟨_,_,rfl⟩:=t6 hl; rfl)) m fun qZ A outer s H E ds φ hr hl hT=>?_
 have hu:=hr.units
 refine ⟨_,(zg (wu (EW.et (ja (jb (t9 (zy C2 (hr.mono (by decide)) (za (z9 0) zd)))) (j9 (jb (t9 (zy C2 (hr.mono (by decide)) (za (z9 1) zd))))))) (zm di) yz)
   (zg (wu (Y0 hu (z9 1) zc) (zm di) yz)
   (zg (y0 2 S.nd (zy C3 (hr.mono (by decide)) (za (z9 0) (za (z9 1) zd))))
   (zg (wu (Og (z9 1) zc) (zm (y0 2 S.nd (jd (z9 2)))) yz)
   (zm (yd (yv (za (ut (z9 0) (z9 2)) (za (ut (z9 1) (z9 2)) zd))))))))),?_⟩
 obtain ⟨a,b,rfl,hb,hs,h⟩:=Qd hT
 walk_at "dl"
 simp only [bz,d8,w1,w2]
 walk_at "dl"
 have hg:intBits (Int.gcd a b:Int) <= 8000:=PySem.intBits_le_of_natAbs (by have:=Int.gcd_dvd_natAbs_right a b; have:=Nat.le_of_dvd (by omega) this; omega) hs
 have hp:=Xa (t:=a) hb
 refine ⟨fun z=>absurd z hb,fun _=>⟨fun hn=>?_,fun hn=>?_⟩⟩
 ·have e:sg a b = -(Int.gcd a b:Int):=by unfold sg; rw [if_pos hn]
  refine ⟨fdOk (m:=8000) (by omega) (PySem.intBits_neg_le hg),fdOk (m:=8000) (by omega) (PySem.intBits_neg_le hg),?_⟩
  have h':=h
  unfold rt at h'
  rw [e] at h'
  exact h'
 ·have e:sg a b = (Int.gcd a b:Int):=by unfold sg; rw [if_neg hn]
  refine ⟨fdOk (m:=8000) (by omega) hg,fdOk (m:=8000) (by omega) hg,?_⟩
  have h':=h
  unfold rt at h'
  rw [e] at h'
  exact h'
theorem Xh (T:Tops mg) (C3:FD P w K mg base 1 "common" ["one", "other"] d8) (F:Fun K "multiple" "multiple" (top 11) f fd) (m:mg "multiple" = some (.ref f)):FD P w K mg base 2 "multiple" ["numbers"] Ma:=by
 have S:zp ["numbers", "least", "number"] ["numbers"] (zb (top 11)):=⟨rfl,rfl,rfl,by decide +kernel,rfl,by decide +kernel,by decide +kernel⟩
 refine ue F S (F.binds fun _ _ _ _ _ _ us hl=>(by obtain ⟨_,rfl⟩:=sy hl; rfl)) m fun qZ A outer s H E ds φ hr hl hT=>?_
 have hu:=hr.units
 refine ⟨_,(zg (y0 1 S.nd zc)
   (zg (rq (vt (z9 0)) (zr (i:=2) S.nd rfl (by walk_at "o")) (yy 2) (zm (y0 1 S.nd (ut (yk (z9 1) (z9 2)) (zy C3 (hr.mono (by decide)) (za (z9 1) (za (z9 2) zd)))))))
   (zm (yd (z9 1))))),?_⟩
 obtain ⟨l,rfl,hl,hb,h⟩:=hT
 refine yg ⟨trivial,?_⟩
 dsimp only
 refine yg (u4 (l.map fun n:Nat=>D.int (n:Int)) (fun ψ hψ=>⟨trivial,hψ⟩) (fun i ρ=>∃ a,ρ = [some (dv (.lst (l.map fun n:Nat=>D.int (n:Int)))),some (dv (.int (lc (l.take i):Int))),a]) ⟨none,rfl⟩ ?_ ?_)
 ·rintro i d _ hd ⟨a,rfl⟩
  have hi:i < l.length:=by have:=(List.getElem?_eq_some_iff.mp hd).1; simpa using this
  obtain ⟨n,en⟩:∃ n,l[i]? = some n:=⟨_,List.getElem?_eq_getElem hi⟩
  rw [List.getElem?_map,en] at hd
  cases hd
  obtain ⟨b1,b2⟩:=Lx hl i
  have n1:=hl n (List.mem_of_getElem? en)
  have n2:=(j5 hl (List.mem_of_getElem? en)).2
  have eL:lc (l.take (i + 1)) = Nat.lcm (lc (l.take i)) n:=by
   unfold lc
   rw [List.take_add_one,en,List.foldl_append]
   rfl
  rw [eL]
  generalize lc (l.take i) = m at b1 b2
  have g1:0 < Nat.gcd m n:=Nat.gcd_pos_of_pos_left _ b1
  have g2:Nat.gcd m n <= n:=Nat.gcd_le_right _ n1
  refine Xb (xh (yi (dv (.int ((m:Int) * (n:Int)))) (dv (.int (Int.gcd (m:Int) (n:Int)))) (fun ψ hψ=>⟨?_,hψ⟩) (fun ψ hψ=>⟨rfl,hψ⟩) ⟨?_,trivial,some (dv (.int (n:Int))),?_⟩))
  ·exact mul4 (rm (by omega)) (rm (by omega))
  ·exact fd4 (by show ((Nat.gcd m n:Nat):Int) ≠ 0; omega) (rm (show Nat.gcd m n < _ by omega))
  ·show setS _ 1 (dv (.int (((m:Int) * (n:Int)).fdiv ((Nat.gcd m n:Nat):Int)))) = _
   rw [Nu,<- Int.natCast_mul,<- Int.natCast_ediv]
   rfl
 ·rintro _ ⟨a,rfl⟩
  rw [List.length_map,List.take_length]
  exact ⟨trivial,h⟩
theorem Oc (T:Tops mg) (F:Fun K "whole" "whole" (top 16) f fd) (m:mg "whole" = some (.ref f)):FD P w K mg base 1 "whole" ["one", "by"] Ym:=by
 have S:zp ["one", "by"] ["one", "by"] (zb (top 16)):=⟨rfl,rfl,rfl,by decide +kernel,rfl,by decide +kernel,by decide +kernel⟩
 refine ue F S (F.binds fun _ _ _ _ _ _ us hl=>(by obtain ⟨_,_,rfl⟩:=t6 hl; rfl)) m fun qZ A outer s H E ds φ hr hl hT=>?_
 have hu:=hr.units
 refine ⟨_,(zm (yd (yk (zn hu (z9 0) zc) (ut (z9 1) (zn hu (z9 0) zc))))),?_⟩
 obtain ⟨a,b,y,rfl,hb,ha,hb2,hy,h⟩:=hT
 have hq:y / b < 2 ^ 4000:=Nat.lt_of_le_of_lt (Nat.div_le_self ..) hy
 refine xt (yi (dv (.int a)) (dv (.int ((y:Int).fdiv (b:Int)))) (fun ψ hψ=>hψ) (fun ψ hψ=>⟨fd4 (by omega) (rm hb2),hψ⟩) ?_)
 show IntMulOk a ((y:Int).fdiv (b:Int)) /\ True /\ φ (dv (.int (a * (y:Int).fdiv (b:Int))))
 rw [Nu,<- Int.natCast_ediv]
 exact ⟨mul4 ha (rm hq),trivial,h⟩
end
section
variable {P:Program} {w:World} {K:W.Frag} {mg:Str->Option Value} {base:Heap} {f C:Addr} {fd:FuncData}
structure RowG where
 ns:List (Int × Nat)
 c:Int
 d:Nat
noncomputable def RowG.yb (r:RowG):Nat:=lc (r.ns.map Prod.snd ++ [r.d])
noncomputable def RowG.A (r:RowG) (q:Nat):Int:=match r.ns[q]? with
 | some p=>p.1 * ((r.yb / p.2:Nat):Int)
 | none=>0
noncomputable def RowG.B (r:RowG):Int:=r.c * ((r.yb / r.d:Nat):Int)
noncomputable def u6 (yb:Nat):Nat->List (Int × Nat)->List (Nat × Int)
 | _,[]=>[]
 | i,p :: l=>if p.1 = 0 then u6 yb (i + 1) l else (i,p.1 * ((yb / p.2:Nat):Int)) :: u6 yb (i + 1) l
noncomputable def prN (p:Nat × Int):D:=.tup [.int p.1,.int p.2]
noncomputable def qqD (p:Int × Nat):D:=.tup [.int p.1,.int p.2]
noncomputable def RowG.inD (r:RowG):D:=.tup [.lst (r.ns.map qqD),.tup [.int r.c,.int r.d]]
noncomputable def RowG.D (r:RowG):DL.D:=.tup [.lst ((u6 r.yb 0 r.ns).map prN),.int r.B,.int r.yb]
structure RowG.Ok (n:Nat) (r:RowG):Prop where
 len:r.ns.length = n
 b1:∀ p ∈ r.ns,1 <= p.2
 a:∀ p ∈ r.ns,sh p.1
 c:sh r.c
 d1:1 <= r.d
 yb:r.yb < 2 ^ 4000
 A:∀ q,sh (r.A q)
 B:sh r.B
noncomputable def gD (l:List Int):D:=.lst (l.map D.int)
structure SG where
 yb:Nat
 rows:List RowG
 n:Nat
 T:List (List Int)
 g:List Int
 b:Int
 t:List Nat
noncomputable def tD (t:List Nat):List Int:=t.map fun i:Nat=>(i:Int)
noncomputable def six (s:SG):List D:=[.int s.yb,.lst (s.rows.map RowG.D),.int s.n,.lst (s.T.map gD),gD s.g,.int s.b]
noncomputable def sD (C:Addr) (s:SG):D:=obD C zt (six s) (tD s.t)
noncomputable def colG (rows:List RowG) (k:Nat):Nat->Int:=match rows[k]? with
 | some r=>r.A
 | none=>unt (k - rows.length)
noncomputable def bndG (rows:List RowG) (k:Nat):Int:=match rows[k]? with
 | some r=>r.B
 | none=>0
noncomputable def tRow:FT:=fun ds φ=>∃ (n:Nat) (r:RowG),ds = [r.inD] /\ n <= 1000 /\ r.Ok n /\ φ ⟨.new,r.D⟩
noncomputable def dotL (n:Nat) (l:List Int) (c:Nat->Int):Int:=sm n fun q=>l.getD (q + 1) 0 * c q
noncomputable def Uq (C:Addr):FT:=fun ds φ=>∃ (s:SG) (l:List Int) (k:Nat),ds = [sD C s,gD l,.int k] /\ k < s.rows.length + s.n /\ s.n <= 1000 /\ (∀ r ∈ s.rows,r.Ok s.n) /\ l.length = s.n + 1 /\ (∀ x ∈ l,sh x) /\ φ (dv (.int (dotL s.n l (colG s.rows k))))
theorem fld {te:TD} {ρ:DE} {f:Str} {i:Nat} {ds:List D} {x:D} {φ:EV->Prop} {C:Addr} (h1:∀ ψ:EV->Prop,ψ (dv (.ob C zt ds))->te ρ ψ) (e:ixF zt f = some i) (ex:ds[i]? = some x) (h:φ (dv x)):dFld C zt f te ρ φ:=h1 _ ⟨rfl,rfl,by
 rw [e]
 show match ds[i]? with | some x=>φ (dv x) | none=>False
 rw [ex]
 exact h⟩
theorem lenv {te:TD} {ρ:DE} {φ:EV->Prop} (ds:List D) (h:∀ ψ:EV->Prop,ψ (dv (.lst ds))->te ρ ψ) (hφ:φ (dv (.int ds.length))):dCB sLen (vq te aNil) ρ φ:=h _ hφ
theorem Jn {te:TD} {ρ:DE} {φ:EV->Prop} (h:te ρ fun r=>sSum [r.d] φ):dCB sSum (vq te aNil) ρ φ:=h
theorem yo {ds:List D} {i:Int} {d:D} {φ:EV->Prop} (e:atI ds i = some d) (h:φ (dv d)):sIxx (.lst ds) (.int i) φ:=by
 show match atI ds i with | some d=>φ (dv d) | none=>False
 rw [e]
 exact h
theorem wz {ds:List D} {i:Nat} {d:D} (e:ds[i]? = some d):atI ds (i:Int) = some d:=Q6 (by omega) (by rw [show ((i:Int)).toNat = i from rfl]; exact e)
theorem qc {l:List Int} {i:Nat} (h:i < l.length):(l.map D.int)[i]? = some (.int (l.getD i 0)):=by
 rw [List.getElem?_map,List.getElem?_eq_getElem h]
 simp [List.getD,h]
theorem w5 {l:List Int} {i:Nat} (h:i < l.length):l.getD i 0 ∈ l:=by
 have e:l.getD i 0 = l[i]:=by simp [List.getD,h]
 rw [e]
 exact List.getElem_mem h
theorem cy {te:TD} {ρ:DE} {φ:List D->Prop} (h:te ρ fun r=>(match r.k with | .own=>False | _=>True) /\ match Sg r.d with | some ds=>φ ds | none=>False):iSeq te ρ φ:=h
theorem E2 {te:TD} {tl th:TDo} {ρ:DE} {φ:EV->Prop} (h:te ρ fun x=>tl ρ fun l=>th ρ fun u=>sSl x.d l u φ):dSl te tl th ρ φ:=h
theorem K7 {te:TD} {ρ:DE} {φ:List D->Prop} {l:List D} (h:∀ ψ:EV->Prop,ψ (dv (.lst l))->te ρ ψ) (hφ:φ (enD l)):iE (vq te aNil) ρ φ:=h _ ⟨trivial,hφ⟩
theorem fh (l:List D):(enD l).length = l.length:=by unfold enD; rw [List.length_map,List.length_zipIdx]
theorem fj {l:List D} {i:Nat} {d:D} (hj:(enD l)[i]? = some d):∃ x,l[i]? = some x /\ d = .tup [.int (i:Nat),x]:=by
 unfold enD at hj
 rw [List.getElem?_map,List.getElem?_zipIdx] at hj
 cases e:l[i]? with
 | none=>rw [e] at hj; cases hj
 | some r =>
  rw [e] at hj
  refine ⟨r,rfl,?_⟩
  have:=Option.some.inj hj
  rw [<- this,Nat.zero_add]
noncomputable def nuF (yb:Nat):D->Option D
 | .tup [.int i,.tup [.int a,.int b]]=>if a = 0 then none else some (.tup [.int i,.int (a * ((yb / b.toNat:Nat):Int))])
 | _=>none
theorem Tr (yb:Nat):∀ (l:List (Int × Nat)) (i:Nat),(((l.map qqD).zipIdx i).map fun q=>D.tup [.int (q.2:Nat),q.1]).filterMap (nuF yb) = (u6 yb i l).map prN
 | [],_=>rfl
 | p :: l,i=>by
  have ih:=Tr yb l (i + 1)
  rw [List.map_cons,List.zipIdx_cons,List.map_cons]
  unfold u6
  have e:nuF yb (.tup [.int (i:Nat),qqD p]) = if p.1 = 0 then none else some (.tup [.int (i:Nat),.int (p.1 * ((yb / p.2:Nat):Int))]):=rfl
  by_cases z:p.1 = 0
  ·rw [if_pos z,List.filterMap_cons_none (by rw [e,if_pos z]),ih]
  ·rw [if_neg z,List.filterMap_cons_some (b:=.tup [.int (i:Nat),.int (p.1 * ((yb / p.2:Nat):Int))]) (by rw [e,if_neg z]),ih]
   rfl
theorem c5 (yb:Nat):∀ (l:List (Int × Nat)) (i:Nat),(u6 yb i l).length <= l.length
 | [],_=>Nat.le_refl _
 | p :: l,i=>by
  have:=c5 yb l (i + 1)
  unfold u6
  split <;> simp <;> omega
theorem Wl (yb:Nat):∀ (l:List (Int × Nat)) (i:Nat) (p:Nat × Int),p ∈ u6 yb i l->∃ q x,l[q]? = some x /\ p = (i + q,x.1 * ((yb / x.2:Nat):Int))
 | [],_,_,h=>by cases h
 | y :: l,i,p,h=>by
  unfold u6 at h
  have go:p ∈ u6 yb (i + 1) l->∃ q x,(y :: l)[q]? = some x /\ p = (i + q,x.1 * ((yb / x.2:Nat):Int)):=fun h=>by
   obtain ⟨q,x,e,ep⟩:=Wl yb l (i + 1) p h
   exact ⟨q + 1,x,e,by rw [ep,show i + 1 + q = i + (q + 1) by omega]⟩
  split at h
  ·exact go h
  ·rcases List.mem_cons.mp h with rfl | h
   ·exact ⟨0,y,rfl,rfl⟩
   ·exact go h
theorem Qp (n:Nat) (f:Nat->Int):sm (n + 1) f = f 0 + sm n fun q=>f (q + 1):=by
 induction n with
 | zero=>show 0 + f 0 = f 0 + 0; omega
 | succ n ih =>
  show sm (n + 1) f + f (n + 1) = f 0 + (sm n (fun q=>f (q + 1)) + f (n + 1))
  rw [ih]; omega
theorem Wk (yb:Nat) (x:Nat->Int):∀ (l:List (Int × Nat)) (i:Nat),((u6 yb i l).map fun p:Nat × Int=>p.2 * x p.1).sum = sm l.length fun q=>x (i + q) * (match l[q]? with | some p=>p.1 * ((yb / p.2:Nat):Int) | none=>0)
 | [],_=>rfl
 | p :: l,i=>by
  have ih:=Wk yb x l (i + 1)
  rw [List.length_cons,Qp]
  have e:sm l.length (fun q=>x (i + (q + 1)) * (match (p :: l)[q + 1]? with | some p=>p.1 * ((yb / p.2:Nat):Int) | none=>0)) = sm l.length fun q=>x (i + 1 + q) * (match l[q]? with | some p=>p.1 * ((yb / p.2:Nat):Int) | none=>0):=zf fun q _=>by
   rw [show i + (q + 1) = i + 1 + q by omega]
   rfl
  rw [e,<- ih]
  rw [show u6 yb i (p :: l) = if p.1 = 0 then u6 yb (i + 1) l else (i,p.1 * ((yb / p.2:Nat):Int)) :: u6 yb (i + 1) l from rfl]
  show _ = x (i + 0) * (p.1 * ((yb / p.2:Nat):Int)) + _
  by_cases z:p.1 = 0
  ·rw [if_pos z,z,Int.zero_mul,Int.mul_zero,Int.zero_add]
  ·rw [if_neg z,List.map_cons,List.sum_cons,Nat.add_zero,Int.mul_comm]
   rfl
theorem Z8:∀ l:List (Nat × Int),wb (l.map prN)
 | []=>trivial
 | _ :: l=>⟨⟨trivial,trivial,trivial⟩,Z8 l⟩
noncomputable def grF (l:List Int):D->Option D
 | .tup [.int i,.int a]=>some (.int (a * l.getD (i.toNat + 1) 0))
 | _=>none
theorem So (l:List Int):∀ ps:List (Nat × Int),(ps.map prN).filterMap (grF l) = (ps.map fun p:Nat × Int=>p.2 * l.getD (p.1 + 1) 0).map D.int
 | []=>rfl
 | p :: ps=>by
  rw [List.map_cons,List.filterMap_cons_some (b:=.int (p.2 * l.getD (p.1 + 1) 0)) (by rfl),So l ps]
  rfl
theorem Zw (T:Tops mg) (Dt:FD P w K mg base 2 "multiple" ["numbers"] Ma) (C1:FD P w K mg base 1 "whole" ["one", "by"] Ym) (F:Fun K "whole_row" "whole_row" (top 17) f fd) (m:mg "whole_row" = some (.ref f)):FD P w K mg base 3 "whole_row" ["row"] tRow:=by
 have S:zp ["row", "by", "numbers"] ["row"] (zb (top 17)):=⟨rfl,rfl,rfl,by decide +kernel,rfl,by decide +kernel,by decide +kernel⟩
 refine ue F S (F.binds fun _ _ _ _ _ _ us hl=>(by obtain ⟨_,rfl⟩:=sy hl; rfl)) m fun qZ A outer s H E ds φ hr hl hT=>?_
 have hu:=hr.units
 refine ⟨_,(zg (yj (y0 1 S.nd (zy Dt (hr.mono (by decide)) (za (xn (xa (T:=["one"]) (F:=[]) (js:=[]) (vt (zn hu (z9 0) zc)) (show zl (zb (top 17)) _ ["one"] [] from ⟨rfl,by decide +kernel,by decide +kernel,by decide +kernel,by decide +kernel,by decide +kernel⟩) .nil (by decide) (fun cl C fp s H=>(zr (i:=0) (show ((["one"]:List Str) ++ ([]:List Str)).Nodup by decide +kernel) rfl (by walk_at "o"))) (y9 (by decide)) (yy 0) (fun cl C fp s H=>yn) (fun cl C fp s H=>(zn hu (z9 0) zc))) (wx (za (zn hu (zn hu (z9 0) zc) zc) zd))) zd))))
   (zg (yj (h9 (T:=["place", "one"]) (F:=["by"]) (js:=[1]) 2 S.nd (xm T.enumerate (za (zn hu (z9 0) zc) zd)) (show zl (zb (top 17)) _ ["place", "one"] ["by"] from ⟨rfl,by decide +kernel,by decide +kernel,by decide +kernel,by decide +kernel,by decide +kernel⟩) (.cons rfl .nil) (by decide) (fun cl C fp s H=>(xv (K0:=K) (n:=2) (by rfl) (by rfl) (zw (zr (i:=0) (show ((["place", "one"]:List Str) ++ (["by"]:List Str)).Nodup by decide +kernel) rfl (by walk_at "o")) (zw (zr (i:=1) (show ((["place", "one"]:List Str) ++ (["by"]:List Str)).Nodup by decide +kernel) rfl (by walk_at "o")) xu)))) (t7 (yx ya (vj ya xr) (y9 (by decide)) (yx ya xr (y9 (by decide)) t8))) (xx 0 1) (fun cl C fp s H=>(Kf (Zz hu (zn hu (z9 1) zc) zc))) (fun cl C fp s H=>(yv (za (z9 0) (za (zy C1 (hr.mono (by decide)) (za (z9 1) (za (z9 2) zd))) zd))))))
   (zm (Mi (za (z9 2) (za (zy C1 (hr.mono (by decide)) (za (zn hu (z9 0) zc) (za (z9 1) zd))) (za (z9 1) zd))))))),?_⟩
 obtain ⟨n,r,rfl,hn,o,h⟩:=hT
 have hl:∀ m ∈ r.ns.map Prod.snd ++ [r.d],1 <= m:=fun m hm=>by
  rcases List.mem_append.mp hm with hm | hm
  ·obtain ⟨p,hp,rfl⟩:=List.mem_map.mp hm
   exact o.b1 p hp
  ·rw [List.mem_singleton.mp hm]
   exact o.d1
 have le:∀ m ∈ r.ns.map Prod.snd ++ [r.d],m < 2 ^ 4000:=fun m hm=>Nat.lt_of_le_of_lt (j5 hl hm).2 o.yb
 have ef:(r.ns.map qqD).filterMap (fun d=>match d with | .tup [_,x]=>some x | _=>none) = (r.ns.map Prod.snd).map fun n:Nat=>D.int (n:Int):=by
  generalize r.ns = l
  induction l with
  | nil=>rfl
  | cons p l ih=>rw [List.map_cons,List.filterMap_cons_some (b:=.int (p.2:Nat)) (by rfl),ih]; rfl
 refine zv (fun ρ=>ρ = [some (dv r.inD),some (dv (.int r.yb)),none]) ?_ ?_
 ·refine xh (xc [df (.lst ((r.ns.map Prod.snd ++ [r.d]).map fun n:Nat=>D.int (n:Int)))] (fun ψ hψ=>zh _ [] (fun ψ hψ=>yi (df (.lst ((r.ns.map Prod.snd).map fun n:Nat=>D.int (n:Int)))) (df (.lst [.int r.d])) (fun ψ hψ=>yh (r.ns.map qqD) (fun ψ hψ=>⟨trivial,hψ⟩) (fun d=>match d with | .tup [_,x]=>some x | _=>none) (by rw [List.length_map,o.len]; omega) (fun d hd=>?_) (by rw [ef]; exact hψ)) (fun ψ hψ=>⟨rfl,rfl,hψ⟩) ⟨by rw [sizeLine_eq,List.length_map,List.length_map,o.len]; show n + 1 <= _; omega,by rw [show (((r.ns.map Prod.snd).map fun n:Nat=>D.int (n:Int)) ++ [D.int r.d]) = (r.ns.map Prod.snd ++ [r.d]).map fun n:Nat=>D.int (n:Int) by rw [List.map_append]; rfl]; exact hψ⟩) (fun ψ hψ=>hψ) hψ) rfl ⟨_,rfl,hl,o.yb,trivial,rfl⟩)
  obtain ⟨p,hp,rfl⟩:=List.mem_map.mp hd
  exact ⟨fun _=>⟨trivial,rfl⟩,fun z=>(by cases z)⟩
 rintro _ rfl
 refine zv (fun ρ=>ρ = [some (dv r.inD),some (dv (.int r.yb)),some (dO (.lst ((u6 r.yb 0 r.ns).map prN)))]) ?_ ?_
 ·refine xh (yh (enD (r.ns.map qqD)) (fun ψ hψ=>⟨trivial,hψ⟩) (nuF r.yb) (by rw [fh,List.length_map,o.len]; omega) (fun d hd=>?_) ⟨trivial,?_⟩)
  ·obtain ⟨i,hi⟩:=List.getElem?_of_mem hd
   obtain ⟨x,ex,rfl⟩:=fj hi
   rw [List.getElem?_map] at ex
   cases ep:r.ns[i]? with
   | none=>rw [ep] at ex; cases ex
   | some p =>
    rw [ep] at ex
    cases ex
    have mp:=List.mem_of_getElem? ep
    refine ⟨yq ▸ trivial,yq ▸ trivial,fun e=>?_,fun e=>?_⟩
    ·rw [uq] at e
     have ne:p.1 ≠ 0:=fun z=>by rw [z] at e; exact absurd e (by decide)
     exact ⟨rfl,p.1,p.2,r.yb,rfl,o.b1 p mp,o.a p mp,le _ (List.mem_append_left _ (List.mem_map.mpr ⟨p,mp,rfl⟩)),o.yb,rfl,rfl,trivial,if_neg ne⟩
    ·rw [uq] at e
     by_cases z:p.1 = 0
     ·exact if_pos z
     ·rw [show (p.1 == (0:Int)) = false from beq_eq_false_iff_ne.mpr z] at e
      exact absurd e (by decide)
  ·unfold enD
   rw [Tr]
   rfl
 rintro _ rfl
 exact ⟨rfl,r.c,r.d,r.yb,rfl,o.d1,o.c,le _ (List.mem_append_right _ (List.mem_singleton.mpr rfl)),o.yb,⟨Z8 _,trivial,trivial,trivial⟩,rfl,trivial,h⟩
theorem Sz (T:Tops mg) (O:CO K C zt) (F:Fun K "grows" "Search.grows" (mth 4) f fd) (hm:Meth K C "grows" f):FMD P w K mg base 1 C zt "grows" ["self", "line", "thing"] (Uq C):=by
 have S:zp ["self", "line", "thing"] ["self", "line", "thing"] (zb (mth 4)):=⟨rfl,rfl,rfl,by decide +kernel,rfl,by decide +kernel,by decide +kernel⟩
 refine u9 F S (F.binds fun _ _ _ _ _ _ us hl=>(by obtain ⟨_,_,_,rfl⟩:=Ps hl; rfl)) hm (by decide) fun qZ A outer s H E ds φ hr hl hT=>?_
 have hu:=hr.units
 refine ⟨_,(zg (wu (Dg (z9 2) (vv T.len (za (yf O (z9 0)) zd))) (zm (yd (zn hu (z9 1) (xn (qd (z9 2) (vv T.len (za (yf O (z9 0)) zd))) zc)))) yz)
  (zm (yd (Kh T.sum (za (xa (T:=["place", "number"]) (F:=["line"]) (js:=[1]) (vt (zn hu (zn hu (yf O (z9 0)) (z9 2)) zc)) (show zl (zb (mth 4)) _ ["place", "number"] ["line"] from ⟨rfl,by decide +kernel,by decide +kernel,by decide +kernel,by decide +kernel,by decide +kernel⟩) (.cons rfl .nil) (by decide) (fun cl C fp s H=>(xv (K0:=K) (n:=2) (by rfl) (by rfl) (zw (zr (i:=0) (show ((["place", "number"]:List Str) ++ (["line"]:List Str)).Nodup by decide +kernel) rfl (by walk_at "o")) (zw (zr (i:=1) (show ((["place", "number"]:List Str) ++ (["line"]:List Str)).Nodup by decide +kernel) rfl (by walk_at "o")) xu)))) (t7 (yx ya (vj ya xr) (y9 (by decide)) (yx ya xr (y9 (by decide)) t8))) (xx 0 1) (fun cl C fp s H=>yn) (fun cl C fp s H=>(yk (z9 1) (zn hu (z9 2) (xn (z9 0) zc))))) zd))))),?_⟩
 obtain ⟨s1,l,k,rfl,hk,hn,ho,hl,hx,h⟩:=hT
 have ln:∀ (ψ:EV->Prop),ψ (dv (.int s1.rows.length))->dCB sLen (vq (dFld C zt "rows" (jy 0)) aNil) [some (dv (sD C s1)),some (dv (gD l)),some (dv (.int k))] ψ:=fun ψ hψ=>lenv (s1.rows.map RowG.D) (fun ψ hψ=>fld (fun ψ hψ=>hψ) ix1 rfl hψ) (by rw [List.length_map]; exact hψ)
 by_cases gap:s1.rows.length <= k
 ·refine yg (va true (fun ψ hψ=>qz (yi (dv (.int k)) (dv (.int s1.rows.length)) (fun ψ hψ=>hψ) ln ?_)) (fun _=>xt (yi (dv (gD l)) (dv (.int ((k:Int) - (s1.rows.length:Int) + 1))) (fun ψ hψ=>hψ) (fun ψ hψ=>yi (dv (.int ((k:Int) - (s1.rows.length:Int)))) (dv (.int 1)) (fun ψ hψ=>yi (dv (.int k)) (dv (.int s1.rows.length)) (fun ψ hψ=>hψ) ln hψ) (fun ψ hψ=>hψ) hψ) (yo (d:=.int (l.getD (k - s1.rows.length + 1) 0)) ?_ ⟨trivial,?_⟩))) (fun z=>(by cases z)))
  ·show ψ (decide ((s1.rows.length:Int) <= (k:Int)))
   rw [decide_eq_true (by omega)]
   exact hψ
  ·rw [show (k:Int) - (s1.rows.length:Int) + 1 = ((k - s1.rows.length + 1:Nat):Int) by omega]
   exact wz (qc (by omega))
  ·have e:dotL s1.n l (colG s1.rows k) = l.getD (k - s1.rows.length + 1) 0:=by
    unfold dotL colG
    rw [List.getElem?_eq_none gap]
    dsimp only
    rw [xq (k:=k - s1.rows.length) (by omega) _ fun q _ hq=>by unfold unt; rw [if_neg hq,Int.mul_zero]]
    unfold unt
    rw [if_pos rfl,Int.mul_one]
   rw [e] at h
   exact h
 ·obtain ⟨r,er⟩:∃ r,s1.rows[k]? = some r:=⟨_,List.getElem?_eq_getElem (by omega)⟩
  have o:=ho r (List.mem_of_getElem? er)
  refine yg (va false (fun ψ hψ=>qz (yi (dv (.int k)) (dv (.int s1.rows.length)) (fun ψ hψ=>hψ) ln ?_)) (fun z=>(by cases z)) (fun _=>vh ?_))
  ·show ψ (decide ((s1.rows.length:Int) <= (k:Int)))
   rw [decide_eq_false (by omega)]
   exact hψ
  dsimp only
  have ek:atI (s1.rows.map RowG.D) (k:Int) = some r.D:=wz (by rw [List.getElem?_map,er]; rfl)
  refine xt (Jn (yh ((u6 r.yb 0 r.ns).map prN) (fun ψ hψ=>yi (dv r.D) (dv (.int 0)) (fun ψ hψ=>yi (dv (.lst (s1.rows.map RowG.D))) (dv (.int k)) (fun ψ hψ=>fld (fun ψ hψ=>hψ) ix1 rfl hψ) (fun ψ hψ=>hψ) (yo ek hψ)) (fun ψ hψ=>hψ) ⟨trivial,hψ⟩) (grF l) ?_ (fun d hd=>?_) ?_))
  ·rw [List.length_map]
   have:=c5 r.yb r.ns 0
   rw [o.len] at this
   omega
  ·obtain ⟨p,hp,rfl⟩:=List.mem_map.mp hd
   obtain ⟨q,x,eq,ep⟩:=Wl _ _ _ _ hp
   have hq:q < s1.n:=by rw [<- o.len]; exact (List.getElem?_eq_some_iff.mp eq).1
   have eA:p.2 = r.A q:=by unfold RowG.A; rw [eq,ep]
   have e1:p.1 = q:=by rw [ep]; omega
   refine ⟨fun _=>yi (dv (.int p.2)) (dv (.int (l.getD (p.1 + 1) 0))) (fun ψ hψ=>hψ) (fun ψ hψ=>yi (dv (gD l)) (dv (.int ((p.1:Int) + 1))) (fun ψ hψ=>hψ) (fun ψ hψ=>hψ) (yo (by rw [show ((p.1:Int) + 1) = ((p.1 + 1:Nat):Int) from rfl]; exact wz (qc (by omega))) hψ)) ⟨?_,trivial,rfl⟩,fun z=>(by cases z)⟩
   rw [eA]
   exact mul4 (o.A q) (hx _ (w5 (by omega)))
  ·rw [So]
   have e:dotL s1.n l (colG s1.rows k) = ((u6 r.yb 0 r.ns).map fun p:Nat × Int=>p.2 * l.getD (p.1 + 1) 0).sum:=by
    rw [Wk r.yb (fun q=>l.getD (q + 1) 0),o.len]
    unfold dotL colG
    rw [er]
    exact zf fun q _=>by rw [Nat.zero_add]; rfl
   rw [e] at h
   unfold sSum
   dsimp only
   rw [ve]
   exact ⟨trivial,h⟩
structure SSh (s:SG):Prop where
 n:s.n <= 100
 T:s.T.length = s.n
 L:∀ l ∈ s.T,l.length = s.n + 1 /\ ∀ x ∈ l,sh x
 g:s.g.length = s.n + 1
 gs:∀ x ∈ s.g,sh x
 b:sh s.b
 b0:s.b ≠ 0
 t:s.t.length = s.n
 ro:∀ r ∈ s.rows,r.Ok s.n
 rn:s.rows.length <= 100
 y1:1 <= s.yb
 y2:s.yb < 2 ^ 4000
noncomputable def lin (s:SG) (i:Nat):List Int:=s.T.getD i []
theorem SSh.lin {s:SG} (o:SSh s) {i:Nat} (h:i < s.n):s.T[i]? = some (lin s i) /\ (lin s i).length = s.n + 1 /\ ∀ x ∈ lin s i,sh x:=by
 have hi:i < s.T.length:=by rw [o.T]; exact h
 have e:s.T[i]? = some (K46.lin s i):=by unfold K46.lin; rw [List.getElem?_eq_getElem hi]; simp [List.getD,hi]
 exact ⟨e,o.L _ (List.mem_of_getElem? e)⟩
noncomputable def rtD (a b:Int):D:=.tup [.int (rt a b).1,.int (rt a b).2]
noncomputable def mvd (p q b:Int) (x y:List Int):List Int:=List.zipWith (fun x y=>(x * p - y * q).fdiv b) x y
noncomputable def N2 (C:Addr):FT:=fun ds φ=>∃ (s:SG) (x y:List Int) (p q:Int),ds = [sD C s,gD x,gD y,.int p,.int q] /\ (∀ a ∈ x,sh a) /\ (∀ a ∈ y,sh a) /\ x.length <= 1000 /\ sh p /\ sh q /\ s.b ≠ 0 /\ sh s.b /\ φ (df (gD (mvd p q s.b x y)))
noncomputable def N6 (C:Addr):FT:=fun ds φ=>∃ (s:SG) (i j:Nat) (c:List Int),ds = [sD C s,.int i,.int j,gD c] /\ i < s.n /\ j < s.n /\ SSh s /\ c.length = s.n /\ (∀ x ∈ c,sh x) /\ φ (dv (.bl (HT.lexLt ((lin s i).map (· * c.getD j 0)) ((lin s j).map (· * c.getD i 0)))))
structure OutL (s:SG) (c:List Int) (r:Nat):Prop where
 lt:r < s.n
 pos:0 < c.getD r 0
 low:∀ i,i < s.n->0 < c.getD i 0->HT.lexLt ((lin s i).map (· * c.getD r 0)) ((lin s r).map (· * c.getD i 0)) = false
noncomputable def N3 (C:Addr):FT:=fun ds φ=>∃ (s:SG) (c:List Int),ds = [sD C s,gD c] /\ SSh s /\ c.length = s.n /\ (∀ x ∈ c,sh x) /\ (∃ i,i < s.n /\ 0 < c.getD i 0) /\ ∀ r,OutL s c r->φ (dv (.int r))
noncomputable def N1 (C:Addr):FT:=fun ds φ=>∃ s:SG,ds = [sD C s] /\ SSh s /\ φ (dv (rtD (s.g.getD 0 0) (s.b * (s.yb:Int))))
noncomputable def tUnk (C:Addr):FT:=fun ds φ=>∃ s:SG,ds = [sD C s] /\ SSh s /\ φ (df (.lst ((s.g.drop 1).map fun x=>rtD x s.b)))
noncomputable def shL (wt:Nat->Int) (bt:Int):Nat->List RowG->List D
 | _,[]=>[]
 | i,r :: l=>rtD (wt i * (r.yb:Int)) bt :: shL wt bt (i + 1) l
noncomputable def Up (C:Addr):FT:=fun ds φ=>∃ (s:SG) (ks:List Key) (vs:List D) (wt:Nat->Int) (bt:Int),ds = [sD C s,.dk ks vs,.int bt] /\ SSh s /\ (∀ i,i < s.rows.length->(vz ks vs (.inl (i:Int))).getD (.int 0) = .int (wt i) /\ sh (wt i)) /\ bt ≠ 0 /\ intBits bt <= 8000 /\ φ (df (.lst (shL wt bt 0 s.rows)))
noncomputable def shF (wt:Nat->Int) (bt:Int):D->Option D
 | .tup [.int i,.tup [_,_,.int y]]=>some (rtD (wt i.toNat * y) bt)
 | _=>none
theorem Uy (wt:Nat->Int) (bt:Int):∀ (l:List RowG) (i:Nat),(((l.map RowG.D).zipIdx i).map fun q=>D.tup [.int (q.2:Nat),q.1]).filterMap (shF wt bt) = shL wt bt i l
 | [],_=>rfl
 | r :: l,i=>by
  have ih:=Uy wt bt l (i + 1)
  rw [List.map_cons,List.zipIdx_cons,List.map_cons,List.filterMap_cons_some (show shF wt bt (.tup [.int (i:Nat),r.D]) = some (rtD (wt i * (r.yb:Int)) bt) from rfl),ih]
  rfl
theorem uc (wt:Nat->Int) (bt:Int):∀ (l:List RowG) (i:Nat),wb (shL wt bt i l)
 | [],_=>trivial
 | _ :: l,i=>⟨⟨trivial,trivial,trivial⟩,uc wt bt l (i + 1)⟩
theorem kh:∀ l:List Int,wb (l.map D.int)
 | []=>trivial
 | _ :: l=>⟨trivial,kh l⟩
theorem du (b:Int):∀ l:List Int,wb (l.map fun x=>rtD x b)
 | []=>trivial
 | _ :: l=>⟨⟨trivial,trivial,trivial⟩,du b l⟩
noncomputable def mvF (p q b:Int):D->Option D
 | .tup [.int x,.int y]=>some (.int ((x * p - y * q).fdiv b))
 | _=>none
theorem Tw (p q b:Int):∀ x y:List Int,(zipD (x.map D.int) (y.map D.int)).filterMap (mvF p q b) = (mvd p q b x y).map D.int
 | [],_=>rfl
 | _ :: _,[]=>rfl
 | a :: x,c :: y=>by
  have ih:=Tw p q b x y
  unfold zipD mvd at ih ⊢
  rw [List.map_cons,List.map_cons,List.zipWith_cons_cons,List.filterMap_cons_some (b:=.int ((a * p - c * q).fdiv b)) (by rfl),ih]
  rfl
theorem Ud:∀ {x y:List Int} {d:D},d ∈ zipD (x.map D.int) (y.map D.int)->∃ a c,a ∈ x /\ c ∈ y /\ d = .tup [.int a,.int c]
 | [],_,_,h=>by cases h
 | _ :: _,[],_,h=>by cases h
 | a :: x,c :: y,d,h=>by
  unfold zipD at h
  rw [List.map_cons,List.map_cons,List.zipWith_cons_cons] at h
  rcases List.mem_cons.mp h with rfl | h
  ·exact ⟨a,c,List.mem_cons_self,List.mem_cons_self,rfl⟩
  ·obtain ⟨a',c',h1,h2,e⟩:=Ud (x:=x) (y:=y) h
   exact ⟨a',c',List.mem_cons_of_mem _ h1,List.mem_cons_of_mem _ h2,e⟩
theorem fy (x y:List D):(zipD x y).length = min x.length y.length:=by unfold zipD; rw [List.length_zipWith]
theorem Sl {ta tb:TD} {ρ:DE} {φ:List D->Prop} {x y:D} {xs ys:List D} (h1:∀ ψ:EV->Prop,ψ (dv x)->ta ρ ψ) (h2:∀ ψ:EV->Prop,ψ (dv y)->tb ρ ψ) (ex:seqD x = some xs) (ey:seqD y = some ys) (hφ:φ (zipD xs ys)):iZ (vq ta (vq tb aNil)) ρ φ:=h1 _ (h2 _ ⟨trivial,trivial,by
 show match seqD x,seqD y with | some xs,some ys=>φ (zipD xs ys) | _,_=>False
 rw [ex,ey]
 exact hφ⟩)
theorem xj {n:Nat} {C:Addr} {ns:List Str} {T:FT} {te:TD} {t:TDs} {ρ:DE} {φ:EV->Prop} (r:EV) (rs:List EV) (h1:∀ ψ:EV->Prop,ψ r->te ρ ψ) (ho:∃ ds,r.d = .ob C ns ds) (h2:∀ ψ:List EV->Prop,ψ rs->t ρ ψ) (hn:Nat.beq (rs.length + 1) n = true) (hT:T (r.d :: rs.map EV.d) φ):Ko n C ns T te t ρ φ:=h1 _ ⟨ho,h2 _ ⟨hn,hT⟩⟩
theorem Tx (c:Int):∀ l:List Int,(l.map D.int).filterMap (fun d=>match d with | .int x=>some (D.int (x * c)) | _=>none) = (l.map (· * c)).map D.int
 | []=>rfl
 | x :: l=>by rw [List.map_cons,List.filterMap_cons_some (b:=.int (x * c)) (by rfl),Tx c l]; rfl
theorem ww {l:List Int} {q:Nat} {a:Int}:(l.map (· * a)).getD q 0 = l.getD q 0 * a:=by
 by_cases h:q < l.length
 ·simp [List.getD,h]
 ·simp [List.getD,h]
theorem vd {u v:List Int} {n:Nat} (hu:u.length = n + 1) (hv:v.length = n + 1) (a b:Int):HT.lexLt (u.map (· * a)) (v.map (· * b)) = true ↔ lxp n fun q=>v.getD q 0 * b - u.getD q 0 * a:=by
 rw [Zf (by rw [List.length_map,List.length_map,hu,hv])]
 unfold lxp
 refine ⟨fun ⟨k,hk,z,q⟩=>⟨k,?_,fun j hj=>?_,?_⟩,fun ⟨k,hk,z,q⟩=>⟨k,?_,fun j hj=>?_,?_⟩⟩
 ·rw [List.length_map] at hk; omega
 ·have:=z j hj; rw [ww,ww] at this; dsimp only; omega
 ·rw [ww,ww] at q; dsimp only; omega
 ·rw [List.length_map]; omega
 ·have:=z j hj; dsimp only at this; rw [ww,ww]; omega
 ·dsimp only at q; rw [ww,ww]; omega
theorem S2 {ui up uf:List Int} {n:Nat} (li:ui.length = n + 1) (lp:up.length = n + 1) (lf:uf.length = n + 1) {ci cp cf:Int} (hi:0 < ci) (hp:0 < cp) (hf:0 < cf) (h1:HT.lexLt (up.map (· * cf)) (uf.map (· * cp)) = true) (h2:HT.lexLt (ui.map (· * cf)) (uf.map (· * ci)) = false):HT.lexLt (ui.map (· * cp)) (up.map (· * ci)) = false:=by
 cases e:HT.lexLt (ui.map (· * cp)) (up.map (· * ci)) with
 | false=>rfl
 | true =>
  have a:=(vd li lp cp ci).mp e
  have b:=(vd lp lf cf cp).mp h1
  have c:=(vd li lf cf ci).mpr (Yv (c:=cp) hp (xb (fun q _=>by grind) (Yw (ul hf a) (ul hi b))))
  rw [c] at h2
  cases h2
theorem Ml {tc:TDb} {t1 t2:TDS} {ρ ρ':DE} {Z:DZ} (e:ρ = ρ') (h:sIf tc t1 t2 ρ' Z):sIf tc t1 t2 ρ Z:=e ▸ h
theorem V0 {i j:Nat} {a b:D} {ρ:DE} {ψ:DE->Prop} (h:ψ (setS (setS ρ i (dv a)) j (dv b))):gT2 i j (.tup [a,b]) ρ ψ:=h
theorem Sy (T:Tops mg) (O:CO K C zt) (F:Fun K "moved" "Search.moved" (mth 6) f fd) (hm:Meth K C "moved" f):FMD P w K mg base 1 C zt "moved" ["self", "line", "chosen", "by", "share"] (N2 C):=by
 have S:zp ["self", "line", "chosen", "by", "share"] ["self", "line", "chosen", "by", "share"] (zb (mth 6)):=⟨rfl,rfl,rfl,by decide +kernel,rfl,by decide +kernel,by decide +kernel⟩
 refine u9 F S (F.binds fun _ _ _ _ _ _ us hl=>(by obtain ⟨_,_,_,_,_,rfl⟩:=D4 hl; rfl)) hm (by decide) fun qZ A outer s H E ds φ hr hl hT=>?_
 have hu:=hr.units
 refine ⟨_,(zm (yd (xa (T:=["number", "other"]) (F:=["self", "by", "share"]) (js:=[0,3,4]) (Y1 T.zip (za (z9 1) (za (z9 2) zd))) (show zl (zb (mth 6)) _ ["number", "other"] ["self", "by", "share"] from ⟨rfl,by decide +kernel,by decide +kernel,by decide +kernel,by decide +kernel,by decide +kernel⟩) (.cons rfl (.cons rfl (.cons rfl .nil))) (by decide) (fun cl C fp s H=>(xv (K0:=K) (n:=2) (by rfl) (by rfl) (zw (zr (i:=0) (show ((["number", "other"]:List Str) ++ (["self", "by", "share"]:List Str)).Nodup by decide +kernel) rfl (by walk_at "o")) (zw (zr (i:=1) (show ((["number", "other"]:List Str) ++ (["self", "by", "share"]:List Str)).Nodup by decide +kernel) rfl (by walk_at "o")) xu)))) (t7 (yx ya (vj ya xr) (y9 (by decide)) (yx ya xr (y9 (by decide)) t8))) (xx 0 1) (fun cl C fp s H=>yn) (fun cl C fp s H=>(ut (qd (yk (z9 0) (z9 3)) (yk (z9 1) (z9 4))) (yf O (z9 2))))))),?_⟩
 obtain ⟨s1,x,y,p,q,rfl,hx,hy,hl,hp,hq,b0,hb,h⟩:=hT
 refine xt (yh (zipD (x.map D.int) (y.map D.int)) (fun ψ hψ=>Sl (x:=gD x) (y:=gD y) (fun ψ hψ=>hψ) (fun ψ hψ=>hψ) rfl rfl hψ) (mvF p q s1.b) (by rw [fy,List.length_map]; omega) (fun d hd=>?_) ?_)
 ·obtain ⟨a,c,ha,hc,rfl⟩:=Ud hd
  exact ⟨fun _=>yi (dv (.int (a * p - c * q))) (dv (.int s1.b)) (fun ψ hψ=>⟨mul4 (hx a ha) hp,mul4 (hy c hc) hq,hψ⟩) (fun ψ hψ=>fld (fun ψ hψ=>hψ) ix5 rfl hψ) ⟨fd4 b0 hb,trivial,rfl⟩,fun z=>(by cases z)⟩
 ·rw [Tw]
  exact ⟨kh _,h⟩
theorem R8 (T:Tops mg) (O:CO K C zt) (F:Fun K "ahead" "Search.ahead" (mth 8) f fd) (hm:Meth K C "ahead" f):FMD P w K mg base 1 C zt "ahead" ["self", "place", "first", "column"] (N6 C):=by
 have S:zp ["self", "place", "first", "column", "one"] ["self", "place", "first", "column"] (zb (mth 8)):=⟨rfl,rfl,rfl,by decide +kernel,rfl,by decide +kernel,by decide +kernel⟩
 refine u9 F S (F.binds fun _ _ _ _ _ _ us hl=>(by obtain ⟨_,_,_,_,rfl⟩:=D5 hl; rfl)) hm (by decide) fun qZ A outer s H E ds φ hr hl hT=>?_
 have hu:=hr.units
 refine ⟨_,(zg (h9 (T:=["number"]) (F:=["column", "first"]) (js:=[3,2]) 4 S.nd (vt (zn hu (yf O (z9 0)) (z9 1))) (show zl (zb (mth 8)) _ ["number"] ["column", "first"] from ⟨rfl,by decide +kernel,by decide +kernel,by decide +kernel,by decide +kernel,by decide +kernel⟩) (.cons rfl (.cons rfl .nil)) (by decide) (fun cl C fp s H=>(zr (i:=0) (show ((["number"]:List Str) ++ (["column", "first"]:List Str)).Nodup by decide +kernel) rfl (by walk_at "o"))) (y9 (by decide)) (yy 0) (fun cl C fp s H=>yn) (fun cl C fp s H=>(yk (z9 0) (zn hu (z9 1) (z9 2)))))
  (zm (yd (Fx hu (z9 4) (xa (T:=["number"]) (F:=["column", "place"]) (js:=[3,1]) (vt (zn hu (yf O (z9 0)) (z9 2))) (show zl (zb (mth 8)) _ ["number"] ["column", "place"] from ⟨rfl,by decide +kernel,by decide +kernel,by decide +kernel,by decide +kernel,by decide +kernel⟩) (.cons rfl (.cons rfl .nil)) (by decide) (fun cl C fp s H=>(zr (i:=0) (show ((["number"]:List Str) ++ (["column", "place"]:List Str)).Nodup by decide +kernel) rfl (by walk_at "o"))) (y9 (by decide)) (yy 0) (fun cl C fp s H=>yn) (fun cl C fp s H=>(yk (z9 0) (zn hu (z9 1) (z9 2))))))))),?_⟩
 obtain ⟨s1,i,j,c,rfl,hi,hj,o,hc,hx,h⟩:=hT
 obtain ⟨ei,li,si⟩:=o.lin hi
 obtain ⟨ej,lj,sj⟩:=o.lin hj
 have ti:∀ (k:Nat) (hk:k < s1.n),atI (s1.T.map gD) (k:Int) = some (gD (lin s1 k)):=fun k hk=>wz (by rw [List.getElem?_map,(o.lin hk).1]; rfl)
 have cc:∀ (k:Nat) (hk:k < s1.n),atI (c.map D.int) (k:Int) = some (.int (c.getD k 0)):=fun k hk=>wz (qc (by omega))
 have sc:∀ (k:Nat) (hk:k < s1.n),sh (c.getD k 0):=fun k hk=>hx _ (w5 (by omega))
 have nn:=o.n
 refine yg (xh (yh ((lin s1 i).map D.int) (fun ψ hψ=>cy (yi (dv (.lst (s1.T.map gD))) (dv (.int i)) (fun ψ hψ=>fld (fun ψ hψ=>hψ) ix3 rfl hψ) (fun ψ hψ=>hψ) (yo (ti i hi) ⟨trivial,hψ⟩))) (fun d=>match d with | .int x=>some (D.int (x * c.getD j 0)) | _=>none) (by rw [List.length_map,li]; omega) (fun d hd=>?_) ⟨trivial,?_⟩))
 ·obtain ⟨x,mx,rfl⟩:=List.mem_map.mp hd
  exact ⟨fun _=>yi (dv (.int x)) (dv (.int (c.getD j 0))) (fun ψ hψ=>hψ) (fun ψ hψ=>yi (dv (gD c)) (dv (.int j)) (fun ψ hψ=>hψ) (fun ψ hψ=>hψ) (yo (cc j hj) hψ)) ⟨mul4 (si x mx) (sc j hj),trivial,rfl⟩,fun z=>(by cases z)⟩
 rw [Tx]
 dsimp only
 refine xt (yi (dO (gD ((lin s1 i).map (· * c.getD j 0)))) (df (gD ((lin s1 j).map (· * c.getD i 0)))) (fun ψ hψ=>hψ) (fun ψ hψ=>yh ((lin s1 j).map D.int) (fun ψ hψ=>cy (yi (dv (.lst (s1.T.map gD))) (dv (.int j)) (fun ψ hψ=>fld (fun ψ hψ=>hψ) ix3 rfl hψ) (fun ψ hψ=>hψ) (yo (ti j hj) ⟨trivial,hψ⟩))) (fun d=>match d with | .int x=>some (D.int (x * c.getD i 0)) | _=>none) (by rw [List.length_map,lj]; omega) (fun d hd=>?_) (by rw [Tx]; exact hψ)) ⟨_,_,rfl,rfl,by rw [List.length_map,List.length_map,li,lj],trivial,h⟩)
 obtain ⟨x,mx,rfl⟩:=List.mem_map.mp hd
 exact ⟨fun _=>yi (dv (.int x)) (dv (.int (c.getD i 0))) (fun ψ hψ=>hψ) (fun ψ hψ=>yi (dv (gD c)) (dv (.int i)) (fun ψ hψ=>hψ) (fun ψ hψ=>hψ) (yo (cc i hi) hψ)) ⟨mul4 (sj x mx) (sc i hi),trivial,rfl⟩,fun z=>(by cases z)⟩
theorem bf (T:Tops mg) (O:CO K C zt) (Bb:FMD P w K mg base 1 C zt "ahead" ["self", "place", "first", "column"] (N6 C)) (F:Fun K "first_out" "Search.first_out" (mth 7) f fd) (hm:Meth K C "first_out" f):FMD P w K mg base 2 C zt "first_out" ["self", "column"] (N3 C):=by
 have S:zp ["self", "column", "first", "place", "number"] ["self", "column"] (zb (mth 7)):=⟨rfl,rfl,rfl,by decide +kernel,rfl,by decide +kernel,by decide +kernel⟩
 refine u9 F S (F.binds fun _ _ _ _ _ _ us hl=>(by obtain ⟨_,_,rfl⟩:=t6 hl; rfl)) hm (by decide) fun qZ A outer s H E ds φ hr hl hT=>?_
 have hu:=hr.units
 refine ⟨_,(zg (y0 2 S.nd qe)
  (zg (rq (xm T.enumerate (za (z9 1) zd)) (xv (K0:=K) (n:=2) (by rfl) (by rfl) (zw (zr (i:=3) S.nd rfl (by walk_at "o")) (zw (zr (i:=4) S.nd rfl (by walk_at "o")) xu))) (xx 3 4) (zm (wu (EW.et (Re (bj (z9 4) zc) (Xl (EW.et (ja (Kc (z9 2) qe) (j9 (t9 (v8 O Bb (hr.mono (by decide)) (z9 0) (za (z9 3) (za (z9 2) (za (z9 1) zd))))))))))) (zm (y0 2 S.nd (z9 3))) yz)))
  (zm (yd (z9 2))))),?_⟩
 obtain ⟨s1,c,rfl,o,hc,hx,⟨i0,hi0,c0⟩,h⟩:=hT
 have nn:=o.n
 refine yg ⟨trivial,?_⟩
 dsimp only
 refine yg (u4 (enD (c.map D.int)) (fun ψ hψ=>⟨trivial,hψ⟩) (fun i ρ=>∃ fd a b,((fd = .non /\ ∀ j,j < i->c.getD j 0 <= 0) \/ ∃ f:Nat,fd = .int f /\ f < i /\ f < s1.n /\ 0 < c.getD f 0 /\ ∀ j,j < i->0 < c.getD j 0->HT.lexLt ((lin s1 j).map (· * c.getD f 0)) ((lin s1 f).map (· * c.getD j 0)) = false) /\ ρ = [some (dv (sD C s1)),some (dv (gD c)),some (dv fd),a,b]) ⟨.non,none,none,.inl ⟨rfl,fun j hj=>absurd hj (by omega)⟩,rfl⟩ ?_ ?_)
 ·rintro i d _ hd ⟨fd,a,b,hf,rfl⟩
  obtain ⟨x,ex,rfl⟩:=fj hd
  have hi:i < c.length:=by have:=(List.getElem?_eq_some_iff.mp ex).1; simpa using this
  rw [qc hi] at ex
  cases ex
  refine V0 ?_
  refine Ml (ρ':=[some (dv (sD C s1)),some (dv (gD c)),some (dv fd),some (dv (.int (i:Nat))),some (dv (.int (c.getD i 0)))]) rfl ?_
  by_cases ci:0 < c.getD i 0
  ·have lt:decide ((0:Int) < c.getD i 0) = true:=decide_eq_true ci
   rcases hf with ⟨rfl,hf⟩ | ⟨f,rfl,f1,f2,f3,f4⟩
   ·refine va true (fun ψ hψ=>rk ⟨fun _=>⟨fun _=>hψ,fun z=>(by cases z)⟩,fun z=>(by rw [lt] at z; cases z)⟩) (fun _=>⟨trivial,.int (i:Nat),_,_,.inr ⟨i,rfl,by omega,by omega,ci,fun j hj cj=>?_⟩,rfl⟩) (fun z=>(by cases z))
    by_cases ji:j = i
    ·rw [ji]
     cases e:HT.lexLt ((lin s1 i).map (· * c.getD i 0)) ((lin s1 i).map (· * c.getD i 0)) with
     | false=>rfl
     | true =>
      obtain ⟨_,li,_⟩:=o.lin (i:=i) (by omega)
      exact absurd ((vd li li _ _).mp e) (S1 fun q _=>by omega)
    ·have:=hf j (by omega); omega
   ·obtain ⟨_,li,_⟩:=o.lin (i:=i) (by omega)
    obtain ⟨_,lf,_⟩:=o.lin f2
    refine va (HT.lexLt ((lin s1 i).map (· * c.getD f 0)) ((lin s1 f).map (· * c.getD i 0))) (fun ψ hψ=>rk ⟨fun _=>⟨fun z=>(by cases z),fun _=>?_⟩,fun z=>(by rw [lt] at z; cases z)⟩) (fun z=>?_) (fun z=>?_)
    ·refine xj (dv (sD C s1)) [dv (.int (i:Nat)),dv (.int (f:Nat)),dv (gD c)] (fun ψ hψ=>hψ) ⟨_,rfl⟩ (fun ψ hψ=>hψ) rfl ⟨s1,i,f,c,rfl,by omega,f2,o,hc,hx,hψ⟩
    ·refine ⟨trivial,.int (i:Nat),_,_,.inr ⟨i,rfl,by omega,by omega,ci,fun j hj cj=>?_⟩,rfl⟩
     by_cases ji:j = i
     ·rw [ji]
      cases e:HT.lexLt ((lin s1 i).map (· * c.getD i 0)) ((lin s1 i).map (· * c.getD i 0)) with
      | false=>rfl
      | true=>exact absurd ((vd li li _ _).mp e) (S1 fun q _=>by omega)
     ·obtain ⟨_,lj,_⟩:=o.lin (i:=j) (by omega)
      exact S2 lj li lf cj ci f3 z (f4 j (by omega) cj)
    ·refine vh ⟨.int f,_,_,.inr ⟨f,rfl,by omega,f2,f3,fun j hj cj=>?_⟩,rfl⟩
     by_cases ji:j = i
     ·rw [ji]; exact z
     ·exact f4 j (by omega) cj
  ·refine va false (fun ψ hψ=>rk ⟨fun z=>absurd (of_decide_eq_true z) ci,fun _=>hψ⟩) (fun z=>(by cases z)) (fun _=>vh ⟨fd,_,_,?_,rfl⟩)
   rcases hf with ⟨e,hf⟩ | ⟨f,e,f1,f2,f3,f4⟩
   ·refine .inl ⟨e,fun j hj=>?_⟩
    by_cases ji:j = i
    ·rw [ji]; omega
    ·exact hf j (by omega)
   ·refine .inr ⟨f,e,by omega,f2,f3,fun j hj cj=>?_⟩
    by_cases ji:j = i
    ·rw [ji] at cj; exact absurd cj ci
    ·exact f4 j (by omega) cj
 ·rintro _ ⟨fd,a,b,hf,rfl⟩
  rw [fh,List.length_map,hc] at hf
  rcases hf with ⟨_,hf⟩ | ⟨f,rfl,f1,f2,f3,f4⟩
  ·have:=hf i0 hi0; omega
  ·exact ⟨trivial,h f ⟨f2,f3,f4⟩⟩
theorem Sw (T:Tops mg) (O:CO K C zt) (Du:FD P w K mg base 2 "ratio" ["top", "bottom"] W3) (F:Fun K "value" "Search.value" (mth 11) f fd) (hm:Meth K C "value" f):FMD P w K mg base 3 C zt "value" ["self"] (N1 C):=by
 have S:zp ["self"] ["self"] (zb (mth 11)):=⟨rfl,rfl,rfl,by decide +kernel,rfl,by decide +kernel,by decide +kernel⟩
 refine u9 F S (F.binds fun _ _ _ _ _ _ us hl=>(by obtain ⟨_,rfl⟩:=sy hl; rfl)) hm (by decide) fun qZ A outer s H E ds φ hr hl hT=>?_
 have hu:=hr.units
 refine ⟨_,(zm (yd (zy Du (hr.mono (by decide)) (za (zn hu (yf O (z9 0)) zc) (za (yk (yf O (z9 0)) (yf O (z9 0))) zd))))),?_⟩
 obtain ⟨s1,rfl,o,h⟩:=hT
 have by_:sh (s1.yb:Int):=rm o.y2
 refine xt (xc [dv (.int (s1.g.getD 0 0)),dv (.int (s1.b * (s1.yb:Int)))] (fun ψ hψ=>zh _ _ (fun ψ hψ=>yi (dv (gD s1.g)) (dv (.int 0)) (fun ψ hψ=>fld (fun ψ hψ=>hψ) ix4 rfl hψ) (fun ψ hψ=>hψ) (yo (wz (i:=0) (qc (by rw [o.g]; omega))) hψ)) (fun ψ hψ=>zh _ [] (fun ψ hψ=>yi (dv (.int s1.b)) (dv (.int s1.yb)) (fun ψ hψ=>fld (fun ψ hψ=>hψ) ix5 rfl hψ) (fun ψ hψ=>fld (fun ψ hψ=>hψ) ix0 rfl hψ) ⟨mul4 o.b by_,hψ⟩) (fun ψ hψ=>hψ) hψ) hψ) rfl ⟨?_,PySem.intBits_mul_le (we o.b) (we by_),?_⟩)
 ·exact Int.mul_ne_zero o.b0 (by have:=o.y1; omega)
 ·exact ⟨⟨trivial,trivial,trivial⟩,h⟩
theorem Zv (T:Tops mg) (O:CO K C zt) (Du:FD P w K mg base 2 "ratio" ["top", "bottom"] W3) (F:Fun K "unknowns" "Search.unknowns" (mth 12) f fd) (hm:Meth K C "unknowns" f):FMD P w K mg base 3 C zt "unknowns" ["self"] (tUnk C):=by
 have S:zp ["self"] ["self"] (zb (mth 12)):=⟨rfl,rfl,rfl,by decide +kernel,rfl,by decide +kernel,by decide +kernel⟩
 refine u9 F S (F.binds fun _ _ _ _ _ _ us hl=>(by obtain ⟨_,rfl⟩:=sy hl; rfl)) hm (by decide) fun qZ A outer s H E ds φ hr hl hT=>?_
 have hu:=hr.units
 refine ⟨_,(zm (yd (xa (T:=["number"]) (F:=["self"]) (js:=[0]) (vt (tu (yf O (z9 0)) (rj zc) ur)) (show zl (zb (mth 12)) _ ["number"] ["self"] from ⟨rfl,by decide +kernel,by decide +kernel,by decide +kernel,by decide +kernel,by decide +kernel⟩) (.cons rfl .nil) (by decide) (fun cl C fp s H=>(zr (i:=0) (show ((["number"]:List Str) ++ (["self"]:List Str)).Nodup by decide +kernel) rfl (by walk_at "o"))) (y9 (by decide)) (yy 0) (fun cl C fp s H=>yn) (fun cl C fp s H=>(zy Du (hr.mono (by decide)) (za (z9 0) (za (yf O (z9 1)) zd))))))),?_⟩
 obtain ⟨s1,rfl,o,h⟩:=hT
 have nn:=o.n
 have e1:cutD (s1.g.map D.int) (some 1) none = (s1.g.drop 1).map D.int:=by
  rw [List.map_drop]
  exact DL.cutD_drop _ 1
 refine xt (yh ((s1.g.drop 1).map D.int) (fun ψ hψ=>?_) (fun d=>match d with | .int x=>some (rtD x s1.b) | _=>none) (by rw [List.length_map,List.length_drop,o.g]; omega) (fun d hd=>?_) ?_)
 ·refine cy (E2 (fld (fun ψ hψ=>hψ) ix4 rfl ?_))
  show True /\ ψ (cutD (s1.g.map D.int) (some 1) none)
  rw [e1]
  exact ⟨trivial,hψ⟩
 ·obtain ⟨x,hx,rfl⟩:=List.mem_map.mp hd
  exact ⟨fun _=>xc [dv (.int x),dv (.int s1.b)] (fun ψ hψ=>zh _ _ (fun ψ hψ=>hψ) (fun ψ hψ=>zh _ [] (fun ψ hψ=>fld (fun ψ hψ=>hψ) ix5 rfl hψ) (fun ψ hψ=>hψ) hψ) hψ) rfl ⟨o.b0,Nat.le_trans (we o.b) (by decide),trivial,rfl⟩,fun z=>(by cases z)⟩
 ·have e2:∀ l:List Int,(l.map D.int).filterMap (fun d=>match d with | .int x=>some (rtD x s1.b) | _=>none) = l.map fun x=>rtD x s1.b:=fun l=>by
   induction l with
   | nil=>rfl
   | cons x l ih=>rw [List.map_cons,List.filterMap_cons_some (b:=rtD x s1.b) (by rfl),ih]; rfl
  rw [e2]
  exact ⟨du _ _,h⟩
theorem Sx (T:Tops mg) (O:CO K C zt) (Du:FD P w K mg base 2 "ratio" ["top", "bottom"] W3) (F:Fun K "shown" "Search.shown" (mth 10) f fd) (hm:Meth K C "shown" f):FMD P w K mg base 3 C zt "shown" ["self", "weights", "bottom"] (Up C):=by
 have S:zp ["self", "weights", "bottom"] ["self", "weights", "bottom"] (zb (mth 10)):=⟨rfl,rfl,rfl,by decide +kernel,rfl,by decide +kernel,by decide +kernel⟩
 refine u9 F S (F.binds fun _ _ _ _ _ _ us hl=>(by obtain ⟨_,_,_,rfl⟩:=Ps hl; rfl)) hm (by decide) fun qZ A outer s H E ds φ hr hl hT=>?_
 have hu:=hr.units
 refine ⟨_,(zm (yd (xa (T:=["place", "row"]) (F:=["bottom", "weights"]) (js:=[2,1]) (xm T.enumerate (za (yf O (z9 0)) zd)) (show zl (zb (mth 10)) _ ["place", "row"] ["bottom", "weights"] from ⟨rfl,by decide +kernel,by decide +kernel,by decide +kernel,by decide +kernel,by decide +kernel⟩) (.cons rfl (.cons rfl .nil)) (by decide) (fun cl C fp s H=>(xv (K0:=K) (n:=2) (by rfl) (by rfl) (zw (zr (i:=0) (show ((["place", "row"]:List Str) ++ (["bottom", "weights"]:List Str)).Nodup by decide +kernel) rfl (by walk_at "o")) (zw (zr (i:=1) (show ((["place", "row"]:List Str) ++ (["bottom", "weights"]:List Str)).Nodup by decide +kernel) rfl (by walk_at "o")) xu)))) (t7 (yx ya (vj ya xr) (y9 (by decide)) (yx ya xr (y9 (by decide)) t8))) (xx 0 1) (fun cl C fp s H=>yn) (fun cl C fp s H=>(zy Du (hr.mono (by decide)) (za (yk (Kj hu (z9 3) (z9 0) zc) (zn hu (z9 1) zc)) (za (z9 2) zd))))))),?_⟩
 obtain ⟨s1,ks,vs,wt,bt,rfl,o,hw,b0,hb,h⟩:=hT
 have rn:=o.rn
 refine xt (yh (enD (s1.rows.map RowG.D)) (fun ψ hψ=>K7 (fun ψ hψ=>fld (fun ψ hψ=>hψ) ix1 rfl hψ) hψ) (shF wt bt) (by rw [fh,List.length_map]; omega) (fun d hd=>?_) ?_)
 ·obtain ⟨j,hj⟩:=List.getElem?_of_mem hd
  obtain ⟨x,ex,rfl⟩:=fj hj
  rw [List.getElem?_map] at ex
  cases er:s1.rows[j]? with
  | none=>rw [er] at ex; cases ex
  | some r =>
   rw [er] at ex
   cases ex
   have hj2:j < s1.rows.length:=(List.getElem?_eq_some_iff.mp er).1
   have oy:=(o.ro r (List.mem_of_getElem? er)).yb
   obtain ⟨w1,w2⟩:=hw j hj2
   refine ⟨fun _=>xc [dv (.int (wt j * (r.yb:Int))),dv (.int bt)] (fun ψ hψ=>zh _ _ (fun ψ hψ=>yi (dv (.int (wt j))) (dv (.int r.yb)) (fun ψ hψ=>⟨trivial,?_⟩) (fun ψ hψ=>hψ) ⟨mul4 w2 (rm oy),hψ⟩) (fun ψ hψ=>zh _ [] (fun ψ hψ=>hψ) (fun ψ hψ=>hψ) hψ) hψ) rfl ⟨b0,hb,trivial,rfl⟩,fun z=>(by cases z)⟩
   show ψ (dv ((vz ks vs (.inl ((j:Nat):Int))).getD (.int 0)))
   rw [w1]
   exact hψ
 ·unfold enD
  rw [Uy]
  exact ⟨uc wt bt _ _,h⟩
noncomputable def toX (s:SG):XS where
 d:=s.b
 L:=fun i q=>(lin s i).getD q 0
 g:=fun q=>s.g.getD q 0
 th:=fun i=>s.t.getD i 0
noncomputable def ms (s:SG) (k:Nat):Int:=mis s.n (colG s.rows) (bndG s.rows) (toX s) k
noncomputable def wgtL:List Nat->List Int->Nat->Int
 | t :: ts,x :: xs,i=>if t = i then x else wgtL ts xs i
 | _,_,_=>0
theorem S4:∀ (ts:List Nat) (xs:List Int) (i:Nat),(vz (ts.map fun t:Nat=>(.inl (t:Int):Key)) (xs.map D.int) (.inl (i:Int))).getD (.int 0) = .int (wgtL ts xs i)
 | [],[],_=>rfl
 | [],_ :: _,_=>rfl
 | t :: ts,[],_=>rfl
 | t :: ts,x :: xs,i=>by
  have ih:=S4 ts xs i
  show (if (Sum.inl (t:Int):Key) = Sum.inl (i:Int) then some (D.int x) else vz _ _ _).getD (.int 0) = .int (if t = i then x else wgtL ts xs i)
  by_cases e:t = i
  ·rw [if_pos (by rw [e]),if_pos e]; rfl
  ·rw [if_neg (fun h=>e (by have:=Sum.inl.inj h; omega)),if_neg e]; exact ih
theorem gq:∀ (ts:List Nat) (xs:List Int) (k i:Nat) (b:Int),ts.length = xs.length->(vz ((ts.map fun t:Nat=>(.inl (t:Int):Key)) ++ [.inl (k:Int)]) (xs.map D.int ++ [.int b]) (.inl (i:Int))).getD (.int 0) = .int (if i ∈ ts then wgtL ts xs i else if k = i then b else 0)
 | [],[],k,i,b,_=>by
  show (if (Sum.inl (k:Int):Key) = Sum.inl (i:Int) then some (D.int b) else none).getD (.int 0) = .int (if i ∈ ([]:List Nat) then wgtL [] [] i else if k = i then b else 0)
  rw [if_neg (show ¬ i ∈ ([]:List Nat) by simp)]
  by_cases e:k = i
  ·rw [if_pos (by rw [e]),if_pos e]; rfl
  ·rw [if_neg (fun h=>e (by have:=Sum.inl.inj h; omega)),if_neg e]; rfl
 | t :: ts,x :: xs,k,i,b,h=>by
  have ih:=gq ts xs k i b (by simpa using h)
  show (if (Sum.inl (t:Int):Key) = Sum.inl (i:Int) then some (D.int x) else vz _ _ _).getD (.int 0) = .int (if i ∈ t :: ts then (if t = i then x else wgtL ts xs i) else if k = i then b else 0)
  by_cases e:t = i
  ·rw [if_pos (by rw [e]),if_pos (e ▸ List.mem_cons_self),if_pos e]; rfl
  ·rw [if_neg (fun h=>e (by have:=Sum.inl.inj h; omega)),if_neg e]
   refine ih.trans ?_
   by_cases m:i ∈ ts
   ·rw [if_pos m,if_pos (List.mem_cons_of_mem _ m)]
   ·rw [if_neg m,if_neg (fun z=>(List.mem_cons.mp z).elim (fun z=>e z.symm) m)]
noncomputable def cz (s:SG):List Int:=s.T.map fun l=>l.getD 0 0
noncomputable def W2 (C:Addr):FT:=fun ds φ=>∃ s:SG,ds = [sD C s] /\ SSh s /\ s.t.Nodup /\ φ (df (.lst (shL (wgtL s.t (cz s)) (s.b * (s.yb:Int)) 0 s.rows)))
noncomputable def enW (s:SG) (k:Nat) (c:List Int) (i:Nat):Int:=if i ∈ s.t then wgtL s.t (c.map fun x=>-x) i else if k = i then s.b else 0
noncomputable def W4 (C:Addr):FT:=fun ds φ=>∃ (s:SG) (k:Nat) (c:List Int),ds = [sD C s,.int k,gD c] /\ SSh s /\ s.t.Nodup /\ c.length = s.n /\ (∀ x ∈ c,sh x) /\ k ∉ s.t /\ φ (df (.lst (shL (enW s k c) s.b 0 s.rows)))
noncomputable def Uo (C:Addr):FT:=fun ds φ=>∃ s:SG,ds = [sD C s] /\ SSh s /\ ((∀ k,k < s.rows.length + s.n->ms s k <= 0)->φ (dv .non)) /\ (∀ k,k < s.rows.length + s.n->0 < ms s k->φ (dv (.tup [.int (ms s k),.int k])))
theorem d5:∀ (ts:List Nat) (xs:List Int) (i:Nat),wgtL ts xs i = 0 \/ wgtL ts xs i ∈ xs
 | [],[],_=>.inl rfl
 | [],_ :: _,_=>.inl rfl
 | _ :: _,[],_=>.inl rfl
 | t :: ts,x :: xs,i=>by
  show (if t = i then x else wgtL ts xs i) = 0 \/ (if t = i then x else wgtL ts xs i) ∈ x :: xs
  split
  ·exact .inr List.mem_cons_self
  ·exact (d5 ts xs i).imp id (List.mem_cons_of_mem _)
theorem sh0:sh 0:=Nat.pow_pos (by decide)
theorem gw {t:List Nat} (h:t.Nodup):(t.map fun t:Nat=>(.inl (t:Int):Key)).Nodup:=by
 induction t with
 | nil=>exact List.nodup_nil
 | cons a t ih =>
  have nc:=List.nodup_cons.mp h
  refine List.nodup_cons.mpr ⟨fun z=>?_,ih nc.2⟩
  obtain ⟨b,hb,e⟩:=List.mem_map.mp z
  have:=Sum.inl.inj e
  exact nc.1 (by rw [show a = b by omega]; exact hb)
theorem Km {i:Nat} {tk te:TD} {ρ:DE} {Z:DZ} {ks:List Key} {ds:List D} (e:slot ρ i = some (dO (.dk ks ds))) (h:te ρ fun r=>tk ρ fun kr=>(match r.k with | .own=>False | _=>True) /\ ds.length <= 100000 /\ (match keyD kr.d with | some k=>Z.nx (setS ρ i (dO (.dk (kput ks k) (dput ks ds k r.d)))) | none=>False)):Z5 i tk te ρ Z:=by
 unfold Z5
 rw [e]
 exact h
theorem Va {te:TD} {ρ:DE} {φ:EV->Prop} (h:te ρ fun r=>sDictP [r.d] φ):dCB sDictP (vq te aNil) ρ φ:=h
theorem Xq {t:TDs} {ρ:DE} {φ:EV->Prop} (rs:List EV) (h:∀ ψ:List EV->Prop,ψ rs->t ρ ψ) (hs:uw rs = true) (hl:Nat.ble rs.length 1000 = true) (hφ:φ (dv (.tup (rs.map EV.d)))):dTup t ρ φ:=h _ ⟨hs,hl,hφ⟩
theorem E5 {op:D->(EV->Prop)->Prop} {te:TD} {ρ:DE} {φ:EV->Prop} (x:EV) (h:∀ ψ:EV->Prop,ψ x->te ρ ψ) (h2:op x.d φ):d1 op te ρ φ:=h _ h2
theorem j8 {te:TD} {ρ:DE} {φ:List D->Prop} {x:D} (h:∀ ψ:EV->Prop,ψ (dv x)->te ρ ψ) (hx:iR1 (vq (fun _ ψ=>ψ (dv x)) aNil) ρ φ):iR1 (vq te aNil) ρ φ:=h _ hx
theorem zipT:∀ (t:List Nat) (T:List (List Int)),t.length = T.length->(∀ l ∈ T,0 < l.length)->(zipD ((tD t).map D.int) (T.map gD)).filterMap (fun d=>match d with | .tup [k,.lst (x :: _)]=>some (D.tup [k,x]) | _=>none) = (List.zipWith (fun k v=>D.tup [k,v]) (t.map fun i:Nat=>D.int (i:Int)) ((T.map fun l=>l.getD 0 0).map D.int))
 | [],[],_,_=>rfl
 | a :: t,l :: T,h,hl=>by
  have ih:=zipT t T (by simpa using h) fun m hm=>hl m (List.mem_cons_of_mem _ hm)
  cases l with
  | nil=>exact absurd (hl [] List.mem_cons_self) (by simp)
  | cons x l =>
   unfold zipD tD at ih ⊢
   rw [List.map_cons,List.map_cons,List.map_cons,List.zipWith_cons_cons,List.filterMap_cons_some (b:=.tup [.int (a:Int),.int x]) (by rfl),ih]
   rfl
theorem zipC:∀ (t:List Nat) (c:List Int),(zipD ((tD t).map D.int) (c.map D.int)).filterMap (fun d=>match d with | .tup [k,.int x]=>some (D.tup [k,.int (-x)]) | _=>none) = (List.zipWith (fun k v=>D.tup [k,v]) (t.map fun i:Nat=>D.int (i:Int)) ((c.map fun x=>-x).map D.int))
 | [],_=>rfl
 | _ :: _,[]=>rfl
 | a :: t,x :: c=>by
  have ih:=zipC t c
  unfold zipD tD at ih ⊢
  rw [List.map_cons,List.map_cons,List.map_cons,List.zipWith_cons_cons,List.filterMap_cons_some (b:=.tup [.int (a:Int),.int (-x)]) (by rfl),ih]
  rfl
theorem c4:∀ (t:List Nat) (vs:List D),Wj (t.map fun t:Nat=>(.inl (t:Int):Key)) vs = List.zipWith (fun k v=>D.tup [k,v]) (t.map fun i:Nat=>D.int (i:Int)) vs
 | [],_=>rfl
 | _ :: _,[]=>rfl
 | a :: t,v :: vs=>by
  have ih:=c4 t vs
  unfold Wj at ih ⊢
  rw [List.map_cons,List.zip_cons_cons,List.map_cons,ih]
  rfl
theorem fx:∀ {x y:List D} {d:D},d ∈ zipD x y->∃ a c,a ∈ x /\ c ∈ y /\ d = .tup [a,c]
 | [],_,_,h=>by cases h
 | _ :: _,[],_,h=>by cases h
 | a :: x,c :: y,d,h=>by
  unfold zipD at h
  rw [List.zipWith_cons_cons] at h
  rcases List.mem_cons.mp h with rfl | h
  ·exact ⟨a,c,List.mem_cons_self,List.mem_cons_self,rfl⟩
  ·obtain ⟨a',c',h1,h2,e⟩:=fx (x:=x) (y:=y) h
   exact ⟨a',c',List.mem_cons_of_mem _ h1,List.mem_cons_of_mem _ h2,e⟩
theorem Rp:∀ (ks:List Key) (ds:List D) {k:Key} {d:D},k ∉ ks->ks.length = ds.length->dput ks ds k d = ds ++ [d]
 | [],[],_,_,_,_=>rfl
 | a :: ks,x :: ds,k,d,h,l=>by
  show (if a = k then d :: ds else x :: dput ks ds k d) = _
  rw [if_neg (fun z:a = k=>h (z ▸ List.mem_cons_self)),Rp ks ds (fun z=>h (List.mem_cons_of_mem _ z)) (by simpa using l)]
  rfl
noncomputable def WI (s:SG) (i:Nat) (fd:D):Prop:=(fd = .non /\ ∀ j,j < i->ms s j <= 0) \/ ∃ k,k < i /\ 0 < ms s k /\ fd = .tup [.int (ms s k),.int (k:Nat)]
theorem WI.form {s:SG} {i:Nat} {fd:D} (h:WI s i fd):fd = .non \/ ∃ u k,fd = .tup [.int u,k]:=by
 rcases h with ⟨e,_⟩ | ⟨k,_,_,e⟩
 ·exact .inl e
 ·exact .inr ⟨_,_,e⟩
theorem WI.skip {s:SG} {i:Nat} {fd:D} (h:WI s i fd) (q:ms s i <= 0 \/ fd ≠ .non):WI s (i + 1) fd:=by
 rcases h with ⟨e,hj⟩ | ⟨k,hk,hm,e⟩
 ·rcases q with q | q
  ·refine .inl ⟨e,fun j hj2=>?_⟩
   by_cases z:j = i
   ·rw [z]; exact q
   ·exact hj j (by omega)
  ·exact absurd e q
 ·exact .inr ⟨k,by omega,hm,e⟩
theorem tst (fd:D) (hfd:fd = .non \/ ∃ u k,fd = .tup [.int u,k]) (v:Int) {x0 x2 x3 x5:Option EV}:∃ b:Bool,(∀ ψ:Bool->Prop,ψ b->bAnd (tBo (d2 sGt (jy 4) (dC (D.int 0)))) (bOr (tBo (d2 sIs (jy 1) (dC D.non))) (tBo (d2 sGt (jy 4) (d2 sIxx (jy 1) (dC (D.int 0)))))) [x0,some (dv fd),x2,x3,some (dv (.int v)),x5] ψ) /\ (b = true->0 < v) /\ (b = false->v <= 0 \/ fd ≠ .non):=by
 by_cases hv:0 < v
 ·have no:∀ {p:Prop},decide ((0:Int) < v) = false->p:=fun z=>absurd hv (of_decide_eq_false z)
  rcases hfd with rfl | ⟨u,k,rfl⟩
  ·exact ⟨true,fun ψ hψ=>rk ⟨fun _=>⟨fun _=>hψ,fun z=>(by cases z)⟩,fun z=>no z⟩,fun _=>hv,fun z=>(by cases z)⟩
  ·exact ⟨decide (u < v),fun ψ hψ=>rk ⟨fun _=>⟨fun z=>(by cases z),fun _=>hψ⟩,fun z=>no z⟩,fun _=>hv,fun _=>.inr (by simp)⟩
 ·exact ⟨false,fun ψ hψ=>rk ⟨fun z=>absurd (of_decide_eq_true z) hv,fun _=>hψ⟩,fun z=>(by cases z),fun _=>.inl (by omega)⟩
theorem Xe (T:Tops mg) (O:CO K C zt) (C4:FMD P w K mg base 3 C zt "shown" ["self", "weights", "bottom"] (Up C)) (F:Fun K "weights" "Search.weights" (mth 13) f fd) (hm:Meth K C "weights" f):FMD P w K mg base 4 C zt "weights" ["self"] (W2 C):=by
 have S:zp ["self", "weights"] ["self"] (zb (mth 13)):=⟨rfl,rfl,rfl,by decide +kernel,rfl,by decide +kernel,by decide +kernel⟩
 refine u9 F S (F.binds fun _ _ _ _ _ _ us hl=>(by obtain ⟨_,rfl⟩:=sy hl; rfl)) hm (by decide) fun qZ A outer s H E ds φ hr hl hT=>?_
 have hu:=hr.units
 refine ⟨_,(zg (y0 1 S.nd (V8 T.dict (za (xa (T:=["thing", "line"]) (F:=[]) (js:=[]) (Y1 T.zip (za (yf O (z9 0)) (za (yf O (z9 0)) zd))) (show zl (zb (mth 13)) _ ["thing", "line"] [] from ⟨rfl,by decide +kernel,by decide +kernel,by decide +kernel,by decide +kernel,by decide +kernel⟩) .nil (by decide) (fun cl C fp s H=>(xv (K0:=K) (n:=2) (by rfl) (by rfl) (zw (zr (i:=0) (show ((["thing", "line"]:List Str) ++ ([]:List Str)).Nodup by decide +kernel) rfl (by walk_at "o")) (zw (zr (i:=1) (show ((["thing", "line"]:List Str) ++ ([]:List Str)).Nodup by decide +kernel) rfl (by walk_at "o")) xu)))) (t7 (yx ya (vj ya xr) (y9 (by decide)) (yx ya xr (y9 (by decide)) t8))) (xx 0 1) (fun cl C fp s H=>yn) (fun cl C fp s H=>(yv (za (z9 0) (za (zn hu (z9 1) zc) zd))))) zd)))
  (zm (yd (v8 O C4 (hr.mono (by decide)) (z9 0) (za (z9 1) (za (yk (yf O (z9 0)) (yf O (z9 0))) zd)))))),?_⟩
 obtain ⟨s1,rfl,o,nd,h⟩:=hT
 have nn:=o.n
 have lT:∀ l ∈ s1.T,0 < l.length:=fun l hl=>by rw [(o.L l hl).1]; omega
 have by_:sh (s1.yb:Int):=rm o.y2
 refine yg (xh (Va (yh (zipD ((tD s1.t).map D.int) (s1.T.map gD)) (fun ψ hψ=>Sl (x:=.lst ((tD s1.t).map D.int)) (y:=.lst (s1.T.map gD)) (fun ψ hψ=>fld (fun ψ hψ=>hψ) ix6 rfl hψ) (fun ψ hψ=>fld (fun ψ hψ=>hψ) ix3 rfl hψ) rfl rfl hψ) (fun d=>match d with | .tup [k,.lst (x :: _)]=>some (D.tup [k,x]) | _=>none) (by rw [fy,List.length_map,List.length_map,o.T]; omega) (fun d hd=>?_) ⟨s1.t.map fun t:Nat=>(.inl (t:Int):Key),(cz s1).map D.int,by rw [zipT _ _ (by rw [o.t,o.T]) lT,c4]; rfl,by unfold cz; rw [List.length_map,List.length_map,List.length_map,o.t,o.T],gw nd,trivial,?_⟩)))
 ·obtain ⟨x,y,_,hy,rfl⟩:=fx hd
  obtain ⟨l,hl,rfl⟩:=List.mem_map.mp hy
  cases l with
  | nil=>exact absurd (lT [] hl) (by simp)
  | cons a l=>exact ⟨fun _=>Xq [dv x,dv (.int a)] (fun ψ hψ=>zh _ _ (fun ψ hψ=>hψ) (fun ψ hψ=>zh _ [] (fun ψ hψ=>yi (dv (gD (a :: l))) (dv (.int 0)) (fun ψ hψ=>hψ) (fun ψ hψ=>hψ) (yo (wz (i:=0) rfl) hψ)) (fun ψ hψ=>hψ) hψ) hψ) rfl rfl ⟨trivial,rfl⟩,fun z=>(by cases z)⟩
 dsimp only
 refine xt (xj (dv (sD C s1)) [dO (.dk (s1.t.map fun t:Nat=>(.inl (t:Int):Key)) ((cz s1).map D.int)),dv (.int (s1.b * (s1.yb:Int)))] (fun ψ hψ=>hψ) ⟨_,rfl⟩ (fun ψ hψ=>zh _ _ (fun ψ hψ=>hψ) (fun ψ hψ=>zh _ [] (fun ψ hψ=>yi (dv (.int s1.b)) (dv (.int s1.yb)) (fun ψ hψ=>fld (fun ψ hψ=>hψ) ix5 rfl hψ) (fun ψ hψ=>fld (fun ψ hψ=>hψ) ix0 rfl hψ) ⟨mul4 o.b by_,hψ⟩) (fun ψ hψ=>hψ) hψ) hψ) rfl ⟨s1,_,_,wgtL s1.t (cz s1),s1.b * (s1.yb:Int),rfl,o,fun i hi=>⟨S4 _ _ _,?_⟩,Int.mul_ne_zero o.b0 (by have:=o.y1; omega),PySem.intBits_mul_le (we o.b) (we by_),uc _ _ _ _,h⟩)
 rcases d5 s1.t (cz s1) i with e | e
 ·rw [e]; exact sh0
 ·obtain ⟨l,hl,e2⟩:=List.mem_map.mp e
  rw [<- e2]
  exact (o.L l hl).2 _ (w5 (lT l hl))
theorem Xf (T:Tops mg) (O:CO K C zt) (C4:FMD P w K mg base 3 C zt "shown" ["self", "weights", "bottom"] (Up C)) (F:Fun K "endless" "Search.endless" (mth 9) f fd) (hm:Meth K C "endless" f):FMD P w K mg base 4 C zt "endless" ["self", "thing", "column"] (W4 C):=by
 have S:zp ["self", "thing", "column", "weights"] ["self", "thing", "column"] (zb (mth 9)):=⟨rfl,rfl,rfl,by decide +kernel,rfl,by decide +kernel,by decide +kernel⟩
 refine u9 F S (F.binds fun _ _ _ _ _ _ us hl=>(by obtain ⟨_,_,_,rfl⟩:=Ps hl; rfl)) hm (by decide) fun qZ A outer s H E ds φ hr hl hT=>?_
 have hu:=hr.units
 refine ⟨_,(zg (y0 3 S.nd (V8 T.dict (za (xa (T:=["other", "number"]) (F:=[]) (js:=[]) (Y1 T.zip (za (yf O (z9 0)) (za (z9 2) zd))) (show zl (zb (mth 9)) _ ["other", "number"] [] from ⟨rfl,by decide +kernel,by decide +kernel,by decide +kernel,by decide +kernel,by decide +kernel⟩) .nil (by decide) (fun cl C fp s H=>(xv (K0:=K) (n:=2) (by rfl) (by rfl) (zw (zr (i:=0) (show ((["other", "number"]:List Str) ++ ([]:List Str)).Nodup by decide +kernel) rfl (by walk_at "o")) (zw (zr (i:=1) (show ((["other", "number"]:List Str) ++ ([]:List Str)).Nodup by decide +kernel) rfl (by walk_at "o")) xu)))) (t7 (yx ya (vj ya xr) (y9 (by decide)) (yx ya xr (y9 (by decide)) t8))) (xx 0 1) (fun cl C fp s H=>yn) (fun cl C fp s H=>(yv (za (z9 0) (za (jd (z9 1)) zd))))) zd)))
  (zg (Mj 3 hu (z9 1) (yf O (z9 0)))
  (zm (yd (v8 O C4 (hr.mono (by decide)) (z9 0) (za (z9 3) (za (yf O (z9 0)) zd))))))),?_⟩
 obtain ⟨s1,k,c,rfl,o,nd,hc,hx,kt,h⟩:=hT
 have nn:=o.n
 have kn:(.inl (k:Int):Key) ∉ s1.t.map fun t:Nat=>(.inl (t:Int):Key):=fun z=>by
  obtain ⟨b,hb,e⟩:=List.mem_map.mp z
  have:=Sum.inl.inj e
  exact kt (by rw [show k = b by omega]; exact hb)
 have l2:(s1.t.map fun t:Nat=>(.inl (t:Int):Key)).length = ((c.map fun x=>-x).map D.int).length:=by rw [List.length_map,List.length_map,List.length_map,o.t,hc]
 refine yg (xh (Va (yh (zipD ((tD s1.t).map D.int) (c.map D.int)) (fun ψ hψ=>Sl (x:=.lst ((tD s1.t).map D.int)) (y:=gD c) (fun ψ hψ=>fld (fun ψ hψ=>hψ) ix6 rfl hψ) (fun ψ hψ=>hψ) rfl rfl hψ) (fun d=>match d with | .tup [k,.int x]=>some (D.tup [k,.int (-x)]) | _=>none) (by rw [fy,List.length_map,List.length_map,hc]; omega) (fun d hd=>?_) ⟨s1.t.map fun t:Nat=>(.inl (t:Int):Key),(c.map fun x=>-x).map D.int,by rw [zipC,c4],l2,gw nd,trivial,?_⟩)))
 ·obtain ⟨x,y,_,hy,rfl⟩:=fx hd
  obtain ⟨a,ha,rfl⟩:=List.mem_map.mp hy
  exact ⟨fun _=>Xq [dv x,dv (.int (-a))] (fun ψ hψ=>zh _ _ (fun ψ hψ=>hψ) (fun ψ hψ=>zh _ [] (fun ψ hψ=>E5 (dv (.int a)) (fun ψ hψ=>hψ) hψ) (fun ψ hψ=>hψ) hψ) hψ) rfl rfl ⟨trivial,rfl⟩,fun z=>(by cases z)⟩
 dsimp only
 refine yg (Km (ks:=s1.t.map fun t:Nat=>(.inl (t:Int):Key)) (ds:=(c.map fun x=>-x).map D.int) rfl (fld (fun ψ hψ=>hψ) ix5 rfl ⟨trivial,by rw [List.length_map,List.length_map,hc]; omega,?_⟩))
 rw [show keyD (dv (D.int (k:Int))).d = some (.inl (k:Int)) from rfl]
 dsimp only
 rw [show kput (s1.t.map fun t:Nat=>(.inl (t:Int):Key)) (.inl (k:Int)) = (s1.t.map fun t:Nat=>(.inl (t:Int):Key)) ++ [.inl (k:Int)] from if_neg kn,Rp _ _ kn l2]
 refine xt (xj (dv (sD C s1)) [dO (.dk ((s1.t.map fun t:Nat=>(.inl (t:Int):Key)) ++ [.inl (k:Int)]) ((c.map fun x=>-x).map D.int ++ [.int s1.b])),dv (.int s1.b)] (fun ψ hψ=>hψ) ⟨_,rfl⟩ (fun ψ hψ=>zh _ _ (fun ψ hψ=>hψ) (fun ψ hψ=>zh _ [] (fun ψ hψ=>fld (fun ψ hψ=>hψ) ix5 rfl hψ) (fun ψ hψ=>hψ) hψ) hψ) rfl ⟨s1,_,_,enW s1 k c,s1.b,rfl,o,fun i hi=>⟨gq _ _ _ _ _ (by rw [List.length_map,o.t,hc]),?_⟩,o.b0,Nat.le_trans (we o.b) (by decide),uc _ _ _ _,h⟩)
 unfold enW
 split
 ·rcases d5 s1.t (c.map fun x=>-x) i with e | e
  ·rw [e]; exact sh0
  ·obtain ⟨x,mx,e2⟩:=List.mem_map.mp e
   rw [<- e2]
   have:=hx x mx
   unfold sh at this ⊢
   rw [Int.natAbs_neg]
   exact this
 ·split
  ·exact o.b
  ·exact sh0
theorem Sv (T:Tops mg) (O:CO K C zt) (C5:FMD P w K mg base 1 C zt "grows" ["self", "line", "thing"] (Uq C)) (F:Fun K "worst" "Search.worst" (mth 3) f fd) (hm:Meth K C "worst" f):FMD P w K mg base 2 C zt "worst" ["self"] (Uo C):=by
 have S:zp ["self", "found", "thing", "row", "missed", "place"] ["self"] (zb (mth 3)):=⟨rfl,rfl,rfl,by decide +kernel,rfl,by decide +kernel,by decide +kernel⟩
 refine u9 F S (F.binds fun _ _ _ _ _ _ us hl=>(by obtain ⟨_,rfl⟩:=sy hl; rfl)) hm (by decide) fun qZ A outer s H E ds φ hr hl hT=>?_
 have hu:=hr.units
 refine ⟨_,(zg (y0 1 S.nd qe)
  (zg (rq (xm T.enumerate (za (yf O (z9 0)) zd)) (xv (K0:=K) (n:=2) (by rfl) (by rfl) (zw (zr (i:=2) S.nd rfl (by walk_at "o")) (zw (zr (i:=3) S.nd rfl (by walk_at "o")) xu))) (xx 2 3) (zg (y0 4 S.nd (qd (yk (zn hu (z9 3) zc) (yf O (z9 0))) (v8 O C5 (hr.mono (by decide)) (z9 0) (za (yf O (z9 0)) (za (z9 2) zd)))))
   (zm (wu (EW.et (Re (bj (z9 4) zc) (Xl (EW.et (ja (Kc (z9 1) qe) (j9 (bj (z9 4) (zn hu (z9 1) zc)))))))) (zm (y0 1 S.nd (yv (za (z9 4) (za (z9 2) zd))))) yz))))
  (zg (rq (wm T.range (za (yf O (z9 0)) zd)) (zr (i:=5) S.nd rfl (by walk_at "o")) (yy 5) (zg (y0 4 S.nd (jd (zn hu (yf O (z9 0)) (xn (z9 5) zc))))
   (zm (wu (EW.et (Re (bj (z9 4) zc) (Xl (EW.et (ja (Kc (z9 1) qe) (j9 (bj (z9 4) (zn hu (z9 1) zc)))))))) (zm (y0 1 S.nd (yv (za (z9 4) (za (xn (vv T.len (za (yf O (z9 0)) zd)) (z9 5)) zd))))) yz))))
  (zm (yd (z9 1)))))),?_⟩
 obtain ⟨s1,rfl,o,h0,h1⟩:=hT
 have nn:=o.n
 have rn:=o.rn
 refine yg ⟨trivial,?_⟩
 dsimp only
 refine yg (u4 (enD (s1.rows.map RowG.D)) (fun ψ hψ=>K7 (fun ψ hψ=>fld (fun ψ hψ=>hψ) ix1 rfl hψ) hψ) (fun i ρ=>∃ fd a b m,WI s1 i fd /\ ρ = [some (dv (sD C s1)),some (dv fd),a,b,m,none]) ⟨.non,none,none,none,.inl ⟨rfl,fun j hj=>absurd hj (by omega)⟩,rfl⟩ ?_ ?_)
 ·rintro i d _ hd ⟨fd,a,b,m,hW,rfl⟩
  obtain ⟨x,ex,rfl⟩:=fj hd
  rw [List.getElem?_map] at ex
  cases er:s1.rows[i]? with
  | none=>rw [er] at ex; cases ex
  | some r =>
   rw [er] at ex
   cases ex
   have hi:i < s1.rows.length:=(List.getElem?_eq_some_iff.mp er).1
   have ok:=o.ro r (List.mem_of_getElem? er)
   have em:r.B * s1.b - dotL s1.n s1.g (colG s1.rows i) = ms s1 i:=by unfold ms mis bndG; rw [er]; rfl
   refine V0 ?_
   refine N9 (ρ':=[some (dv (sD C s1)),some (dv fd),some (dv (.int (i:Nat))),some (dv r.D),m,none]) rfl ?_
   refine yg (xh (yi (dv (.int (r.B * s1.b))) (dv (.int (dotL s1.n s1.g (colG s1.rows i)))) (fun ψ hψ=>yi (dv (.int r.B)) (dv (.int s1.b)) (fun ψ hψ=>hψ) (fun ψ hψ=>fld (fun ψ hψ=>hψ) ix5 rfl hψ) ⟨mul4 ok.B o.b,hψ⟩) (fun ψ hψ=>xj (dv (sD C s1)) [dv (gD s1.g),dv (.int (i:Nat))] (fun ψ hψ=>hψ) ⟨_,rfl⟩ (fun ψ hψ=>zh _ _ (fun ψ hψ=>fld (fun ψ hψ=>hψ) ix4 rfl hψ) (fun ψ hψ=>zh _ [] (fun ψ hψ=>hψ) (fun ψ hψ=>hψ) hψ) hψ) rfl ⟨s1,s1.g,i,rfl,by omega,by omega,o.ro,o.g,o.gs,hψ⟩) ⟨trivial,?_⟩))
   dsimp only
   refine Ml (ρ':=[some (dv (sD C s1)),some (dv fd),some (dv (.int (i:Nat))),some (dv r.D),some (dv (.int (ms s1 i))),none]) (by rw [<- em]; rfl) ?_
   obtain ⟨c,t1,t2,t3⟩:=tst fd hW.form (ms s1 i) (x0:=some (dv (sD C s1))) (x2:=some (dv (.int (i:Nat)))) (x3:=some (dv r.D)) (x5:=none)
   refine va c t1 (fun z=>⟨rfl,rfl,trivial,.tup [.int (ms s1 i),.int (i:Nat)],_,_,_,.inr ⟨i,by omega,t2 z,rfl⟩,rfl⟩) (fun z=>vh ⟨fd,_,_,_,hW.skip (t3 z),rfl⟩)
 ·rintro _ ⟨fd,a,b,m,hW,rfl⟩
  rw [fh,List.length_map] at hW
  dsimp only
  refine yg (u4 (rngD 0 s1.n) (fun ψ hψ=>?_) (fun i ρ=>∃ fd m p,WI s1 (s1.rows.length + i) fd /\ ρ = [some (dv (sD C s1)),some (dv fd),a,b,m,p]) ⟨fd,m,none,hW,rfl⟩ ?_ ?_)
  ·refine j8 (x:=.int s1.n) (fun ψ hψ=>fld (fun ψ hψ=>hψ) ix2 rfl hψ) ?_
   exact ⟨by omega,by omega,hψ⟩
  ·rintro i d _ hd ⟨fd,m,p,hW,rfl⟩
   obtain ⟨hi,rfl⟩:=ka hd
   have em:-(s1.g.getD (i + 1) 0) = ms s1 (s1.rows.length + i):=by
    unfold ms mis bndG colG
    rw [List.getElem?_eq_none (by omega),Int.zero_mul]
    dsimp only
    rw [xq (k:=i) hi _ fun q _ hq=>by unfold unt; rw [if_neg (by omega),Int.mul_zero]]
    unfold unt
    rw [if_pos (by omega),Int.mul_one]
    show _ = 0 - s1.g.getD (i + 1) 0
    omega
   refine Xb ?_
   refine N9 (ρ':=[some (dv (sD C s1)),some (dv fd),a,b,m,some (dv (.int ((0:Int) + (i:Nat))))]) rfl ?_
   refine yg (xh (E5 (dv (.int (s1.g.getD (i + 1) 0))) (fun ψ hψ=>yi (dv (gD s1.g)) (dv (.int ((0:Int) + (i:Nat) + 1))) (fun ψ hψ=>fld (fun ψ hψ=>hψ) ix4 rfl hψ) (fun ψ hψ=>hψ) (yo (by rw [show ((0:Int) + (i:Nat) + 1) = ((i + 1:Nat):Int) by omega]; exact wz (qc (by rw [o.g]; omega))) hψ)) ⟨trivial,?_⟩))
   dsimp only
   refine Ml (ρ':=[some (dv (sD C s1)),some (dv fd),a,b,some (dv (.int (ms s1 (s1.rows.length + i)))),some (dv (.int ((0:Int) + (i:Nat))))]) (by rw [<- em]; rfl) ?_
   obtain ⟨c,t1,t2,t3⟩:=tst fd hW.form (ms s1 (s1.rows.length + i)) (x0:=some (dv (sD C s1))) (x2:=a) (x3:=b) (x5:=some (dv (.int ((0:Int) + (i:Nat)))))
   refine va c t1 (fun z=>xh (Xq [dv (.int (ms s1 (s1.rows.length + i))),dv (.int ((s1.rows.length + i:Nat):Int))] (fun ψ hψ=>zh _ _ (fun ψ hψ=>hψ) (fun ψ hψ=>zh _ [] (fun ψ hψ=>yi (dv (.int s1.rows.length)) (dv (.int ((0:Int) + (i:Nat)))) (fun ψ hψ=>lenv (s1.rows.map RowG.D) (fun ψ hψ=>fld (fun ψ hψ=>hψ) ix1 rfl hψ) (by rw [List.length_map]; exact hψ)) (fun ψ hψ=>hψ) (by show ψ (dv (.int ((s1.rows.length:Int) + ((0:Int) + (i:Nat))))); rw [show (s1.rows.length:Int) + ((0:Int) + (i:Nat)) = ((s1.rows.length + i:Nat):Int) by omega]; exact hψ)) (fun ψ hψ=>hψ) hψ) hψ) rfl rfl ⟨trivial,_,_,_,.inr ⟨s1.rows.length + i,by omega,t2 z,rfl⟩,rfl⟩)) (fun z=>vh ⟨fd,_,_,hW.skip (t3 z),rfl⟩)
  ·rintro _ ⟨fd,m,p,hW,rfl⟩
   rw [show (rngD 0 s1.n).length = s1.n from v7] at hW
   rcases hW with ⟨rfl,hj⟩ | ⟨k,hk,hm,rfl⟩
   ·exact ⟨trivial,h0 fun k hk=>hj k (by omega)⟩
   ·exact ⟨⟨trivial,trivial,trivial⟩,h1 k (by omega) hm⟩
noncomputable def Mb:FT:=w2 fun a b φ=>φ (dv (.int (Int.gcd a b)))
noncomputable def tLow:FT:=w2 fun a b φ=>0 < b /\ intBits b <= 8900 /\ φ (dv (rtD a b))
theorem Kr {x y:Int} {m:Nat} (h:x.natAbs <= y.natAbs) (hb:intBits y <= m):intBits x <= m:=PySem.intBits_le_of_natAbs h hb
structure NN (α β:Nat) (p:Int × Nat):Prop where
 a:p.1.natAbs < 2 ^ α
 b1:1 <= p.2
 b2:p.2 < 2 ^ β
noncomputable def N4:FT:=fun ds φ=>∃ (ns:List Int) (k:Nat),ds = [.scr ns,.int k] /\ k <= 1000 /\ ∀ x:Int,φ (dv (.int x))
theorem t5 {x y:Int} (hx:intBits x <= 900100) (hy:intBits y <= 900100):IntMulOk x y:=IntMulOk.of_bits (Nat.le_trans hx (by decide)) (Nat.le_trans hy (by decide))
noncomputable abbrev RR:=Int × Int
noncomputable def qD (p:RR):D:=.tup [.int p.1,.int p.2]
noncomputable def B9 (p:RR):Prop:=intBits p.1 <= 9000 /\ intBits p.2 <= 9000
theorem Zx (T:Tops mg) (F:Fun K "_law_whole" "_law_whole" (top 22) f fd) (m:mg "_law_whole" = some (.ref f)):FD P w K mg base 1 "_law_whole" ["_law_found"] bz:=by
 have S:zp ["_law_found"] ["_law_found"] (zb (top 22)):=⟨rfl,rfl,rfl,by decide +kernel,rfl,by decide +kernel,by decide +kernel⟩
 refine ue F S (F.binds fun _ _ _ _ _ _ us hl=>(by obtain ⟨_,rfl⟩:=sy hl; rfl)) m fun qZ A outer s H E ds φ hr hl hT=>?_
 have hu:=hr.units
 refine ⟨_,(zm (yd (Y4 (wo T.isinstance (za (z9 0) (za (Xm T.int Yb) zd))) (Y2 (Rh (wo T.isinstance (za (z9 0) (za (Xm T.bool fu) zd)))))))),?_⟩
 obtain ⟨a,rfl,h⟩:=Qe hT
 walk_at "dl"
 exact h
theorem jw (T:Tops mg) (F:Fun K "_law_divisor" "_law_divisor" (top 23) f fd) (m:mg "_law_divisor" = some (.ref f)):FD P w K mg base 1 "_law_divisor" ["_law_one", "_law_other"] Mb:=by
 have S:zp ["_law_one", "_law_other"] ["_law_one", "_law_other"] (zb (top 23)):=⟨rfl,rfl,rfl,by decide +kernel,rfl,by decide +kernel,by decide +kernel⟩
 refine ue F S (F.binds fun _ _ _ _ _ _ us hl=>(by obtain ⟨_,_,rfl⟩:=t6 hl; rfl)) m fun qZ A outer s H E ds φ hr hl hT=>?_
 have hu:=hr.units
 refine ⟨_,(zg (y0 0 S.nd (Rm T.abs (za (z9 0) zd)))
   (zg (y0 1 S.nd (Rm T.abs (za (z9 1) zd)))
   (zg (W8 (bj (z9 1) zc) (zm (Jx (i:=0) (j:=1) (by intro _ h; exact Hn (i:=0) (j:=1) rfl S.nd rfl rfl (by decide) rfl rfl h rfl) (za (z9 1) (za (wn (z9 0) (z9 1)) zd)))))
   (zm (yd (z9 0)))))),?_⟩
 obtain ⟨a,b,rfl,h⟩:=Qd hT
 walk_at "dl"
 rw [Q7,Q7]
 refine ⟨fun ρ=>∃ x y:Int,ρ = [some (dv (.int x)),some (dv (.int y))] /\ 0 <= x /\ 0 <= y /\ Int.gcd x y = Int.gcd a b,fun ρ=>match ρ with
  | [_,some ⟨_,.int y⟩]=>y.natAbs
  | _=>0,⟨_,_,rfl,by omega,by omega,by simp [Int.gcd]⟩,?_⟩
 rintro ρ ⟨x,y,rfl,hx,hy,e⟩
 walk_at "dl"
 refine ⟨fun hne=>⟨by omega,⟨_,_,rfl,hy,(gm x y (by omega)).1,?_⟩,Su x y (by omega)⟩,fun hz=>?_⟩
 ·rw [Wz]; exact e
 ·obtain rfl:y = 0:=by omega
  rw [Int.gcd_zero_right] at e
  rw [<- e,show ((x.natAbs:Nat):Int) = x by omega] at h
  exact h
theorem bg (T:Tops mg) (C6:FD P w K mg base 1 "_law_divisor" ["_law_one", "_law_other"] Mb) (F:Fun K "_law_lowest" "_law_lowest" (top 24) f fd) (m:mg "_law_lowest" = some (.ref f)):FD P w K mg base 2 "_law_lowest" ["_law_top", "_law_bottom"] tLow:=by
 have S:zp ["_law_top", "_law_bottom", "_law_by"] ["_law_top", "_law_bottom"] (zb (top 24)):=⟨rfl,rfl,rfl,by decide +kernel,rfl,by decide +kernel,by decide +kernel⟩
 refine ue F S (F.binds fun _ _ _ _ _ _ us hl=>(by obtain ⟨_,_,rfl⟩:=t6 hl; rfl)) m fun qZ A outer s H E ds φ hr hl hT=>?_
 have hu:=hr.units
 refine ⟨_,(zg (y0 2 S.nd (zy C6 (hr.mono (by decide)) (za (z9 0) (za (z9 1) zd))))
   (zm (yd (yv (za (ut (z9 0) (z9 2)) (za (ut (z9 1) (z9 2)) zd)))))),?_⟩
 obtain ⟨t,b,rfl,hb0,hb,h⟩:=Qd hT
 walk_at "dl"
 simp only [Mb,w2]
 have eg:(Int.gcd t b:Int) = sg t b:=by
  unfold sg
  rw [if_neg (by omega)]
 have hs:intBits (sg t b) <= 8900:=Kr (y:=b) (by
  have h1:(sg t b).natAbs ∣ b.natAbs:=by
   unfold sg
   rw [if_neg (by omega),Int.natAbs_natCast]
   exact Int.gcd_dvd_natAbs_right t b
  exact Nat.le_of_dvd (by omega) h1) hb
 walk_at "dl"
 rw [eg]
 exact ⟨fdOk (m:=8900) (Mf (by omega)) hs,fdOk (m:=8900) (Mf (by omega)) hs,h⟩
theorem Zy (T:Tops mg) (Do:FD P w K mg base 1 "_law_cell_at" ["_law_script", "_law_k"] Uu) (F:Fun K "_law_drawn" "_law_drawn" (top 21) f fd) (m:mg "_law_drawn" = some (.ref f)):FD P w K mg base 2 "_law_drawn" ["_law_script", "_law_k"] N4:=by
 have S:zp ["_law_script", "_law_k", "_law_cell"] ["_law_script", "_law_k"] (zb (top 21)):=⟨rfl,rfl,rfl,by decide +kernel,rfl,by decide +kernel,by decide +kernel⟩
 refine ue F S (F.binds fun _ _ _ _ _ _ us hl=>(by obtain ⟨_,_,rfl⟩:=t6 hl; rfl)) m fun qZ A outer s H E ds φ hr hl hT=>?_
 have hu:=hr.units
 refine ⟨_,(zg (wu (Og (xn (z9 1) zc) (vv T.len (za (z9 0) zd))) (zm (yd (zn hu (z9 0) (xn (z9 1) zc)))) yz)
   (zg (y0 2 S.nd (wn (zy Do (hr.mono (by decide)) (za (z9 0) (za zc zd))) zc))
   (zm (yd (wn (yk (xn (z9 2) (z9 1)) (xn zc (yk (yk zc (z9 1)) (z9 1)))) zc))))),?_⟩
 obtain ⟨ns,k,rfl,hk,h⟩:=hT
 have kb:intBits (k:Int) <= 64:=wy (by rw [Int.natAbs_natCast]; omega)
 by_cases hk1:k + 1 < ns.length
 ·refine yg (va true (fun ψ hψ=>?_) (fun _=>xt (yi (dv (.scr ns)) (dv (.int ((k:Int) + 1))) (fun ψ hψ=>hψ) (fun ψ hψ=>hψ) ?_)) (fun z=>(by cases z)))
  ·show ψ (decide ((k:Int) + 1 < (ns.length:Int)))
   rw [decide_eq_true (by omega)]
   exact hψ
  ·show match atI ns ((k:Int) + 1) with | some x=>_ | none=>False
   rw [Q6 (x:=ns[k + 1]) (by omega) (by rw [show ((k:Int) + 1).toNat = k + 1 by omega]; exact List.getElem?_eq_getElem hk1)]
   exact ⟨trivial,h _⟩
 ·refine yg (va false (fun ψ hψ=>?_) (fun z=>(by cases z)) (fun _=>vh ?_))
  ·show ψ (decide ((k:Int) + 1 < (ns.length:Int)))
   rw [decide_eq_false (by omega)]
   exact hψ
  dsimp only
  refine yg ⟨rfl,by decide,(show (2147483647:Int) ≠ 0 by decide),trivial,?_⟩
  dsimp only
  exact ⟨IntMulOk.of_right kb,IntMulOk.of_right kb,IntMulOk.of_right (wy (by
   have:2 * k * k <= 2000 * 1000:=Nat.mul_le_mul (by omega) hk
   show ((48271:Int) + 2 * (k:Int) * (k:Int)).natAbs < 2 ^ 64
   have e:((48271:Int) + 2 * (k:Int) * (k:Int)) = ((48271 + 2 * k * k:Nat):Int):=by rw [Int.natCast_add,Int.natCast_mul,Int.natCast_mul]; rfl
   rw [e,Int.natAbs_natCast]
   omega)),(show (2147483647:Int) ≠ 0 by decide),trivial,h _⟩
noncomputable def rr (p:Int × Nat):RR:=(p.1,(p.2:Int))
noncomputable def wD (l:List (RowG × RR)):D:=.lst (l.map fun x:RowG × RR=>qD x.2)
structure LR (n:Nat) (l:List (RowG × RR)):Prop where
 ln:l.length <= 49
 len:∀ x ∈ l,x.1.ns.length = n
 ns:∀ x ∈ l,∀ p ∈ x.1.ns,B9 (rr p)
 b:∀ x ∈ l,B9 (x.1.c,(x.1.d:Int))
 w:∀ x ∈ l,B9 x.2
theorem vm {l:List (Int × Nat)} {p:Nat} (h:p < l.length):l.getD p (0,1) ∈ l:=by
 have e:l.getD p (0,1) = l[p]:=by simp [List.getD,h]
 rw [e]
 exact List.getElem_mem h
noncomputable def tabF (c:List Int) (r:Nat) (b:Int) (ch:List Int):Nat->List (List Int)->List (List Int)
 | _,[]=>[]
 | i,l :: T=>(if i = r then ch else mvd (c.getD r 0) (c.getD i 0) b l ch) :: tabF c r b ch (i + 1) T
noncomputable def turned (s:SG) (m:Int) (c:List Int) (k r:Nat):SG:={ s with T:=tabF c r s.b (lin s r) 0 s.T,g:=mvd (c.getD r 0) (-m) s.b s.g (lin s r),b:=c.getD r 0,t:=s.t.set r k }
noncomputable def J9 (C:Addr):FTM:=fun o as φ=>∃ (s:SG) (m:Int) (k:Nat) (c:List Int),o = sD C s /\ as = [.tup [.int m,.int k],gD c] /\ SSh s /\ c.length = s.n /\ (∀ x ∈ c,sh x) /\ sh m /\ (∃ i,i < s.n /\ 0 < c.getD i 0) /\ ∀ r,OutL s c r->φ (dv .non) (sD C (turned s m c k r))
theorem wg {t u:TM} {ρ:DE} {Z:MZ} (h:t ρ { Z with nx:=fun ρ'=>u ρ' Z }):mSeq t u ρ Z:=h
theorem gn {t u:TM} {ρ ρ':DE} {Z:MZ} (e:ρ = ρ') (h:mSeq t u ρ' Z):mSeq t u ρ Z:=e ▸ h
noncomputable def tbF (c:List Int) (r:Nat) (b:Int) (ch:List Int):D->Option D
 | .tup [.int i,.lst l]=>match rb l with
  | some x=>some (gD (if i.toNat = r then ch else mvd (c.getD r 0) (c.getD i.toNat 0) b x ch))
  | none=>none
 | _=>none
theorem Uk (c:List Int) (r:Nat) (b:Int) (ch:List Int) (i:Nat) (l:List Int):tbF c r b ch (.tup [.int (i:Nat),gD l]) = some (gD (if i = r then ch else mvd (c.getD r 0) (c.getD i 0) b l ch)):=by
 show (match rb (l.map D.int) with | some x=>some (gD (if i = r then ch else mvd (c.getD r 0) (c.getD i 0) b x ch)) | none=>none) = _
 rw [ve]
theorem Ul (c:List Int) (r:Nat) (b:Int) (ch:List Int):∀ (T:List (List Int)) (i:Nat),(((T.map gD).zipIdx i).map fun q=>D.tup [.int (q.2:Nat),q.1]).filterMap (tbF c r b ch) = (tabF c r b ch i T).map gD
 | [],_=>rfl
 | l :: T,i=>by
  have ih:=Ul c r b ch T (i + 1)
  rw [List.map_cons,List.zipIdx_cons,List.map_cons,List.filterMap_cons_some (Uk c r b ch i l),ih]
  rfl
theorem Tu {p q b:Int} {x y:List Int} (h:x.length = y.length):(mvd p q b x y).length = x.length:=by unfold mvd; rw [List.length_zipWith]; omega
theorem Yl {c:List Int} {r:Nat} {b:Int} {ch:List Int} {n:Nat} (hc:ch.length = n):∀ {T:List (List Int)} {i:Nat},(∀ l ∈ T,l.length = n)->∀ l ∈ tabF c r b ch i T,l.length = n
 | [],_,_,l,h=>by cases h
 | x :: T,i,hT,l,h=>by
  rcases List.mem_cons.mp h with rfl | h
  ·split
   ·exact hc
   ·rw [Tu (by rw [hc]; exact hT x List.mem_cons_self)]; exact hT x List.mem_cons_self
  ·exact Yl hc (T:=T) (i:=i + 1) (fun l hl=>hT l (List.mem_cons_of_mem _ hl)) l h
theorem Jv {n:Nat} {l:List Int} (h:l.length ≠ n):sfD n (gD l):=by
 refine ⟨by rw [List.length_map]; exact h,?_⟩
 have:∀ l:List Int,sfDs n (l.map D.int):=fun l=>by
  induction l with
  | nil=>trivial
  | cons x l ih=>exact ⟨trivial,ih⟩
 exact this l
theorem qr (n:Nat):∀ l:List Int,sfDs n (l.map D.int)
 | []=>trivial
 | x :: l=>⟨trivial,qr n l⟩
theorem T2 {n:Nat}:∀ {T:List (List Int)},(∀ l ∈ T,l.length ≠ n)->sfDs n (T.map gD)
 | [],_=>trivial
 | x :: T,h=>⟨Jv (h x List.mem_cons_self),T2 fun l hl=>h l (List.mem_cons_of_mem _ hl)⟩
theorem K3 {n r:Nat} (h:r < n):ixN n (r:Int) = some r:=by
 unfold ixN
 rw [if_pos (by omega),if_pos (by omega)]
 rfl
theorem Ur (t:List Nat):(tD t).length = t.length:=List.length_map ..
theorem Oa (T:Tops mg) (O:CO K C zt) (Cc:FMD P w K mg base 2 C zt "first_out" ["self", "column"] (N3 C)) (Ci:FMD P w K mg base 1 C zt "moved" ["self", "line", "chosen", "by", "share"] (N2 C)) (F:Fun K "turn" "Search.turn" (mth 5) f fd) (hm:Meth K C "turn" f):FMM P w K mg base 4 C zt "turn" ["self", "found", "column"] (J9 C):=by
 have S:zp ["self", "found", "column", "place", "chosen", "by"] ["self", "found", "column"] (zb (mth 5)):=⟨rfl,rfl,rfl,by decide +kernel,rfl,by decide +kernel,by decide +kernel⟩
 refine Nr F S (F.binds fun _ _ _ _ _ _ us hl=>(by obtain ⟨_,_,_,rfl⟩:=Ps hl; rfl)) hm (by decide) fun qZ A outer s H E d0 ds φ hr hl hT=>?_
 have hu:=hr.units
 refine ⟨_,(wf (Z7 3 (by decide) S.nd (v8 O Cc (hr.mono (by decide)) (z9 0) (za (z9 2) zd)))
   (wf (Z7 4 (by decide) S.nd (zn hu (yf O (z9 0)) (z9 3)))
   (wf (Z7 5 (by decide) S.nd (zn hu (z9 2) (z9 3)))
   (wf (Te O (pv 0) (v8 O Ci (hr.mono (by decide)) (z9 0) (za (yf O (z9 0)) (za (z9 4) (za (z9 5) (za (jd (zn hu (z9 1) zc)) zd))))))
   (wf (Te O (pv 0) (xa (T:=["here", "line"]) (F:=["chosen", "place", "by", "self", "column"]) (js:=[4,3,5,0,2]) (xm T.enumerate (za (yf O (z9 0)) zd)) (show zl (zb (mth 5)) _ ["here", "line"] ["chosen", "place", "by", "self", "column"] from ⟨rfl,by decide +kernel,by decide +kernel,by decide +kernel,by decide +kernel,by decide +kernel⟩) (.cons rfl (.cons rfl (.cons rfl (.cons rfl (.cons rfl .nil))))) (by decide) (fun cl C fp s H=>(xv (K0:=K) (n:=2) (by rfl) (by rfl) (zw (zr (i:=0) (show ((["here", "line"]:List Str) ++ (["chosen", "place", "by", "self", "column"]:List Str)).Nodup by decide +kernel) rfl (by walk_at "o")) (zw (zr (i:=1) (show ((["here", "line"]:List Str) ++ (["chosen", "place", "by", "self", "column"]:List Str)).Nodup by decide +kernel) rfl (by walk_at "o")) xu)))) (t7 (yx ya (vj ya xr) (y9 (by decide)) (yx ya xr (y9 (by decide)) t8))) (xx 0 1) (fun cl C fp s H=>yn) (fun cl C fp s H=>(V7 (Y0 hu (z9 0) (z9 3)) (z9 2) (v8 O Ci (hr.mono (by decide)) (z9 5) (za (z9 1) (za (z9 2) (za (z9 4) (za (zn hu (z9 6) (z9 0)) zd)))))))))
   (wf (Te O (pv 0) (z9 5))
   (Wc (Hg O (pv 0) (z9 3) (zn hu (z9 1) zc))))))))),?_⟩
 obtain ⟨s1,m,k,c,rfl,rfl,o,hc,hx,hm,hex,h⟩:=hT
 have nn:=o.n
 refine wg (xj (dv (sD C s1)) [dv (gD c)] (fun ψ hψ=>hψ) ⟨_,rfl⟩ (fun ψ hψ=>zh _ [] (fun ψ hψ=>hψ) (fun ψ hψ=>hψ) hψ) rfl ⟨s1,c,rfl,o,hc,hx,hex,fun r hr=>⟨six s1,tD s1.t,rfl,trivial,?_⟩⟩)
 dsimp only
 obtain ⟨er,lr,sr⟩:=o.lin hr.lt
 have scr:sh (c.getD r 0):=hx _ (w5 (by have:=hr.lt; omega))
 have hrn:=hr.lt
 have ln:(lin s1 r).length ≠ (tD s1.t).length:=by rw [lr,Ur,o.t]; omega
 refine gn (ρ':=[some (dv (sD C s1)),some (dv (.tup [.int m,.int k])),some (dv (gD c)),some (dv (.int (r:Nat))),none,none]) rfl ?_
 refine wg (yi (dv (.lst (s1.T.map gD))) (dv (.int (r:Nat))) (fun ψ hψ=>fld (fun ψ hψ=>hψ) ix3 rfl hψ) (fun ψ hψ=>hψ) (yo (d:=gD (lin s1 r)) (wz (by rw [List.getElem?_map,er]; rfl)) ⟨six s1,tD s1.t,rfl,Jv ln,?_⟩))
 dsimp only
 refine gn (ρ':=[some (dv (sD C s1)),some (dv (.tup [.int m,.int k])),some (dv (gD c)),some (dv (.int (r:Nat))),some (dv (gD (lin s1 r))),none]) rfl ?_
 refine wg (yi (dv (gD c)) (dv (.int (r:Nat))) (fun ψ hψ=>hψ) (fun ψ hψ=>hψ) (yo (d:=.int (c.getD r 0)) (wz (qc (by omega))) ⟨six s1,tD s1.t,rfl,trivial,?_⟩))
 dsimp only
 refine gn (ρ':=[some (dv (sD C s1)),some (dv (.tup [.int m,.int k])),some (dv (gD c)),some (dv (.int (r:Nat))),some (dv (gD (lin s1 r))),some (dv (.int (c.getD r 0)))]) rfl ?_
 refine wg (xj (dv (sD C s1)) [dv (gD s1.g),dv (gD (lin s1 r)),dv (.int (c.getD r 0)),dv (.int (-m))] (fun ψ hψ=>hψ) ⟨_,rfl⟩ (fun ψ hψ=>zh _ _ (fun ψ hψ=>fld (fun ψ hψ=>hψ) ix4 rfl hψ) (fun ψ hψ=>zh _ _ (fun ψ hψ=>hψ) (fun ψ hψ=>zh _ _ (fun ψ hψ=>hψ) (fun ψ hψ=>zh _ [] (fun ψ hψ=>hψ) (fun ψ hψ=>hψ) hψ) hψ) hψ) hψ) rfl ⟨s1,s1.g,lin s1 r,c.getD r 0,-m,rfl,o.gs,sr,by rw [o.g]; omega,scr,by unfold sh; rw [Int.natAbs_neg]; exact hm,o.b0,o.b,six s1,tD s1.t,4,rfl,ix4,by show 4 < 6; decide,by decide,qr _ _,?_⟩)
 dsimp only
 refine gn (ρ':=[some (dv (sD C { s1 with g:=mvd (c.getD r 0) (-m) s1.b s1.g (lin s1 r) })),some (dv (.tup [.int m,.int k])),some (dv (gD c)),some (dv (.int (r:Nat))),some (dv (gD (lin s1 r))),some (dv (.int (c.getD r 0)))]) rfl ?_
 refine wg (yh (enD (s1.T.map gD)) (fun ψ hψ=>K7 (fun ψ hψ=>fld (fun ψ hψ=>hψ) ix3 rfl hψ) hψ) (tbF c r s1.b (lin s1 r)) (by rw [fh,List.length_map,o.T]; omega) (fun d hd=>?_) ?_)
 ·obtain ⟨i,hi⟩:=List.getElem?_of_mem hd
  obtain ⟨x,ex,rfl⟩:=fj hi
  rw [List.getElem?_map] at ex
  cases el:s1.T[i]? with
  | none=>rw [el] at ex; cases ex
  | some l =>
   rw [el] at ex
   cases ex
   have hin:i < s1.n:=by rw [<- o.T]; exact (List.getElem?_eq_some_iff.mp el).1
   have ol:=o.L l (List.mem_of_getElem? el)
   rw [Uk]
   refine ⟨fun _=>⟨yq ▸ trivial,yq ▸ trivial,fun e=>?_,fun e=>?_⟩,fun z=>(by cases z)⟩
   ·rw [uq,beq_iff_eq] at e
    exact ⟨trivial,by rw [if_pos (by omega)]⟩
   ·rw [uq,beq_eq_false_iff_ne] at e
    refine xj (dv (sD C { s1 with g:=mvd (c.getD r 0) (-m) s1.b s1.g (lin s1 r) })) [dv (gD l),dv (gD (lin s1 r)),dv (.int (c.getD r 0)),dv (.int (c.getD i 0))] (fun ψ hψ=>hψ) ⟨_,rfl⟩ (fun ψ hψ=>zh _ _ (fun ψ hψ=>hψ) (fun ψ hψ=>zh _ _ (fun ψ hψ=>hψ) (fun ψ hψ=>zh _ _ (fun ψ hψ=>hψ) (fun ψ hψ=>zh _ [] (fun ψ hψ=>yi (dv (gD c)) (dv (.int (i:Nat))) (fun ψ hψ=>hψ) (fun ψ hψ=>hψ) (yo (wz (qc (by omega))) hψ)) (fun ψ hψ=>hψ) hψ) hψ) hψ) hψ) rfl ⟨{ s1 with g:=mvd (c.getD r 0) (-m) s1.b s1.g (lin s1 r) },l,lin s1 r,c.getD r 0,c.getD i 0,rfl,ol.2,sr,by rw [ol.1]; omega,scr,hx _ (w5 (by omega)),o.b0,o.b,trivial,by rw [if_neg (by omega)]⟩
 have eT:(enD (s1.T.map gD)).filterMap (tbF c r s1.b (lin s1 r)) = (tabF c r s1.b (lin s1 r) 0 s1.T).map gD:=Ul _ _ _ _ _ _
 rw [eT]
 refine ⟨six { s1 with g:=mvd (c.getD r 0) (-m) s1.b s1.g (lin s1 r) },tD s1.t,3,rfl,ix3,by show 3 < 6; decide,by decide,T2 fun l hl=>?_,?_⟩
 ·rw [Yl lr (fun l hl=>(o.L l hl).1) l hl,Ur,o.t]; omega
 dsimp only
 refine gn (ρ':=[some (dv (sD C { s1 with g:=mvd (c.getD r 0) (-m) s1.b s1.g (lin s1 r),T:=tabF c r s1.b (lin s1 r) 0 s1.T })),some (dv (.tup [.int m,.int k])),some (dv (gD c)),some (dv (.int (r:Nat))),some (dv (gD (lin s1 r))),some (dv (.int (c.getD r 0)))]) rfl ?_
 refine wg (show jy 5 _ _ from ⟨six { s1 with g:=mvd (c.getD r 0) (-m) s1.b s1.g (lin s1 r),T:=tabF c r s1.b (lin s1 r) 0 s1.T },tD s1.t,5,rfl,ix5,by show 5 < 6; decide,by decide,trivial,?_⟩)
 dsimp only
 refine ⟨six { s1 with g:=mvd (c.getD r 0) (-m) s1.b s1.g (lin s1 r),T:=tabF c r s1.b (lin s1 r) 0 s1.T,b:=c.getD r 0 },tD s1.t,rfl,ix6,?_⟩
 refine ⟨(r:Int),r,(k:Int),rfl,rfl,K3 (by rw [Ur,o.t]; exact hrn),_,rfl,?_⟩
 have:=h r hr
 have e:(tD s1.t).set r (k:Int) = tD (s1.t.set r k):=by unfold tD; rw [List.map_set]
 rw [e]
 exact this
theorem Px {n N:Nat} {col:Nat->Nat->Int} {bnd cost:Nat->Int} {s s':XS} (I:IV n N col bnd cost s) (hd:s'.d = s.d) (hL:∀ i,i < n->∀ q,q <= n->s'.L i q = s.L i q) (hg:∀ q,q <= n->s'.g q = s.g q) (ht:∀ i,i < n->s'.th i = s.th i):IV n N col bnd cost s':=by
 obtain ⟨ε,e1,e2,e3⟩:=I.e
 refine ⟨by rw [hd]; exact I.d0,⟨ε,e1,?_,fun i hi q hq=>?_⟩,fun p hp q hq=>?_,fun i hi=>?_,fun q hq=>?_,fun i hi=>xb (fun q hq=>(hL i hi q hq).symm) (I.lx i hi),fun i hi=>by rw [ht i hi]; exact I.tN i hi⟩
 ·rw [hd,e2]
  exact congrArg _ (wq fun j hj p hp=>by rw [ht j hj])
 ·rw [hL i hi (q + 1) (by omega),e3 i hi q hq]
  refine congrArg _ (wq fun j hj p hp=>?_)
  unfold cset
  split
  ·rfl
  ·dsimp only; rw [ht j hj]
 ·rw [hd,<- I.BL p hp q hq]
  exact zf fun i hi=>by rw [ht i hi,hL i hi (q + 1) (by omega)]
 ·rw [hL i hi 0 (Nat.zero_le _),I.L0 i hi]
  exact zf fun q hq=>by rw [hL i hi (q + 1) (by omega)]
 ·rw [hg q hq,I.G q hq]
  exact zf fun i hi=>by rw [ht i hi,hL i hi q hq]
noncomputable def cst (cs:List Int):Nat->Int:=fun q=>cs.getD q 0
structure PBd (rows:List RowG) (n:Nat) (cs:List Int):Prop where
 nb:n <= 32
 rn:rows.length <= 100
 ro:∀ r ∈ rows,r.Ok n
 cl:cs.length = n
 c0:∀ x ∈ cs,0 <= x
 bd:∃ B X:Nat,1 <= B /\ 1 <= X /\ (∀ r ∈ rows,∀ q,(r.A q).natAbs <= B) /\ (∀ r ∈ rows,r.B.natAbs <= X) /\ (∀ x ∈ cs,x.natAbs <= X) /\ 10000 * ((32 * B) ^ n * X * X * B) < 2 ^ 4000
structure GI (cs:List Int) (s:SG):Prop where
 T:s.T.length = s.n
 L:∀ l ∈ s.T,l.length = s.n + 1
 g:s.g.length = s.n + 1
 t:s.t.length = s.n
 y1:1 <= s.yb
 y2:s.yb < 2 ^ 4000
 iv:IV s.n (s.rows.length + s.n) (colG s.rows) (bndG s.rows) (cst cs) (toX s)
theorem Xr {rows:List RowG} {B:Nat} (b1:1 <= B) (h:∀ r ∈ rows,∀ q,(r.A q).natAbs <= B) (k q:Nat):(colG rows k q).natAbs <= B:=by
 unfold colG
 cases e:rows[k]? with
 | none =>
  show (unt _ q).natAbs <= B
  unfold unt
  split
  ·exact b1
  ·exact Nat.zero_le _
 | some r=>exact h r (List.mem_of_getElem? e) q
theorem Xv {rows:List RowG} {X:Nat} (h:∀ r ∈ rows,r.B.natAbs <= X) (k:Nat):(bndG rows k).natAbs <= X:=by
 unfold bndG
 cases e:rows[k]? with
 | none=>exact Nat.zero_le _
 | some r=>exact h r (List.mem_of_getElem? e)
theorem Kp {cs:List Int} {X:Nat} (h:∀ x ∈ cs,x.natAbs <= X) (q:Nat):(cst cs q).natAbs <= X:=by
 unfold cst
 by_cases e:q < cs.length
 ·exact h _ (w5 e)
 ·rw [show cs.getD q 0 = 0 by simp [List.getD,e]]; exact Nat.zero_le _
theorem sw {x y:Int} {A B:Nat} (hx:x.natAbs <= A) (hy:y.natAbs <= B):(x * y).natAbs <= A * B:=by rw [Int.natAbs_mul]; exact Nat.mul_le_mul hx hy
theorem GI.short {cs:List Int} {s:SG} (P:PBd s.rows s.n cs) (G:GI cs s):sh s.b /\ (∀ i,i < s.n->∀ q,q <= s.n->sh ((lin s i).getD q 0)) /\ (∀ q,q <= s.n->sh (s.g.getD q 0)) /\ (∀ k,sh (ms s k)) /\ (∀ k i,i < s.n->sh (kol s.n (colG s.rows) (toX s) k i)):=by
 obtain ⟨B,X,b1,x1,hA,hB,hC,big⟩:=P.bd
 have nn:=P.nb
 have I:=G.iv
 obtain ⟨d1,L1⟩:=I.bits nn b1 fun k _ p _=>Xr b1 hA k p
 change s.b.natAbs <= _ at d1
 change ∀ i,i < s.n->∀ q,q < s.n->((lin s i).getD (q + 1) 0).natAbs <= _ at L1
 generalize eM:(32 * B) ^ s.n = M at d1 L1 big
 have m1:1 <= M:=by rw [<- eM]; exact Nat.pow_pos (by omega)
 have L0:∀ i,i < s.n->((lin s i).getD 0 0).natAbs <= s.n * (M * X):=fun i hi=>by
  have e:=I.L0 i hi
  change (lin s i).getD 0 0 = sm s.n fun q=>(lin s i).getD (q + 1) 0 * cst cs q at e
  rw [e]
  exact h7 fun q hq=>sw (L1 i hi q hq) (Kp hC q)
 have G1:∀ q,q < s.n->(s.g.getD (q + 1) 0).natAbs <= s.n * (X * M):=fun q hq=>by
  have e:=I.G (q + 1) (by omega)
  change s.g.getD (q + 1) 0 = sm s.n fun i=>bndG s.rows _ * (lin s i).getD (q + 1) 0 at e
  rw [e]
  exact h7 fun i hi=>sw (Xv hB _) (L1 i hi q hq)
 have G0:(s.g.getD 0 0).natAbs <= s.n * (X * (s.n * (M * X))):=by
  have e:=I.G 0 (Nat.zero_le _)
  change s.g.getD 0 0 = sm s.n fun i=>bndG s.rows _ * (lin s i).getD 0 0 at e
  rw [e]
  exact h7 fun i hi=>sw (Xv hB _) (L0 i hi)
 have K1:∀ k i,i < s.n->(kol s.n (colG s.rows) (toX s) k i).natAbs <= s.n * (M * B):=fun k i hi=>h7 fun q hq=>sw (L1 i hi q hq) (Xr b1 hA k q)
 have M1:∀ k,(ms s k).natAbs <= X * M + s.n * (s.n * (X * M) * B):=fun k=>by
  have a:(bndG s.rows k * s.b).natAbs <= X * M:=sw (Xv hB k) d1
  have b:(sm s.n fun q=>s.g.getD (q + 1) 0 * colG s.rows k q).natAbs <= s.n * (s.n * (X * M) * B):=h7 fun q hq=>sw (G1 q hq) (Xr b1 hA k q)
  show (bndG s.rows k * s.b - sm s.n fun q=>s.g.getD (q + 1) 0 * colG s.rows k q).natAbs <= _
  omega
 have p1:M <= M * X * X * B:=by
  have:=Nat.le_mul_of_pos_right (M * X * X) (show 0 < B from b1)
  have:=Nat.le_mul_of_pos_right (M * X) (show 0 < X from x1)
  have:=Nat.le_mul_of_pos_right M (show 0 < X from x1)
  omega
 have p2:M * X <= M * X * X * B:=by
  have:=Nat.le_mul_of_pos_right (M * X * X) (show 0 < B from b1)
  have:=Nat.le_mul_of_pos_right (M * X) (show 0 < X from x1)
  omega
 have p3:M * X * X <= M * X * X * B:=Nat.le_mul_of_pos_right _ b1
 have p4:M * X * B <= M * X * X * B:=Nat.mul_le_mul_right _ (Nat.le_mul_of_pos_right _ x1)
 have p5:M * B <= M * X * X * B:=Nat.mul_le_mul_right _ (by have:=Nat.le_mul_of_pos_right (M * X) (show 0 < X from x1); have:=Nat.le_mul_of_pos_right M (show 0 < X from x1); omega)
 have nW:∀ w,s.n * w <= 32 * w:=fun w=>Nat.mul_le_mul_right w nn
 generalize M * X * X * B = W at *
 have q1:s.n * (M * X) <= 32 * W:=Nat.le_trans (nW _) (Nat.mul_le_mul_left _ p2)
 have q2:s.n * (X * M) <= 32 * W:=by rw [Nat.mul_comm X]; exact q1
 have q3:s.n * (X * (s.n * (M * X))) <= 1024 * W:=by
  have:X * (s.n * (M * X)) <= 32 * (M * X * X):=by
   rw [Nat.mul_comm X,show s.n * (M * X) * X = s.n * (M * X * X) by rw [Nat.mul_assoc]]
   exact nW _
  have:=nW (X * (s.n * (M * X)))
  omega
 have q4:s.n * (M * B) <= 32 * W:=Nat.le_trans (nW _) (Nat.mul_le_mul_left _ p5)
 have q5:s.n * (s.n * (X * M) * B) <= 1024 * W:=by
  have:s.n * (X * M) * B <= 32 * (M * X * B):=by
   rw [Nat.mul_comm X,Nat.mul_assoc]
   exact nW _
  have:=nW (s.n * (X * M) * B)
  omega
 have q6:X * M <= W:=by rw [Nat.mul_comm]; exact p2
 unfold sh
 refine ⟨by omega,fun i hi q hq=>?_,fun q hq=>?_,fun k=>by have:=M1 k; omega,fun k i hi=>by have:=K1 k i hi; omega⟩
 ·cases q with
  | zero=>have:=L0 i hi; omega
  | succ q=>have:=L1 i hi q (by omega); omega
 ·cases q with
  | zero=>omega
  | succ q=>have:=G1 q (by omega); omega
theorem qv {l:List Int} {x:Int} (h:x ∈ l):∃ q,q < l.length /\ x = l.getD q 0:=by
 obtain ⟨q,hq⟩:=List.getElem?_of_mem h
 obtain ⟨a,b⟩:=List.getElem?_eq_some_iff.mp hq
 exact ⟨q,a,by simp [List.getD,hq]⟩
theorem GI.ssh {cs:List Int} {s:SG} (P:PBd s.rows s.n cs) (G:GI cs s):SSh s:=by
 obtain ⟨h1,h2,h3,_,_⟩:=G.short P
 have nn:=P.nb
 refine ⟨by omega,G.T,fun l hl=>⟨G.L l hl,fun x hx=>?_⟩,G.g,fun x hx=>?_,h1,by have:=G.iv.d0; change 0 < s.b at this; omega,G.t,P.ro,P.rn,G.y1,G.y2⟩
 ·obtain ⟨i,hi⟩:=List.getElem?_of_mem hl
  obtain ⟨q,hq,e⟩:=qv hx
  have hin:i < s.n:=by rw [<- G.T]; exact (List.getElem?_eq_some_iff.mp hi).1
  have el:l = lin s i:=by unfold lin; simp [List.getD,hi]
  rw [e,el]
  exact h2 i hin q (by rw [G.L l hl] at hq; omega)
 ·obtain ⟨q,hq,e⟩:=qv hx
  rw [e]
  exact h3 q (by rw [G.g] at hq; omega)
noncomputable def colL (s:SG) (k:Nat):List Int:=s.T.map fun l=>dotL s.n l (colG s.rows k)
theorem GI.cole {cs:List Int} {s:SG} (G:GI cs s) (k:Nat) {i:Nat} (hi:i < s.n):(colL s k).getD i 0 = kol s.n (colG s.rows) (toX s) k i:=by
 have hT:i < s.T.length:=by rw [G.T]; exact hi
 unfold colL
 have e:(s.T.map fun l=>dotL s.n l (colG s.rows k)).getD i 0 = dotL s.n (s.T[i]) (colG s.rows k):=by simp [List.getD,hT]
 have e2:lin s i = s.T[i]:=by unfold lin; simp [List.getD,hT]
 rw [e,<- e2]
 rfl
theorem GI.nodup {cs:List Int} {s:SG} (G:GI cs s):s.t.Nodup:=by
 refine List.pairwise_iff_getElem.mpr fun i j hi hj ij e=>?_
 have hi':i < s.n:=by rw [<- G.t]; exact hi
 have hj':j < s.n:=by rw [<- G.t]; exact hj
 have:=G.iv.dist hi' hj' (by show s.t.getD i 0 = s.t.getD j 0; simp [List.getD,hi,hj,e])
 omega
theorem GI.notin {cs:List Int} {s:SG} (G:GI cs s) {k:Nat} (hm:0 < ms s k):k ∉ s.t:=fun z=>by
 obtain ⟨j,hj⟩:=List.getElem?_of_mem z
 obtain ⟨hl,e⟩:=List.getElem?_eq_some_iff.mp hj
 have h0:=G.iv.mis0 (j:=j) (by rw [<- G.t]; exact hl)
 rw [show (toX s).th j = k by show s.t.getD j 0 = k; simp [List.getD,hj]] at h0
 unfold ms at hm
 omega
theorem Tv {p q b:Int} {x y:List Int} {i:Nat} (hx:i < x.length) (hy:i < y.length):(mvd p q b x y).getD i 0 = (x.getD i 0 * p - y.getD i 0 * q).fdiv b:=by
 unfold mvd
 simp [List.getD,List.getElem?_zipWith,hx,hy]
theorem Um (c:List Int) (r:Nat) (b:Int) (ch:List Int):∀ (T:List (List Int)) (i j:Nat),j < T.length->(tabF c r b ch i T).getD j [] = if i + j = r then ch else mvd (c.getD r 0) (c.getD (i + j) 0) b (T.getD j []) ch
 | [],_,_,h=>by cases h
 | l :: T,i,0,_=>rfl
 | l :: T,i,j + 1,h=>by
  have ih:=Um c r b ch T (i + 1) j (by simpa using h)
  show (tabF c r b ch (i + 1) T).getD j [] = _
  rw [ih,show i + 1 + j = i + (j + 1) by omega]
  rfl
theorem h6 (c:List Int) (r:Nat) (b:Int) (ch:List Int):∀ (T:List (List Int)) (i:Nat),(tabF c r b ch i T).length = T.length
 | [],_=>rfl
 | l :: T,i=>by show _ + 1 = _; rw [h6 c r b ch T]; rfl
theorem GI.trn1 {cs:List Int} {s:SG} (G:GI cs s) {k r:Nat} (hk:k < s.rows.length + s.n) (hm:0 < ms s k) (O:OutL s (colL s k) r):GI cs (turned s (ms s k) (colL s k) k r) /\ gt s.n (toX (turned s (ms s k) (colL s k) k r)) (toX s):=by
 have hr:=O.lt
 have lr:(lin s r).length = s.n + 1:=by
  have hT:r < s.T.length:=by rw [G.T]; exact hr
  have e:lin s r = s.T[r]:=by unfold lin; simp [List.getD,hT]
  rw [e]; exact G.L _ (List.getElem_mem hT)
 have li:∀ i,i < s.n->(lin s i).length = s.n + 1:=fun i hi=>by
  have hT:i < s.T.length:=by rw [G.T]; exact hi
  have e:lin s i = s.T[i]:=by unfold lin; simp [List.getD,hT]
  rw [e]; exact G.L _ (List.getElem_mem hT)
 have cr:=G.cole k hr
 have Ox:Out s.n (colG s.rows) (toX s) k r:=⟨hr,by rw [<- cr]; exact O.pos,fun i hi ci h=>by
  have e1:=G.cole k hi
  have c2:0 < (colL s k).getD i 0:=by rw [e1]; exact ci
  have:=(vd (li i hi) lr ((colL s k).getD r 0) ((colL s k).getD i 0)).mpr (by rw [cr,e1]; exact h)
  rw [O.low i hi c2] at this
  cases this⟩
 obtain ⟨I2,gt2⟩:=G.iv.turn Ox hk hm
 have eL:∀ i,i < s.n->∀ q,q <= s.n->(toX (turned s (ms s k) (colL s k) k r)).L i q = (trn s.n (colG s.rows) (bndG s.rows) (toX s) k r).L i q:=fun i hi q hq=>by
  show ((tabF (colL s k) r s.b (lin s r) 0 s.T).getD i []).getD q 0 = if i = r then (lin s r).getD q 0 else ((lin s i).getD q 0 * kol s.n (colG s.rows) (toX s) k r - (lin s r).getD q 0 * kol s.n (colG s.rows) (toX s) k i).fdiv s.b
  rw [Um _ _ _ _ _ _ _ (by rw [G.T]; exact hi),Nat.zero_add]
  by_cases e:i = r
  ·rw [if_pos e,if_pos e]
  ·rw [if_neg e,if_neg e,Tv (by show q < (lin s i).length; rw [li i hi]; omega) (by rw [lr]; omega),cr,G.cole k hi]
   rfl
 have eg:∀ q,q <= s.n->(toX (turned s (ms s k) (colL s k) k r)).g q = (trn s.n (colG s.rows) (bndG s.rows) (toX s) k r).g q:=fun q hq=>by
  show (mvd ((colL s k).getD r 0) (-(ms s k)) s.b s.g (lin s r)).getD q 0 = _
  rw [Tv (by rw [G.g]; omega) (by rw [lr]; omega),cr]
  rfl
 have et:∀ i,i < s.n->(toX (turned s (ms s k) (colL s k) k r)).th i = (trn s.n (colG s.rows) (bndG s.rows) (toX s) k r).th i:=fun i hi=>by
  show (s.t.set r k).getD i 0 = if i = r then k else s.t.getD i 0
  have hl:i < s.t.length:=by rw [G.t]; exact hi
  by_cases e:i = r
  ·subst e
   rw [if_pos rfl]
   simp [List.getD,hl]
  ·rw [if_neg e]
   simp [List.getD,List.getElem?_set_ne (fun z=>e z.symm)]
 have ed:(toX (turned s (ms s k) (colL s k) k r)).d = (trn s.n (colG s.rows) (bndG s.rows) (toX s) k r).d:=cr
 refine ⟨⟨?_,?_,?_,?_,G.y1,G.y2,Px I2 ed eL eg et⟩,?_⟩
 ·exact (h6 ..).trans G.T
 ·exact fun l hl=>Yl lr (fun l hl=>G.L l hl) l hl
 ·show (mvd _ _ _ s.g (lin s r)).length = s.n + 1
  rw [Tu (by rw [G.g,lr])]; exact G.g
 ·show (s.t.set r k).length = s.n
  rw [List.length_set]; exact G.t
 ·unfold gt
  rw [ed]
  exact xb (fun q hq=>by rw [eg q hq]) gt2
noncomputable def tGo (C:Addr):FTM:=fun o as φ=>∃ (cs:List Int) (s0:SG),o = sD C s0 /\ as = [] /\ PBd s0.rows s0.n cs /\ GI cs s0 /\
 (∀ s:SG,s.rows = s0.rows->s.n = s0.n->s.yb = s0.yb->GI cs s->(∀ k,k < s.rows.length + s.n->ms s k <= 0)->φ (dv .non) (sD C s)) /\
 (∀ (s:SG) (k:Nat),s.rows = s0.rows->s.n = s0.n->s.yb = s0.yb->GI cs s->k < s.rows.length + s.n->0 < ms s k->(∀ i,i < s.n->kol s.n (colG s.rows) (toX s) k i <= 0)->φ (df (.lst (shL (enW s k (colL s k)) s.b 0 s.rows))) (sD C s))
noncomputable def FW (s:SG) (f:D):Prop:=(f = .non /\ ∀ k,k < s.rows.length + s.n->ms s k <= 0) \/ ∃ k,k < s.rows.length + s.n /\ 0 < ms s k /\ f = .tup [.int (ms s k),.int (k:Nat)]
noncomputable def mea2 (cs:List Int) (s:SG):Nat:=mea s.n (s.rows.length + s.n) (colG s.rows) (bndG s.rows) (cst cs) (toX s)
noncomputable def GP (C:Addr) (cs:List Int) (s0:SG):Nat->DE->Prop:=fun m ρ=>∃ s f x,s.rows = s0.rows /\ s.n = s0.n /\ s.yb = s0.yb /\ GI cs s /\ FW s f /\ mea2 cs s = m /\ ρ = [some (dv (sD C s)),some (dv f),x]
theorem Ey {tc:TDb} {t1 t2:TM} {ρ:DE} {Z:MZ} (b:Bool) (h:∀ ψ:Bool->Prop,ψ b->tc ρ ψ) (h1:b = true->t1 ρ Z) (h2:b = false->t2 ρ Z):mIf tc t1 t2 ρ Z:=h _ ⟨h1,h2⟩
theorem Kv {tc:TD} {ρ:DE} {ψ:Bool->Prop} (bs:List Bool) (h:∀ φ:EV->Prop,φ (df (.lst (bs.map D.bl)))->tc ρ φ) (hψ:ψ (bs.all id)):tTru (dCB (T8 fun bs=>bs.all id) (vq tc aNil)) ρ ψ:=h _ (by
 show (match blsD (bs.map D.bl) with | some bs=>_ | none=>False:Prop)
 rw [Vf]
 exact hψ)
theorem Lo {ρ:DE} {Z:MZ} (h:Z.nx ρ):mNil ρ Z:=h
theorem Wy {C:Addr} {s:SG} (o:SSh s) {φ:EV->Prop} (h:∀ f,FW s f->φ (dv f)):Uo C [sD C s] φ:=⟨s,rfl,o,fun a=>h _ (.inl ⟨rfl,a⟩),fun k hk hm=>h _ (.inr ⟨k,hk,hm,rfl⟩)⟩
theorem Gw (l:List Int):(l.map D.int).filterMap (fun d=>match d with | .int x=>some (D.bl (decide (x <= 0))) | _=>none) = (l.map fun x=>decide (x <= 0)).map D.bl:=by
 induction l with
 | nil=>rfl
 | cons x l ih=>rw [List.map_cons,List.filterMap_cons_some (b:=.bl (decide (x <= 0))) (by rfl),ih]; rfl
noncomputable def coF (n:Nat) (c:Nat->Int):D->Option D
 | .lst l=>match rb l with
  | some x=>some (.int (dotL n x c))
  | none=>none
 | _=>none
theorem Kq (n:Nat) (c:Nat->Int) (T:List (List Int)):(T.map gD).filterMap (coF n c) = (T.map fun l=>dotL n l c).map D.int:=by
 induction T with
 | nil=>rfl
 | cons l T ih =>
  have e:coF n c (gD l) = some (.int (dotL n l c)):=by
   show (match rb (l.map D.int) with | some x=>some (D.int (dotL n x c)) | none=>none) = _
   rw [ve]
  rw [List.map_cons,List.filterMap_cons_some e,ih]
  rfl
theorem Fu (T:Tops mg) (O:CO K C zt) (Cz:FMM P w K mg base 4 C zt "turn" ["self", "found", "column"] (J9 C)) (Cj:FMD P w K mg base 2 C zt "worst" ["self"] (Uo C)) (C5:FMD P w K mg base 1 C zt "grows" ["self", "line", "thing"] (Uq C)) (B0:FMD P w K mg base 4 C zt "endless" ["self", "thing", "column"] (W4 C)) (F:Fun K "go" "Search.go" (mth 2) f fd) (hm:Meth K C "go" f):FMM P w K mg base 5 C zt "go" ["self"] (tGo C):=by
 have S:zp ["self", "found", "column"] ["self"] (zb (mth 2)):=⟨rfl,rfl,rfl,by decide +kernel,rfl,by decide +kernel,by decide +kernel⟩
 refine Nr F S (F.binds fun _ _ _ _ _ _ us hl=>(by obtain ⟨_,rfl⟩:=sy hl; rfl)) hm (by decide) fun qZ A outer s H E d0 ds φ hr hl hT=>?_
 have hu:=hr.units
 refine ⟨_,(wf (Z7 1 (by decide) S.nd (tw O Cj (hr.mono (by decide)) (z9 0)))
   (wf (P4 (V4 (z9 1) qe) (wf (Vp (T:=["line"]) (F:=["self", "found"]) (js:=[0,1]) 2 (by decide) S.nd (vt (yf O (z9 0))) (show zl (zb (mth 2)) _ ["line"] ["self", "found"] from ⟨rfl,by decide +kernel,by decide +kernel,by decide +kernel,by decide +kernel,by decide +kernel⟩) (.cons rfl (.cons rfl .nil)) (by decide) (fun cl C fp s H=>(zr (i:=0) (show ((["line"]:List Str) ++ (["self", "found"]:List Str)).Nodup by decide +kernel) rfl (by walk_at "o"))) (y9 (by decide)) (yy 0) (fun cl C fp s H=>yn) (fun cl C fp s H=>(v8 O C5 (hr.mono (by decide)) (z9 1) (za (z9 0) (za (zn hu (z9 2) zc) zd)))))
    (wf (Ej (t9 (Kk T.all (za (xa (T:=["number"]) (F:=[]) (js:=[]) (vt (z9 2)) (show zl (zb (mth 2)) _ ["number"] [] from ⟨rfl,by decide +kernel,by decide +kernel,by decide +kernel,by decide +kernel,by decide +kernel⟩) .nil (by decide) (fun cl C fp s H=>(zr (i:=0) (show ((["number"]:List Str) ++ ([]:List Str)).Nodup by decide +kernel) rfl (by walk_at "o"))) (y9 (by decide)) (yy 0) (fun cl C fp s H=>yn) (fun cl C fp s H=>(Dh (z9 0) zc))) zd))) (Wc (Nc (v8 O B0 (hr.mono (by decide)) (z9 0) (za (zn hu (z9 1) zc) (za (z9 2) zd))))) Hh)
    (wf (P5 O Cz (hr.mono (by decide)) (pv 0) (pv 1) (pv 2))
    (Wc (Z7 1 (by decide) S.nd (tw O Cj (hr.mono (by decide)) (z9 0))))))))
   (Wc (Nc qe)))),?_⟩
 obtain ⟨cs,s0,rfl,rfl,P0,G0,h0,h1⟩:=hT
 have fsafe:∀ {s:SG} {f:D},FW s f->safe (tD s.t).length (dv f):=fun {s f} hf=>by
  rcases hf with ⟨rfl,_⟩ | ⟨k,_,_,rfl⟩
  ·trivial
  ·exact ⟨trivial,trivial,trivial⟩
 refine wg (xj (dv (sD C s0)) [] (fun ψ hψ=>hψ) ⟨_,rfl⟩ (fun ψ hψ=>hψ) rfl (Wy (G0.ssh P0) fun f hf=>⟨six s0,tD s0.t,rfl,fsafe hf,?_⟩))
 dsimp only
 refine wg ⟨GP C cs s0,⟨_,s0,f,none,rfl,rfl,rfl,G0,hf,rfl,rfl⟩,?_⟩
 rintro m _ ⟨s1,f1,x,e1,e2,e3,G,hf1,rfl,rfl⟩
 have P:PBd s1.rows s1.n cs:=by rw [e1,e2]; exact P0
 have o:=G.ssh P
 have nn:=o.n
 obtain ⟨_,_,_,shm,shk⟩:=G.short P
 rcases hf1 with ⟨rfl,met⟩ | ⟨k,hk,hm,rfl⟩
 ·exact ⟨fun z=>(by cases z),fun _=>⟨trivial,_,rfl,h0 s1 e1 e2 e3 G met⟩⟩
 refine ⟨fun _=>?_,fun z=>(by cases z)⟩
 have cl:(colL s1 k).length = s1.n:=by unfold colL; rw [List.length_map]; exact G.T
 have csh:∀ x ∈ colL s1 k,sh x:=fun x hx=>by
  obtain ⟨q,hq,e⟩:=qv hx
  rw [e,G.cole k (by omega)]
  exact shk k q (by omega)
 refine wg (yh (s1.T.map gD) (fun ψ hψ=>cy (fld (fun ψ hψ=>hψ) ix3 rfl ⟨trivial,hψ⟩)) (coF s1.n (colG s1.rows k)) (by rw [List.length_map,G.T]; omega) (fun d hd=>?_) ?_)
 ·obtain ⟨l,hl,rfl⟩:=List.mem_map.mp hd
  refine ⟨fun _=>xj (dv (sD C s1)) [dv (gD l),dv (.int k)] (fun ψ hψ=>hψ) ⟨_,rfl⟩ (fun ψ hψ=>zh _ _ (fun ψ hψ=>hψ) (fun ψ hψ=>zh _ [] (fun ψ hψ=>hψ) (fun ψ hψ=>hψ) hψ) hψ) rfl ⟨s1,l,k,rfl,hk,by omega,o.ro,(o.L l hl).1,(o.L l hl).2,trivial,?_⟩,fun z=>(by cases z)⟩
  show (match rb (l.map D.int) with | some x=>some (D.int (dotL s1.n x (colG s1.rows k))) | none=>none) = _
  rw [ve]
 rw [Kq]
 refine ⟨six s1,tD s1.t,rfl,qr _ _,?_⟩
 dsimp only
 refine gn (ρ':=[some (dv (sD C s1)),some (dv (.tup [.int (ms s1 k),.int (k:Nat)])),some (dv (gD (colL s1 k)))]) rfl ?_
 refine wg (Ey (((colL s1 k).map fun x=>decide (x <= 0)).all id) (fun ψ hψ=>?_) (fun z=>?_) (fun z=>?_))
 ·refine Kv ((colL s1 k).map fun x=>decide (x <= 0)) (fun φ hφ=>yh ((colL s1 k).map D.int) (fun ψ hψ=>⟨trivial,hψ⟩) (fun d=>match d with | .int x=>some (D.bl (decide (x <= 0))) | _=>none) (by rw [List.length_map,cl]; omega) (fun d hd=>?_) (by rw [Gw]; exact hφ)) hψ
  obtain ⟨x,hx,rfl⟩:=List.mem_map.mp hd
  exact ⟨fun _=>⟨trivial,rfl⟩,fun z=>(by cases z)⟩
 ·have hz:∀ i,i < s1.n->kol s1.n (colG s1.rows) (toX s1) k i <= 0:=fun i hi=>by
   rw [<- G.cole k hi]
   have:=List.all_eq_true.mp z (decide ((colL s1 k).getD i 0 <= 0)) (List.mem_map.mpr ⟨_,w5 (by omega),rfl⟩)
   exact of_decide_eq_true this
  exact xj (dv (sD C s1)) [dv (.int k),dv (gD (colL s1 k))] (fun ψ hψ=>hψ) ⟨_,rfl⟩ (fun ψ hψ=>zh _ _ (fun ψ hψ=>hψ) (fun ψ hψ=>zh _ [] (fun ψ hψ=>hψ) (fun ψ hψ=>hψ) hψ) hψ) rfl ⟨s1,k,colL s1 k,rfl,o,G.nodup,cl,csh,G.notin hm,uc _ _ _ _,_,rfl,h1 s1 k e1 e2 e3 G hk hm hz⟩
 ·have hz:∃ i,i < s1.n /\ 0 < (colL s1 k).getD i 0:=by
   obtain ⟨b,hb,hf⟩:=List.all_eq_false.mp z
   obtain ⟨x,hx,rfl⟩:=List.mem_map.mp hb
   obtain ⟨q,hq,e⟩:=qv hx
   refine ⟨q,by omega,?_⟩
   rw [<- e]
   by_cases zz:x <= 0
   ·exact absurd (decide_eq_true zz) hf
   ·omega
  refine Lo ?_
  dsimp only
  refine wg ⟨by decide,by decide,_,_,_,rfl,rfl,rfl,s1,ms s1 k,k,colL s1 k,rfl,rfl,o,cl,csh,shm k,hz,fun r hr=>?_⟩
  obtain ⟨G2,gt2⟩:=G.trn1 hk hm hr
  have ml:mea2 cs (turned s1 (ms s1 k) (colL s1 k) k r) < mea2 cs s1:=Gn G.iv G2.iv gt2
  dsimp only
  show mSet _ _ _ _ _ [some (dv (sD C (turned s1 (ms s1 k) (colL s1 k) k r))),some (dv (.tup [.int (ms s1 k),.int (k:Nat)])),some (dv (gD (colL s1 k)))] _
  exact xj (dv (sD C (turned s1 (ms s1 k) (colL s1 k) k r))) [] (fun ψ hψ=>hψ) ⟨_,rfl⟩ (fun ψ hψ=>hψ) rfl (Wy (GI.ssh (s:=turned s1 (ms s1 k) (colL s1 k) k r) P G2) fun f2 hf2=>⟨six (turned s1 (ms s1 k) (colL s1 k) k r),tD (s1.t.set r k),rfl,fsafe hf2,_,ml,turned s1 (ms s1 k) (colL s1 k) k r,f2,_,e1,e2,e3,G2,hf2,rfl,rfl⟩)
noncomputable def fN3:List Str:=["by", "rows", "many"]
noncomputable def fN4:List Str:=["by", "rows", "many", "table"]
noncomputable def fN5:List Str:=["by", "rows", "many", "table", "goal"]
noncomputable def fN6:List Str:=["by", "rows", "many", "table", "goal", "bottom"]
theorem Vc {ns ms:List Str} (O:CO K C ns) (h:∀ f ∈ ms,f ∈ ns):CO K C ms:=⟨O.cl,fun f hf=>O.na f (h f hf)⟩
theorem fldn {ns:List Str} {te:TD} {ρ:DE} {f:Str} {i:Nat} {ds:List D} {x:D} {φ:EV->Prop} {C:Addr} (h1:∀ ψ:EV->Prop,ψ (dv (.ob C ns ds))->te ρ ψ) (e:ixF ns f = some i) (ex:ds[i]? = some x) (h:φ (dv x)):dFld C ns f te ρ φ:=h1 _ ⟨rfl,rfl,by
 rw [e]
 show match ds[i]? with | some x=>φ (dv x) | none=>False
 rw [ex]
 exact h⟩
noncomputable def unL (n p:Nat):List Int:=(List.range n).map fun o=>if o = p then 1 else 0
noncomputable def N5 (C:Addr):FT:=fun ds φ=>∃ (x y:D) (n p:Nat),ds = [.ob C fN3 [x,y,.int n],.int p] /\ n <= 100 /\ φ (df (gD (unL n p)))
noncomputable def Ut:FT:=fun ds φ=>∃ n:Int,ds = [.int n] /\ n <= 24 /\ φ (dv .non)
noncomputable def unF (p:Nat):D->Option D
 | .int i=>some (.int (if i = (p:Int) then 1 else 0))
 | _=>none
theorem M7 (p:Nat) (n:Nat):(rngD 0 n).filterMap (unF p) = (unL n p).map D.int:=by
 unfold rngD unL
 rw [List.map_map]
 induction n with
 | zero=>rfl
 | succ n ih =>
  rw [List.range_succ,List.map_append,List.map_append,List.filterMap_append,ih]
  refine congrArg _ ?_
  show [D.int (if (0:Int) + (n:Int) = (p:Int) then 1 else 0)] = [D.int (if n = p then 1 else 0)]
  by_cases e:n = p
  ·rw [if_pos (by omega),if_pos e]
  ·rw [if_neg (by omega),if_neg e]
theorem R5 (T:Tops mg) (O:CO K C fN3) (F:Fun K "alone" "Search.alone" (mth 1) f fd) (hm:Meth K C "alone" f):FMD P w K mg base 1 C fN3 "alone" ["self", "place"] (N5 C):=by
 have S:zp ["self", "place"] ["self", "place"] (zb (mth 1)):=⟨rfl,rfl,rfl,by decide +kernel,rfl,by decide +kernel,by decide +kernel⟩
 refine u9 F S (F.binds fun _ _ _ _ _ _ us hl=>(by obtain ⟨_,_,rfl⟩:=t6 hl; rfl)) hm (by decide) fun qZ A outer s H E ds φ hr hl hT=>?_
 have hu:=hr.units
 refine ⟨_,(zm (yd (xa (T:=["other"]) (F:=["place"]) (js:=[1]) (wm T.range (za (yf O (z9 0)) zd)) (show zl (zb (mth 1)) _ ["other"] ["place"] from ⟨rfl,by decide +kernel,by decide +kernel,by decide +kernel,by decide +kernel,by decide +kernel⟩) (.cons rfl .nil) (by decide) (fun cl C fp s H=>(zr (i:=0) (show ((["other"]:List Str) ++ (["place"]:List Str)).Nodup by decide +kernel) rfl (by walk_at "o"))) (y9 (by decide)) (yy 0) (fun cl C fp s H=>yn) (fun cl C fp s H=>(V7 (Y0 hu (z9 0) (z9 1)) zc zc))))),?_⟩
 obtain ⟨x,y,n,p,rfl,hn,h⟩:=hT
 refine xt (yh (rngD 0 n) (fun ψ hψ=>j8 (x:=.int n) (fun ψ hψ=>fldn (i:=2) (fun ψ hψ=>hψ) (by decide) rfl hψ) ⟨by omega,by omega,hψ⟩) (unF p) (by rw [show (rngD 0 n).length = n from v7]; omega) (fun d hd=>?_) ?_)
 ·obtain ⟨i,hi⟩:=List.getElem?_of_mem hd
  obtain ⟨hi2,rfl⟩:=ka hi
  refine ⟨fun _=>⟨yq ▸ trivial,yq ▸ trivial,fun e=>⟨trivial,?_⟩,fun e=>⟨trivial,?_⟩⟩,fun z=>(by cases z)⟩
  ·rw [uq,beq_iff_eq] at e
   show some (D.int (if _ then 1 else 0)) = _
   rw [if_pos e]
  ·rw [uq,beq_eq_false_iff_ne] at e
   show some (D.int (if _ then 1 else 0)) = _
   rw [if_neg e]
 ·rw [M7]
  exact ⟨kh _,h⟩
theorem rf (T:Tops mg) (cU:GC K mg "MOST_UNKNOWNS" (.int 24)) (F:Fun K "check_unknowns" "check_unknowns" (top 14) f fd) (m:mg "check_unknowns" = some (.ref f)):FD P w K mg base 1 "check_unknowns" ["many"] Ut:=by
 have S:zp ["many"] ["many"] (zb (top 14)):=⟨rfl,rfl,rfl,by decide +kernel,rfl,by decide +kernel,by decide +kernel⟩
 refine ue F S (F.binds fun _ _ _ _ _ _ us hl=>(by obtain ⟨_,rfl⟩:=sy hl; rfl)) m fun qZ A outer s H E ds φ hr hl hT=>?_
 have hu:=hr.units
 refine ⟨_,(zm (wu (bj (z9 0) (Rk cU)) (zm di) yz)),?_⟩
 obtain ⟨n,rfl,hn,h⟩:=hT
 refine va false (fun ψ hψ=>qz (yi (dv (.int n)) (dv (.int 24)) (fun ψ hψ=>hψ) (fun ψ hψ=>hψ) ?_)) (fun z=>(by cases z)) (fun _=>vh h)
 show ψ (decide ((24:Int) < n))
 rw [decide_eq_false (by omega)]
 exact hψ
noncomputable def yc (cs:List (Int × Nat)):Nat:=lc (cs.map Prod.snd)
noncomputable def wc (yb:Nat) (p:Int × Nat):Int:=p.1 * ((yb / p.2:Nat):Int)
structure In (cs:List (Int × Nat)) (rows:List RowG):Prop where
 c1:∀ p ∈ cs,1 <= p.2 /\ sh p.1
 yb:yc cs < 2 ^ 4000
 n:cs.length <= 24
 ro:∀ r ∈ rows,r.Ok cs.length
 rn:rows.length <= 50
noncomputable def t0F (yb n:Nat):Nat->List (Int × Nat)->List (List Int)
 | _,[]=>[]
 | i,p :: l=>(wc yb p :: unL n i) :: t0F yb n (i + 1) l
noncomputable def s00 (cs:List (Int × Nat)) (rows:List RowG):SG:=⟨yc cs,rows,cs.length,t0F (yc cs) cs.length 0 cs,List.replicate (cs.length + 1) 0,1,(List.range cs.length).map fun p=>rows.length + p⟩
noncomputable def cD (cs:List (Int × Nat)):D:=.lst (cs.map qqD)
noncomputable def rsD (rows:List RowG):D:=.lst (rows.map RowG.inD)
noncomputable def Jh (C:Addr):FTI:=fun as φ=>∃ (cs:List (Int × Nat)) (rows:List RowG),as = [cD cs,rsD rows] /\ In cs rows /\ φ (sD C (s00 cs rows))
theorem rc {C:Addr} {f:Str} {te:TD} {u:TIL} {ρ:DE} {Z:D->Prop} (h:te ρ fun r=>∃ n ns ds,slot ρ 0 = some (dv (.ob C ns ds)) /\ f ∉ ns /\ ns.length <= 100 /\ safe n r /\ u (setS ρ 0 (dv (.ob C (ns ++ [f]) (ds ++ [r.d])))) Z):iFld C f te u ρ Z:=h
theorem Zs {C:Addr} {f:Str} {te:TD} {u:TIL} {ρ ρ':DE} {Z:D->Prop} (e:ρ = ρ') (h:iFld C f te u ρ' Z):iFld C f te u ρ Z:=e ▸ h
noncomputable def rwF:D->Option D
 | .tup [.lst l,.tup [.int c,.int d]]=>(l.mapM fun x:DL.D=>match x with | .tup [.int a,.int b]=>some (a,b.toNat) | _=>none).map fun ns=>RowG.D ⟨ns,c,d.toNat⟩
 | _=>none
theorem T9 (r:RowG):rwF r.inD = some r.D:=by
 have e:∀ l:List (Int × Nat),(l.map qqD).mapM (fun x:DL.D=>match x with | .tup [.int a,.int b]=>some (a,b.toNat) | _=>none) = some l:=fun l=>by
  induction l with
  | nil=>rfl
  | cons p l ih=>rw [List.map_cons,List.mapM_cons,ih]; rfl
 show ((r.ns.map qqD).mapM fun x:DL.D=>match x with | .tup [.int a,.int b]=>some (a,b.toNat) | _=>none).map (fun ns=>RowG.D ⟨ns,r.c,r.d⟩) = _
 rw [e]
 rfl
theorem Nb:∀ rows:List RowG,(rows.map RowG.inD).filterMap rwF = rows.map RowG.D
 | []=>rfl
 | r :: l=>by rw [List.map_cons,List.filterMap_cons_some (T9 r),Nb l]; rfl
theorem W6 (n:Nat):∀ l:List (Nat × Int),sfDs n (l.map prN)
 | []=>trivial
 | _ :: l=>⟨⟨trivial,trivial,trivial⟩,W6 n l⟩
theorem Qq {rows:List RowG} {n:Nat} (hn:n <= 100) (h:∀ r ∈ rows,r.Ok n):sfDs 1000 (rows.map RowG.D):=by
 induction rows with
 | nil=>trivial
 | cons r l ih =>
  refine ⟨⟨⟨?_,W6 _ _⟩,trivial,trivial,trivial⟩,ih fun q hq=>h q (List.mem_cons_of_mem _ hq)⟩
  rw [List.length_map]
  have:=c5 r.yb r.ns 0
  rw [(h r List.mem_cons_self).len] at this
  omega
noncomputable def tcF (yb n:Nat):D->Option D
 | .tup [.int i,.tup [.int a,.int b]]=>some (gD (a * ((yb / b.toNat:Nat):Int) :: unL n i.toNat))
 | _=>none
theorem Uj (yb n:Nat):∀ (l:List (Int × Nat)) (i:Nat),(((l.map qqD).zipIdx i).map fun q=>D.tup [.int (q.2:Nat),q.1]).filterMap (tcF yb n) = (t0F yb n i l).map gD
 | [],_=>rfl
 | p :: l,i=>by
  have ih:=Uj yb n l (i + 1)
  rw [List.map_cons,List.zipIdx_cons,List.map_cons,List.filterMap_cons_some (b:=gD (wc yb p :: unL n i)) (by rfl),ih]
  rfl
theorem Ue (n p:Nat):(unL n p).length = n:=by unfold unL; rw [List.length_map,List.length_range]
theorem Uv (yb n:Nat):∀ (l:List (Int × Nat)) (i:Nat),∀ x ∈ t0F yb n i l,x.length = n + 1
 | [],_,_,h=>by cases h
 | p :: l,i,x,h=>by
  rcases List.mem_cons.mp h with rfl | h
  ·rw [List.length_cons,Ue]
  ·exact Uv yb n l (i + 1) x h
theorem Z0 (yb n:Nat):∀ (l:List (Int × Nat)) (i:Nat),(t0F yb n i l).length = l.length
 | [],_=>rfl
 | p :: l,i=>by show _ + 1 = _; rw [Z0 yb n l]; rfl
theorem Ky (k:Nat):(List.replicate k [D.int 0]).flatten = (List.replicate k (0:Int)).map D.int:=by
 induction k with
 | zero=>rfl
 | succ k ih=>rw [List.replicate_succ,List.replicate_succ,List.flatten_cons,ih]; rfl
noncomputable def thF (R:Nat):D->Option D
 | .int i=>some (.int ((R:Int) + i))
 | _=>none
theorem M8 (R n:Nat):(rngD 0 n).filterMap (thF R) = (tD ((List.range n).map fun p=>R + p)).map D.int:=by
 unfold rngD tD
 rw [List.map_map,List.map_map]
 induction n with
 | zero=>rfl
 | succ n ih =>
  rw [List.range_succ,List.map_append,List.map_append,List.filterMap_append,ih]
  refine congrArg _ ?_
  show [D.int ((R:Int) + ((0:Int) + (n:Int)))] = [D.int ((R + n:Nat):Int)]
  rw [show (R:Int) + ((0:Int) + (n:Int)) = ((R + n:Nat):Int) by omega]
theorem Lj (T:Tops mg) (O:CO K C zt) (Bc:FMD P w K mg base 1 C fN3 "alone" ["self", "place"] (N5 C)) (Dt:FD P w K mg base 2 "multiple" ["numbers"] Ma) (Ck:FD P w K mg base 3 "whole_row" ["row"] tRow) (C1:FD P w K mg base 1 "whole" ["one", "by"] Ym) (F:Fun K "__init__" "Search.__init__" (mth 0) f fd):FnOk P w K mg base CX0 4 f fd ["self", "costs", "rows"] (spI K C 3 (Jh C)):=by
 have S:zp ["self", "costs", "rows"] ["self", "costs", "rows"] (zb (mth 0)):=⟨rfl,rfl,rfl,by decide +kernel,rfl,by decide +kernel,by decide +kernel⟩
 have O3:CO K C fN3:=Vc O (by decide)
 have O4:CO K C fN4:=Vc O (by decide)
 have O6:CO K C fN6:=Vc O (by decide)
 refine Df F S fun qZ A outer s H E as φ hr hl hT=>?_
 have hu:=hr.units
 refine ⟨_,(gh O.cl (O.na _ (by decide)) (pv 0) (zy Dt (hr.mono (by decide)) (za (xa (T:=["cost"]) (F:=[]) (js:=[]) (vt (z9 1)) (show zl (zb (mth 0)) _ ["cost"] [] from ⟨rfl,by decide +kernel,by decide +kernel,by decide +kernel,by decide +kernel,by decide +kernel⟩) .nil (by decide) (fun cl C fp s H=>(zr (i:=0) (show ((["cost"]:List Str) ++ ([]:List Str)).Nodup by decide +kernel) rfl (by walk_at "o"))) (y9 (by decide)) (yy 0) (fun cl C fp s H=>yn) (fun cl C fp s H=>(zn hu (z9 0) zc))) zd))
   (gh O.cl (O.na _ (by decide)) (pv 0) (xa (T:=["row"]) (F:=[]) (js:=[]) (vt (z9 2)) (show zl (zb (mth 0)) _ ["row"] [] from ⟨rfl,by decide +kernel,by decide +kernel,by decide +kernel,by decide +kernel,by decide +kernel⟩) .nil (by decide) (fun cl C fp s H=>(zr (i:=0) (show ((["row"]:List Str) ++ ([]:List Str)).Nodup by decide +kernel) rfl (by walk_at "o"))) (y9 (by decide)) (yy 0) (fun cl C fp s H=>yn) (fun cl C fp s H=>(zy Ck (hr.mono (by decide)) (za (z9 0) zd))))
   (gh O.cl (O.na _ (by decide)) (pv 0) (vv T.len (za (z9 1) zd))
   (gh O.cl (O.na _ (by decide)) (pv 0) (xa (T:=["place", "cost"]) (F:=["self"]) (js:=[0]) (xm T.enumerate (za (z9 1) zd)) (show zl (zb (mth 0)) _ ["place", "cost"] ["self"] from ⟨rfl,by decide +kernel,by decide +kernel,by decide +kernel,by decide +kernel,by decide +kernel⟩) (.cons rfl .nil) (by decide) (fun cl C fp s H=>(xv (K0:=K) (n:=2) (by rfl) (by rfl) (zw (zr (i:=0) (show ((["place", "cost"]:List Str) ++ (["self"]:List Str)).Nodup by decide +kernel) rfl (by walk_at "o")) (zw (zr (i:=1) (show ((["place", "cost"]:List Str) ++ (["self"]:List Str)).Nodup by decide +kernel) rfl (by walk_at "o")) xu)))) (t7 (yx ya (vj ya xr) (y9 (by decide)) (yx ya xr (y9 (by decide)) t8))) (xx 0 1) (fun cl C fp s H=>yn) (fun cl C fp s H=>(xn (wx (za (zy C1 (hr.mono (by decide)) (za (z9 1) (za (yf O3 (z9 2)) zd))) zd)) (v8 O3 Bc (hr.mono (by decide)) (z9 2) (za (z9 0) zd)))))
   (gh O.cl (O.na _ (by decide)) (pv 0) (yk (wx (za zc zd)) (xn (yf O4 (z9 0)) zc))
   (gh O.cl (O.na _ (by decide)) (pv 0) zc
   (Mp O.cl (O.na _ (by decide)) (pv 0) (xa (T:=["place"]) (F:=["rows"]) (js:=[2]) (wm T.range (za (yf O6 (z9 0)) zd)) (show zl (zb (mth 0)) _ ["place"] ["rows"] from ⟨rfl,by decide +kernel,by decide +kernel,by decide +kernel,by decide +kernel,by decide +kernel⟩) (.cons rfl .nil) (by decide) (fun cl C fp s H=>(zr (i:=0) (show ((["place"]:List Str) ++ (["rows"]:List Str)).Nodup by decide +kernel) rfl (by walk_at "o"))) (y9 (by decide)) (yy 0) (fun cl C fp s H=>yn) (fun cl C fp s H=>(xn (vv T.len (za (z9 1) zd)) (z9 0))))))))))),?_⟩
 obtain ⟨cs,rows,rfl,I,h⟩:=hT
 have nn:=I.n
 have rn:=I.rn
 have hl:∀ m ∈ cs.map Prod.snd,1 <= m:=fun m hm=>by
  obtain ⟨p,hp,rfl⟩:=List.mem_map.mp hm
  exact (I.c1 p hp).1
 have ef:(cs.map qqD).filterMap (fun d=>match d with | .tup [_,x]=>some x | _=>none) = (cs.map Prod.snd).map fun n:Nat=>D.int (n:Int):=by
  generalize cs = cs
  induction cs with
  | nil=>rfl
  | cons p l ih=>rw [List.map_cons,List.filterMap_cons_some (b:=.int (p.2:Nat)) (by rfl),ih]; rfl
 refine rc (xc [df (.lst ((cs.map Prod.snd).map fun n:Nat=>D.int (n:Int)))] (fun ψ hψ=>zh _ [] (fun ψ hψ=>yh (cs.map qqD) (fun ψ hψ=>⟨trivial,hψ⟩) (fun d=>match d with | .tup [_,x]=>some x | _=>none) (by rw [List.length_map]; omega) (fun d hd=>?_) (by rw [ef]; exact hψ)) (fun ψ hψ=>hψ) hψ) rfl ⟨_,rfl,hl,I.yb,1000,[],[],rfl,by decide,by decide,trivial,?_⟩)
 ·obtain ⟨p,hp,rfl⟩:=List.mem_map.mp hd
  exact ⟨fun _=>⟨trivial,rfl⟩,fun z=>(by cases z)⟩
 refine Zs (ρ':=[some (dv (.ob C ["by"] [.int (yc cs)])),some (dv (cD cs)),some (dv (rsD rows))]) rfl ?_
 refine rc (yh (rows.map RowG.inD) (fun ψ hψ=>⟨trivial,hψ⟩) rwF (by rw [List.length_map]; omega) (fun d hd=>?_) ?_)
 ·obtain ⟨r,hr1,rfl⟩:=List.mem_map.mp hd
  exact ⟨fun _=>xc [dv r.inD] (fun ψ hψ=>zh _ [] (fun ψ hψ=>hψ) (fun ψ hψ=>hψ) hψ) rfl ⟨cs.length,r,rfl,by omega,I.ro r hr1,trivial,T9 r⟩,fun z=>(by cases z)⟩
 rw [Nb]
 refine ⟨1000,["by"],[.int (yc cs)],rfl,by decide,by decide,Qq (n:=cs.length) (by omega) I.ro,?_⟩
 refine Zs (ρ':=[some (dv (.ob C ["by", "rows"] [.int (yc cs),.lst (rows.map RowG.D)])),some (dv (cD cs)),some (dv (rsD rows))]) rfl ?_
 refine rc (lenv (cs.map qqD) (fun ψ hψ=>hψ) ⟨1000,["by", "rows"],[.int (yc cs),.lst (rows.map RowG.D)],rfl,by decide,by decide,trivial,?_⟩)
 rw [List.length_map]
 refine Zs (ρ':=[some (dv (.ob C fN3 [.int (yc cs),.lst (rows.map RowG.D),.int cs.length])),some (dv (cD cs)),some (dv (rsD rows))]) rfl ?_
 refine rc (yh (enD (cs.map qqD)) (fun ψ hψ=>⟨trivial,hψ⟩) (tcF (yc cs) cs.length) (by rw [fh,List.length_map]; omega) (fun d hd=>?_) ?_)
 ·obtain ⟨i,hi⟩:=List.getElem?_of_mem hd
  obtain ⟨x,ex,rfl⟩:=fj hi
  rw [List.getElem?_map] at ex
  cases ep:cs[i]? with
  | none=>rw [ep] at ex; cases ex
  | some p =>
   rw [ep] at ex
   cases ex
   have mp:=List.mem_of_getElem? ep
   have p2:p.2 < 2 ^ 4000:=Nat.lt_of_le_of_lt (j5 hl (List.mem_map.mpr ⟨p,mp,rfl⟩)).2 I.yb
   refine ⟨fun _=>yi (df (.lst [.int (wc (yc cs) p)])) (df (gD (unL cs.length i))) (fun ψ hψ=>?_) (fun ψ hψ=>xj (dv (.ob C fN3 [.int (yc cs),.lst (rows.map RowG.D),.int cs.length])) [dv (.int (i:Nat))] (fun ψ hψ=>hψ) ⟨_,rfl⟩ (fun ψ hψ=>zh _ [] (fun ψ hψ=>hψ) (fun ψ hψ=>hψ) hψ) rfl ⟨_,_,cs.length,i,rfl,by omega,hψ⟩) ⟨by rw [sizeLine_eq,List.length_map,Ue]; show 1 + cs.length <= _; omega,trivial,rfl⟩,fun z=>(by cases z)⟩
   exact xc [dv (qqD p),dv (.int (yc cs))] (fun ψ hψ=>zh _ _ (fun ψ hψ=>hψ) (fun ψ hψ=>zh _ [] (fun ψ hψ=>fldn (i:=0) (fun ψ hψ=>hψ) (by decide) rfl hψ) (fun ψ hψ=>hψ) hψ) hψ) rfl ⟨p.1,p.2,yc cs,rfl,(I.c1 p mp).1,(I.c1 p mp).2,p2,I.yb,⟨rfl,rfl,hψ⟩⟩
 have eT:(enD (cs.map qqD)).filterMap (tcF (yc cs) cs.length) = (t0F (yc cs) cs.length 0 cs).map gD:=Uj _ _ _ _
 rw [eT]
 refine ⟨1000,fN3,[.int (yc cs),.lst (rows.map RowG.D),.int cs.length],rfl,by decide,by decide,T2 (fun l hl=>?_),?_⟩
 ·rw [Uv _ _ _ _ l hl]; omega
 refine Zs (ρ':=[some (dv (.ob C fN4 [.int (yc cs),.lst (rows.map RowG.D),.int cs.length,.lst ((t0F (yc cs) cs.length 0 cs).map gD)])),some (dv (cD cs)),some (dv (rsD rows))]) rfl ?_
 refine rc (yi (df (.lst [.int 0])) (dv (.int ((cs.length:Int) + 1))) (fun ψ hψ=>⟨rfl,rfl,hψ⟩) (fun ψ hψ=>yi (dv (.int cs.length)) (dv (.int 1)) (fun ψ hψ=>fldn (i:=2) (fun ψ hψ=>hψ) (by decide) rfl hψ) (fun ψ hψ=>hψ) hψ) ?_)
 refine ⟨by omega,by omega,by rw [sizeLine_eq]; show 1 * _ <= _; omega,1000,fN4,[.int (yc cs),.lst (rows.map RowG.D),.int cs.length,.lst ((t0F (yc cs) cs.length 0 cs).map gD)],rfl,by decide,by decide,?_,?_⟩
 ·show sfDs 1000 (List.replicate (cs.length + 1) [D.int 0]).flatten
  rw [Ky]
  exact qr _ _
 have eG:(List.replicate ((cs.length:Int) + 1).toNat [D.int 0]).flatten = (List.replicate (cs.length + 1) (0:Int)).map D.int:=Ky _
 show iFld _ _ _ _ (setS _ 0 (dv (.ob C (fN4 ++ [("goal" : Str)]) ([.int (yc cs),.lst (rows.map RowG.D),.int cs.length,.lst ((t0F (yc cs) cs.length 0 cs).map gD)] ++ [.lst (List.replicate ((cs.length:Int) + 1).toNat [D.int 0]).flatten])))) _
 rw [eG]
 refine Zs (ρ':=[some (dv (.ob C fN5 [.int (yc cs),.lst (rows.map RowG.D),.int cs.length,.lst ((t0F (yc cs) cs.length 0 cs).map gD),gD (List.replicate (cs.length + 1) 0)])),some (dv (cD cs)),some (dv (rsD rows))]) rfl ?_
 refine rc ⟨1000,fN5,[.int (yc cs),.lst (rows.map RowG.D),.int cs.length,.lst ((t0F (yc cs) cs.length 0 cs).map gD),gD (List.replicate (cs.length + 1) 0)],rfl,by decide,by decide,trivial,?_⟩
 refine yh (ρ:=[some (dv (.ob C fN6 [.int (yc cs),.lst (rows.map RowG.D),.int cs.length,.lst ((t0F (yc cs) cs.length 0 cs).map gD),gD (List.replicate (cs.length + 1) 0),.int 1])),some (dv (cD cs)),some (dv (rsD rows))]) (rngD 0 cs.length) (fun ψ hψ=>j8 (x:=.int cs.length) (fun ψ hψ=>fldn (i:=2) (fun ψ hψ=>hψ) (by decide) rfl hψ) ⟨by omega,by omega,hψ⟩) (thF rows.length) (by rw [show (rngD 0 cs.length).length = cs.length from v7]; omega) (fun d hd=>?_) ?_
 ·obtain ⟨i,hi⟩:=List.getElem?_of_mem hd
  obtain ⟨hi2,rfl⟩:=ka hi
  refine ⟨fun _=>yi (dv (.int (rows.map RowG.inD).length)) (dv (.int ((0:Int) + (i:Nat)))) (fun ψ hψ=>lenv (rows.map RowG.inD) (fun ψ hψ=>hψ) hψ) (fun ψ hψ=>hψ) ⟨trivial,?_⟩,fun z=>(by cases z)⟩
  show some (D.int ((rows.length:Int) + ((0:Int) + (i:Nat)))) = some (.int (((rows.map RowG.inD).length:Int) + ((0:Int) + (i:Nat))))
  rw [List.length_map]
 ·rw [M8]
  exact ⟨fN6,_,tD ((List.range cs.length).map fun p=>rows.length + p),rfl,by decide,by decide,rfl,h⟩
noncomputable def wcs (cs:List (Int × Nat)):List Int:=cs.map (wc (yc cs))
theorem N7 (yb n:Nat):∀ (l:List (Int × Nat)) (i j:Nat) {p:Int × Nat},l[j]? = some p->(t0F yb n i l).getD j [] = wc yb p :: unL n (i + j)
 | [],_,_,_,h=>by cases h
 | x :: l,i,0,p,h=>by cases h; rfl
 | x :: l,i,j + 1,p,h=>by
  have ih:=N7 yb n l (i + 1) j (p:=p) h
  show (t0F yb n (i + 1) l).getD j [] = _
  rw [ih,show i + 1 + j = i + (j + 1) by omega]
theorem M6 {n p q:Nat} (h:q < n):(unL n p).getD q 0 = if q = p then 1 else 0:=by
 unfold unL
 simp [List.getD,h]
theorem gi00 {cs:List (Int × Nat)} {rows:List RowG} (I:In cs rows) (c0:∀ p ∈ cs,0 <= p.1):GI (wcs cs) (s00 cs rows):=by
 have th:∀ i,i < cs.length->(toX (s00 cs rows)).th i = rows.length + i:=fun i hi=>by
  show ((List.range cs.length).map fun p=>rows.length + p).getD i 0 = _
  simp [List.getD,hi]
 have cl:∀ i,i < cs.length->colG rows ((toX (s00 cs rows)).th i) = unt i:=fun i hi=>by
  rw [th i hi]
  unfold colG
  rw [List.getElem?_eq_none (by omega)]
  dsimp only
  rw [show rows.length + i - rows.length = i by omega]
 have bd:∀ i,i < cs.length->bndG rows ((toX (s00 cs rows)).th i) = 0:=fun i hi=>by
  rw [th i hi]
  unfold bndG
  rw [List.getElem?_eq_none (by omega)]
 have ln:∀ i (hi:i < cs.length),lin (s00 cs rows) i = wc (yc cs) cs[i] :: unL cs.length i:=fun i hi=>by
  have:=N7 (yc cs) cs.length cs 0 i (p:=cs[i]) (List.getElem?_eq_getElem hi)
  rw [Nat.zero_add] at this
  exact this
 have L0:∀ i (hi:i < cs.length),(toX (s00 cs rows)).L i 0 = wc (yc cs) cs[i]:=fun i hi=>by show (lin (s00 cs rows) i).getD 0 0 = _; rw [ln i hi]; rfl
 have LS:∀ i,i < cs.length->∀ q,q < cs.length->(toX (s00 cs rows)).L i (q + 1) = if q = i then 1 else 0:=fun i hi q hq=>by
  show (lin (s00 cs rows) i).getD (q + 1) 0 = _
  rw [ln i hi]
  exact M6 hq
 have w0:∀ i (hi:i < cs.length),0 <= wc (yc cs) cs[i]:=fun i hi=>Int.mul_nonneg (c0 _ (List.getElem_mem hi)) (Int.natCast_nonneg _)
 have g0:∀ q,q <= cs.length->(toX (s00 cs rows)).g q = 0:=fun q hq=>by
  show (List.replicate (cs.length + 1) (0:Int)).getD q 0 = 0
  simp [List.getD,show q < cs.length + 1 by omega]
 refine ⟨Z0 _ _ _ _,Uv _ _ _ _,by show (List.replicate _ _).length = _; rw [List.length_replicate]; rfl,by show (List.map _ _).length = _; rw [List.length_map,List.length_range]; rfl,xw (Nat.le_refl _) fun m hm=>?_,I.yb,?_⟩
 ·obtain ⟨p,hp,rfl⟩:=List.mem_map.mp hm
  exact (I.c1 p hp).1
 refine ⟨(by decide:(0:Int) < 1),⟨det cs.length unt,qw _,?_,fun i hi q hq=>?_⟩,fun p hp q hq=>?_,fun i hi=>?_,fun q hq=>?_,fun i hi=>?_,fun i hi=>?_⟩
 ·show (1:Int) = _ * det cs.length fun j=>colG rows ((toX (s00 cs rows)).th j)
  rw [wq (n:=cs.length) (M:=fun j=>colG rows ((toX (s00 cs rows)).th j)) (N:=unt) fun j hj p hp=>by rw [cl j hj],qw]
 ·show (toX (s00 cs rows)).L i (q + 1) = _ * det cs.length (cset (fun j=>colG rows ((toX (s00 cs rows)).th j)) i (unt q))
  have hi:i < cs.length:=hi
  have hq:q < cs.length:=hq
  rw [LS i hi q hq]
  by_cases e:q = i
  ·rw [if_pos e,wq (n:=cs.length) (M:=cset (fun j=>colG rows ((toX (s00 cs rows)).th j)) i (unt q)) (N:=unt) fun j hj p hp=>?_,qw]
   unfold cset
   split
   ·rename_i z; rw [z,e]
   ·dsimp only; rw [cl j hj]
  ·rw [if_neg e,qx hi hq (fun z=>e z.symm) (cset (fun j=>colG rows ((toX (s00 cs rows)).th j)) i (unt q)) (by rw [ub,vo e]; exact (cl q hq).symm),Int.mul_zero]
 ·show sm cs.length (fun i=>colG rows ((toX (s00 cs rows)).th i) p * (toX (s00 cs rows)).L i (q + 1)) = if p = q then 1 else 0
  have hp:p < cs.length:=hp
  have hq:q < cs.length:=hq
  rw [zf (g:=fun i=>unt i p * (if q = i then 1 else 0)) fun i hi=>by rw [cl i hi,LS i hi q hq],xq hq _ fun i _ iq=>by rw [if_neg (fun z=>iq z.symm),Int.mul_zero],if_pos rfl,Int.mul_one]
  rfl
 ·show (toX (s00 cs rows)).L i 0 = sm cs.length fun q=>(toX (s00 cs rows)).L i (q + 1) * cst (wcs cs) q
  have hi:i < cs.length:=hi
  rw [L0 i hi,zf (g:=fun q=>(if q = i then 1 else 0) * cst (wcs cs) q) fun q hq=>by rw [LS i hi q hq],xq hi _ fun q _ qi=>by rw [if_neg qi,Int.zero_mul],if_pos rfl,Int.one_mul]
  unfold cst wcs
  simp [List.getD,hi]
 ·rw [g0 q hq]
  show 0 = sm cs.length fun i=>bndG rows ((toX (s00 cs rows)).th i) * _
  exact (v4 fun i hi=>by rw [bd i hi,Int.zero_mul]).symm
 ·have hi:i < cs.length:=hi
  have n1:(s00 cs rows).n = cs.length:=rfl
  rcases Int.lt_or_eq_of_le (w0 i hi) with z | z
  ·exact ⟨0,Nat.zero_le _,fun j hj=>absurd hj (by omega),by rw [L0 i hi]; exact z⟩
  ·refine ⟨i + 1,by rw [n1]; omega,fun j hj=>?_,by rw [LS i hi i hi,if_pos rfl]; decide⟩
   cases j with
   | zero=>rw [L0 i hi]; exact z.symm
   | succ j=>rw [LS i hi j (by omega),if_neg (by omega)]
 ·show (toX (s00 cs rows)).th i < rows.length + cs.length
  have hi:i < cs.length:=hi
  rw [th i hi]; omega
noncomputable def lstD (s:SG):D:=.tup [.str "least", rtD (s.g.getD 0 0) (s.b * (s.yb:Int)),.lst ((s.g.drop 1).map fun x=>rtD x s.b),.lst (shL (wgtL s.t (cz s)) (s.b * (s.yb:Int)) 0 s.rows)]
noncomputable def nonD (s:SG) (k:Nat):D:=.tup [.str "none", .lst (shL (enW s k (colL s k)) s.b 0 s.rows)]
noncomputable def tLst (C:Addr):FT:=fun ds φ=>∃ (cs:List (Int × Nat)) (rows:List RowG),ds = [cD cs,rsD rows] /\ In cs rows /\ (∀ p ∈ cs,0 <= p.1) /\ PBd rows cs.length (wcs cs) /\
 (∀ s:SG,s.rows = rows->s.n = cs.length->s.yb = yc cs->GI (wcs cs) s->(∀ k,k < s.rows.length + s.n->ms s k <= 0)->φ ⟨.new,lstD s⟩) /\
 (∀ (s:SG) (k:Nat),s.rows = rows->s.n = cs.length->s.yb = yc cs->GI (wcs cs) s->k < s.rows.length + s.n->0 < ms s k->(∀ i,i < s.n->kol s.n (colG s.rows) (toX s) k i <= 0)->φ ⟨.new,nonD s k⟩)
theorem Mo {H:Hp} {a b:Option V} {v2 v3:V} {d2 d3:D} (h2:Rep K H [] d2 v2) (h3:Rep K H [] d3 v3):REnv K H H [a,b,some v2,some v3] [none,none,some (dv d2),some (dv d3)] [] where
 same:=Same.refl H
 fresh:=fun _ z=>absurd z (by simp)
 trk:=fun _ z=>absurd z (by simp)
 mtb:=fun _ z=>absurd z (by simp)
 nda:=List.nodup_nil
 slots:=fun i r e=>by
  match i,e with
  | 2,e=>cases e; exact ⟨v2,rfl,.inl ⟨rfl,h2⟩⟩
  | 3,e=>cases e; exact ⟨v3,rfl,.inl ⟨rfl,h3⟩⟩
 len:=rfl
theorem T1 (n:Nat):∀ l:List (Int × Nat),sfDs n (l.map qqD)
 | []=>trivial
 | _ :: l=>⟨⟨trivial,trivial,trivial⟩,T1 n l⟩
theorem Ju {rows:List RowG} {n:Nat} (hn:n <= 100) (h:∀ r ∈ rows,r.Ok n):sfDs 1000 (rows.map RowG.inD):=by
 induction rows with
 | nil=>trivial
 | cons r l ih=>exact ⟨⟨⟨by rw [List.length_map,(h r List.mem_cons_self).len]; omega,T1 _ _⟩,⟨trivial,trivial,trivial⟩,trivial⟩,ih fun q hq=>h q (List.mem_cons_of_mem _ hq)⟩
theorem Oe {fI:Addr} {fdI:FuncData} (T:Tops mg) (O:CO K C zt) (Dw:FD P w K mg base 1 "check_unknowns" ["many"] Ut)
  (okI:FnOk P w K mg base CX0 4 fI fdI ["self", "costs", "rows"] (spI K C 3 (Jh C))) (bI:vf K fdI ["self", "costs", "rows"] []) (hI:Meth K C "__init__" fI)
  (Be:FMM P w K mg base 5 C zt "go" ["self"] (tGo C)) (Bd:FMD P w K mg base 3 C zt "value" ["self"] (N1 C)) (Cm:FMD P w K mg base 3 C zt "unknowns" ["self"] (tUnk C)) (B1:FMD P w K mg base 4 C zt "weights" ["self"] (W2 C))
  (mk:W.makesIn K C = true) (kC:W.keepIn K (.ref C) = true) (mR:mg "Search" = some (.ref C)) (F:Fun K "least" "least" (top 15) f fd) (m:mg "least" = some (.ref f)):FD P w K mg base 6 "least" ["costs", "rows"] (tLst C):=by
 have S:zp ["costs", "rows", "search", "weights"] ["costs", "rows"] (zb (top 15)):=⟨rfl,rfl,rfl,by decide +kernel,rfl,by decide +kernel,by decide +kernel⟩
 obtain ⟨fG,fdG,okG,bG,hG⟩:=Be.ex
 refine ⟨f,fd,F.ok S (fun vs H Q E h=>?_) (fun qZ A outer s H vs Q E hr h=>?_),F.binds fun _ _ _ _ _ _ us hl=>(by obtain ⟨_,_,rfl⟩:=t6 hl; rfl),F.kp,m⟩
 ·obtain ⟨ds,φ,hl,r,_⟩:=h
  rw [r.length,hl]
 obtain ⟨ds,φ,hl,r,hT,kk⟩:=h
 refine ⟨_,vi (c3 (pe0 (zy Dw (hr.mono (by decide)) (za (vv T.len (za (z9 0) zd)) zd))))
  (vi (Tg (L9 ⟨mk,hI.at_,hI.fn,kC⟩ okI (hr.mono (by decide)) rfl mR bI .nil Yr (xi (pv 0) (xi (pv 1) t0))) (zr (i:=2) S.nd rfl (by walk_at "o")) rfl rfl rfl)
  (vi (Wg (i:=3) S.nd rfl (by walk_at "o") (Wi (pv 2) O.cl hG okG (hr.mono (by decide)) bG .nil Yr rfl))
  (vi (Mt (pt0 (V4 (z9 3) qe)) (kj (Z9 (Zc (xi Nf (xi (pv 3) t0))))) dy)
  (kj (Z9 (pe0 (Kg (za V5 (za (tw O Bd (hr.mono (by decide)) (z9 2)) (za (tw O Cm (hr.mono (by decide)) (z9 2)) (za (tw O B1 (hr.mono (by decide)) (z9 2)) zd))))))))))),?_⟩
 obtain ⟨cs,rows,rfl,I,c0,PB,h0,h1⟩:=hT
 have nn:=I.n
 have rn:=I.rn
 have R0:=gd (N:=["costs", "rows", "search", "weights"]) (ds:=[cD cs,rsD rows]) (vs:=vs) (H:=H) r
 obtain ⟨v0,_,rfl,r0,v1,_,rfl,r1,rfl⟩:=r
 refine ⟨_,[],R0,fun _=>True,xc [dv (.int cs.length)] (fun ψ hψ=>zh _ [] (fun ψ hψ=>lenv (cs.map qqD) (fun ψ hψ=>hψ) (by rw [List.length_map]; exact hψ)) (fun ψ hψ=>hψ) hψ) rfl ⟨cs.length,rfl,by omega,trivial⟩,fun _ _ H1 s1 _ _=>?_⟩
 refine ⟨v0,rfl,v1,rfl,fun x dx hx hdx hne=>?_⟩
 have nx:upd H1 dx (.own x) x = none:=by rw [zj (Ne.symm hne)]; exact hx
 have sx:Same H1 (upd (upd H1 dx (.own x)) x (.ins C dx [])):=(zu hdx _).trans (zu nx _)
 have s02:=s1.trans sx
 generalize e2:upd (upd H1 dx (.own x)) x (.ins C dx []) = H2 at sx s02
 have gx:H2 x = some (.ins C dx []):=by rw [<- e2]; exact zk
 have px:∀ ys,H2 x ≠ some (.lst ys):=fun ys z=>by rw [gx] at z; cases z
 have hx0:H x = none:=s1.free hx
 have q0:RepN K H2 (Pn x x) (cD cs) v0:=dh (n:=1000) (O:=[]) px (fun ys z=>absurd z (px ys)) _ _ ⟨by rw [List.length_map]; omega,T1 _ _⟩ (Rep.grow (Grow.same s02) _ _ r0)
 have q1:RepN K H2 (Pn x x) (rsD rows) v1:=dh (n:=1000) (O:=[]) px (fun ys z=>absurd z (px ys)) _ _ ⟨by rw [List.length_map]; omega,Ju (n:=cs.length) (by omega) I.ro⟩ (Rep.grow (Grow.same s02) _ _ r1)
 refine ⟨x,dx,[cD cs,rsD rows],[v0,v1],fun o=>o = sD C (s00 cs rows),rfl,rfl,gx,⟨v0,_,rfl,q0,v1,[],rfl,q1,rfl⟩,⟨cs,rows,rfl,I,rfl⟩,fun H3 th ns ds is o3 hth k3 d3 e3=>⟨rfl,?_⟩⟩
 have e4:=(D.ob.inj e3).2.1
 subst e4
 obtain ⟨rfl,rfl⟩:=kl (ds:=ds) (es:=six (s00 cs rows)) (is:=is) (js:=tD (s00 cs rows).t) e3
 have G0:GI (wcs cs) (s00 cs rows):=gi00 I c0
 have s03:∀ b u,H b = some u->b ≠ x /\ b ≠ th /\ H3 b = some u:=fun b u hb=>by
  have n1:b ≠ x:=fun z=>by rw [z,hx0] at hb; cases hb
  exact ⟨n1,fun z=>(by rw [z] at hb; rw [s02 _ _ hb] at hth; cases hth),k3 b u (s02 _ _ hb) n1⟩
 have d03:∀ b,H3 b = none->H b = none:=fun b hb=>s02.free (d3 b hb)
 obtain ⟨dx3,xs3,g3,_⟩:=o3.ob
 refine ⟨.ref x,rfl,x,dx3,_,rfl,g3,u7 Be.no,?_⟩
 refine ⟨x,th,_,_,[],[],fun r o=>(∃ s:SG,s.rows = rows /\ s.n = cs.length /\ s.yb = yc cs /\ GI (wcs cs) s /\ (∀ k,k < s.rows.length + s.n->ms s k <= 0) /\ r = dv .non /\ o = sD C s) \/ (∃ (s:SG) (k:Nat),s.rows = rows /\ s.n = cs.length /\ s.yb = yc cs /\ GI (wcs cs) s /\ k < s.rows.length + s.n /\ 0 < ms s k /\ (∀ i,i < s.n->kol s.n (colG s.rows) (toX s) k i <= 0) /\ r = df (.lst (shL (enW s k (colL s k)) s.b 0 s.rows)) /\ o = sD C s),rfl,rfl,o3,rfl,⟨wcs cs,s00 cs rows,rfl,rfl,PB,G0,fun s e1 e2 e3 g hm=>.inl ⟨s,e1,e2,e3,g,hm,rfl,rfl⟩,fun s k e1 e2 e3 g hk hm hA=>.inr ⟨s,k,e1,e2,e3,g,hk,hm,hA,rfl,rfl⟩⟩,fun v r H4 ds4 is4 o4 k4 d4 rv4 pr4 h4=>?_⟩
 have s04:Same H H4:=fun b u hb=>let ⟨n1,n2,h3⟩:=s03 b u hb; k4 b u h3 n1 n2
 have d04:∀ b,H4 b = none->H b = none:=fun b hb=>d03 b (d4 b hb)
 rcases h4 with ⟨s4,e1,e2,e3,G4,hm4,rfl,e4⟩ | ⟨s4,k,e1,e2,e3,G4,hk,hm4,hA,rfl,e4⟩
 ·cases (show v = .non from rv4)
  have rp:=o4.rep
  rw [e4] at rp
  refine ⟨_,[],Mo rp (v3:=.non) (d3:=.non) rfl,fun b=>b = false,rfl,fun bb H5 s5 eb=>?_⟩
  subst eb
  dsimp only
  rw [if_neg (by decide)]
  have rp5:Rep K H5 [] (sD C s4) (.ref x):=Rep.grow (Grow.same s5) _ _ rp
  refine ⟨_,[],Mo rp5 (v3:=.non) (d3:=.non) rfl,fun r=>r = ⟨.new,lstD s4⟩,?_,fun v r H6 s6 rv6 e6=>?_⟩
  ·have o:=GI.ssh (s:=s4) (cs:=wcs cs) (by rw [e1,e2]; exact PB) G4
   exact Om [dv (.str "least"),dv (rtD (s4.g.getD 0 0) (s4.b * (s4.yb:Int))),df (.lst ((s4.g.drop 1).map fun x=>rtD x s4.b)),df (.lst (shL (wgtL s4.t (cz s4)) (s4.b * (s4.yb:Int)) 0 s4.rows))] (fun ψ hψ=>zh _ _ (fun ψ hψ=>hψ) (fun ψ hψ=>zh _ _ (fun ψ hψ=>xj (dv (sD C s4)) [] (fun ψ hψ=>hψ) ⟨_,rfl⟩ (fun ψ hψ=>hψ) rfl ⟨s4,rfl,o,hψ⟩) (fun ψ hψ=>zh _ _ (fun ψ hψ=>xj (dv (sD C s4)) [] (fun ψ hψ=>hψ) ⟨_,rfl⟩ (fun ψ hψ=>hψ) rfl ⟨s4,rfl,o,hψ⟩) (fun ψ hψ=>zh _ [] (fun ψ hψ=>xj (dv (sD C s4)) [] (fun ψ hψ=>hψ) ⟨_,rfl⟩ (fun ψ hψ=>hψ) rfl ⟨s4,rfl,o,G4.nodup,hψ⟩) (fun ψ hψ=>hψ) hψ) hψ) hψ) hψ) ⟨trivial,⟨trivial,trivial,trivial⟩,du _ _,uc _ _ _ _,trivial⟩ rfl rfl
  ·subst e6
   refine kk v _ H6 (fun b u hb=>s6 _ _ (s5 _ _ (s04 b u hb))) (RV.back rv6 trivial fun b hb=>d04 b (s5.free hb)) trivial (h0 s4 e1 e2 e3 G4 hm4)
 ·obtain ⟨ad,rfl,ha,_,xs,gl,rl⟩:=rv4
  have rpL:Rep K H4 [] (.lst (shL (enW s4 k (colL s4 k)) s4.b 0 s4.rows)) (.ref ad):=⟨ad,xs,rfl,gl,by simp,Reps.sub (fun _ z=>absurd z (by simp)) _ _ rl⟩
  have rp:=o4.rep
  refine ⟨_,[],Mo rp rpL,fun b=>b = true,rfl,fun bb H5 s5 eb=>?_⟩
  subst eb
  dsimp only
  rw [if_pos rfl]
  refine ⟨.ref ad,rfl,by rw [sizeLine_eq]; show 2 <= _; decide,fun p hp=>?_⟩
  have s6:=zu hp (.tup [.str "none", .ref ad])
  refine kk (.ref p) ⟨.new,nonD s4 k⟩ _ (fun b u hb=>s6 _ _ (s5 _ _ (s04 b u hb))) ?_ trivial (h1 s4 k e1 e2 e3 G4 hk hm4 hA)
  refine ⟨p,_,rfl,⟨SqT.of zk,zk⟩,.str "none", _,rfl,rfl,.ref ad,[],rfl,⟨ad,xs,rfl,s6 _ _ (s5 _ _ gl),⟨by simp,d03 _ ha⟩,?_⟩,rfl⟩
  exact zx.to (s5.trans s6) (fun _ z=>z) _ _ (Reps.toN _ _ pr4 rl)
noncomputable def wl (wt:Nat->Int) (bt:Int):Nat->List RowG->List (RowG × RR)
 | _,[]=>[]
 | i,r :: l=>(r,rt (wt i * (r.yb:Int)) bt) :: wl wt bt (i + 1) l
theorem J2 (wt:Nat->Int) (bt:Int):∀ (rows:List RowG) (i:Nat),shL wt bt i rows = (wl wt bt i rows).map fun p:RowG × RR=>qD p.2
 | [],_=>rfl
 | r :: l,i=>by
  show _ :: shL wt bt (i + 1) l = _ :: _
  rw [J2 wt bt l]
  rfl
structure R9 (n:Nat) (r:RowG):Prop where
 ok:r.Ok n
 ns:∀ p ∈ r.ns,B9 (rr p)
 b:B9 (r.c,(r.d:Int))
theorem RowG.Ok.eqA {n:Nat} {r:RowG} (o:r.Ok n) {q:Nat} (hq:q < n):r.A q * ((r.ns.getD q (0,1)).2:Int) = (r.ns.getD q (0,1)).1 * (r.yb:Int) /\ 0 < ((r.ns.getD q (0,1)).2:Int):=by
 have hl:q < r.ns.length:=by rw [o.len]; exact hq
 have m:=vm hl
 have b1:=o.b1 _ m
 have hl2:∀ m ∈ r.ns.map Prod.snd ++ [r.d],1 <= m:=fun m hm=>by
  rcases List.mem_append.mp hm with hm | hm
  ·obtain ⟨p,hp,rfl⟩:=List.mem_map.mp hm
   exact o.b1 p hp
  ·rw [List.mem_singleton.mp hm]; exact o.d1
 have d:(r.ns.getD q (0,1)).2 ∣ r.yb:=(j5 hl2 (List.mem_append_left _ (List.mem_map.mpr ⟨_,m,rfl⟩))).1
 refine ⟨?_,by omega⟩
 have e:r.A q = (r.ns.getD q (0,1)).1 * ((r.yb / (r.ns.getD q (0,1)).2:Nat):Int):=by
  unfold RowG.A
  have e2:r.ns[q]? = some (r.ns.getD q (0,1)):=by rw [List.getElem?_eq_getElem hl]; simp [List.getD,hl]
  rw [e2]
 rw [e,Int.mul_assoc,<- Int.natCast_mul,Nat.div_mul_cancel d]
theorem RowG.Ok.eqB {n:Nat} {r:RowG} (o:r.Ok n):r.B * (r.d:Int) = r.c * (r.yb:Int) /\ 0 < (r.d:Int) /\ 0 < (r.yb:Int):=by
 have hl2:∀ m ∈ r.ns.map Prod.snd ++ [r.d],1 <= m:=fun m hm=>by
  rcases List.mem_append.mp hm with hm | hm
  ·obtain ⟨p,hp,rfl⟩:=List.mem_map.mp hm
   exact o.b1 p hp
  ·rw [List.mem_singleton.mp hm]; exact o.d1
 have d:r.d ∣ r.yb:=(j5 hl2 (List.mem_append_right _ (List.mem_singleton.mpr rfl))).1
 have y:1 <= r.yb:=xw (Nat.le_refl _) hl2
 refine ⟨?_,by have:=o.d1; omega,by omega⟩
 unfold RowG.B
 rw [Int.mul_assoc,<- Int.natCast_mul,Nat.div_mul_cancel d]
theorem colR {rows:List RowG} {k:Nat} {r:RowG} (e:rows[k]? = some r) (q:Nat):colG rows k q = r.A q:=by unfold colG; rw [e]
theorem bndR {rows:List RowG} {k:Nat} {r:RowG} (e:rows[k]? = some r):bndG rows k = r.B:=by unfold bndG; rw [e]
theorem prs (rows:List RowG) (n:Nat):PR rows.length n (colG rows) (bndG rows):=⟨fun p _=>by
 unfold colG
 rw [List.getElem?_eq_none (by omega)]
 dsimp only
 rw [show rows.length + p - rows.length = p by omega],fun p _=>by unfold bndG; rw [List.getElem?_eq_none (by omega)]⟩
theorem k9 {t b t' b':Int} (hb:0 < b) (hb':0 < b') (h:t * b' = t' * b):rt t b = rt t' b':=by
 have o:=Tc (t:=t) (b:=b) (by omega)
 have o':=Tc (t:=t') (b:=b') (by omega)
 obtain ⟨c,p,g,_,_⟩:=o
 obtain ⟨c',p',g',_,_⟩:=o'
 generalize rt t b = u at *
 generalize rt t' b' = v at *
 have e:u.1 * v.2 = v.1 * u.2:=by
  refine Int.eq_of_mul_eq_mul_right (a:=b * b') (by have:=Int.mul_pos hb hb'; omega) ?_
  have a1:u.1 * v.2 * (b * b') = u.1 * b * (v.2 * b'):=by grind
  have a2:v.1 * u.2 * (b * b') = v.1 * b' * (u.2 * b):=by grind
  rw [a1,a2,c,c']
  grind
 have dv:∀ {a b c:Int},a ∣ b * c->Int.gcd b a = 1->a ∣ c:=fun {a b c} h g=>by
  refine Int.natAbs_dvd_natAbs.mp (Nat.Coprime.dvd_of_dvd_mul_left (m:=b.natAbs) ?_ ?_)
  ·rw [Nat.coprime_comm]; exact g
  ·rw [<- Int.natAbs_mul]; exact Int.natAbs_dvd_natAbs.mpr h
 have d1:u.2 ∣ v.2:=dv (b:=u.1) ⟨v.1,by rw [e,Int.mul_comm]⟩ g
 have d2:v.2 ∣ u.2:=dv (b:=v.1) ⟨u.1,by rw [<- e,Int.mul_comm]⟩ g'
 have e2:u.2 = v.2:=Int.dvd_antisymm (by omega) (by omega) d1 d2
 have e1:u.1 = v.1:=by
  rw [e2] at e
  exact Int.eq_of_mul_eq_mul_right (by omega) e
 exact Prod.ext e1 e2
theorem b_le {x y:Int} {m:Nat} (h:x.natAbs <= y.natAbs) (hb:intBits y <= m):intBits x <= m:=PySem.intBits_le_of_natAbs h hb
structure Sys (cs:List (Int × Nat)) (rows:List RowG):Prop where
 i:In cs rows
 c0:∀ p ∈ cs,0 <= p.1
 pb:PBd rows cs.length (wcs cs)
 c9:∀ p ∈ cs,B9 (rr p)
 r9:∀ r ∈ rows,R9 cs.length r
 rl:rows.length <= 49
structure Of (cs:List (Int × Nat)) (rows:List RowG) (s:SG):Prop where
 r:s.rows = rows
 n:s.n = cs.length
 y:s.yb = yc cs
 g:GI (wcs cs) s
noncomputable def Met (s:SG):Prop:=∀ k,k < s.rows.length + s.n->ms s k <= 0
noncomputable def Endl (s:SG) (k:Nat):Prop:=k < s.rows.length + s.n /\ 0 < ms s k /\ ∀ i,i < s.n->kol s.n (colG s.rows) (toX s) k i <= 0
theorem Of.ssh {cs:List (Int × Nat)} {rows:List RowG} {s:SG} (S:Sys cs rows) (O:Of cs rows s):SSh s:=GI.ssh (cs:=wcs cs) (by rw [O.r,O.n]; exact S.pb) O.g
theorem E6 {cs:List (Int × Nat)} {rows:List RowG} (S:Sys cs rows) {p:Nat} (hp:p < cs.length):cst (wcs cs) p * ((cs.getD p (0,1)).2:Int) = (cs.getD p (0,1)).1 * (yc cs:Int) /\ 0 < ((cs.getD p (0,1)).2:Int):=by
 have m:=vm hp
 have hl:∀ m ∈ cs.map Prod.snd,1 <= m:=fun m hm=>by
  obtain ⟨p,hp,rfl⟩:=List.mem_map.mp hm
  exact (S.i.c1 p hp).1
 have d:(cs.getD p (0,1)).2 ∣ yc cs:=(j5 hl (List.mem_map.mpr ⟨_,m,rfl⟩)).1
 refine ⟨?_,by have:=(S.i.c1 _ m).1; omega⟩
 have e:cst (wcs cs) p = (cs.getD p (0,1)).1 * ((yc cs / (cs.getD p (0,1)).2:Nat):Int):=by
  unfold cst wcs
  simp [List.getD,hp]
  rfl
 rw [e,Int.mul_assoc,<- Int.natCast_mul,Nat.div_mul_cancel d]
noncomputable def lwG (s:SG):List (RowG × RR):=wl (wgtL s.t (cz s)) (s.b * (s.yb:Int)) 0 s.rows
noncomputable def vG (s:SG):RR:=rt (s.g.getD 0 0) (s.b * (s.yb:Int))
noncomputable def xG (s:SG):List RR:=(s.g.drop 1).map fun x=>rt x s.b
theorem U5 (l:List Int) (q:Nat):(l.drop 1).getD q 0 = l.getD (q + 1) 0:=by simp [List.getD,Nat.add_comm]
theorem Js {n:Nat} {f g:Nat->Int} (h:∀ i,i < n->f i <= g i):sm n f <= sm n g:=by
 induction n with
 | zero=>exact Int.le_refl _
 | succ n ih =>
  have a:=ih fun i hi=>h i (by omega)
  have b:=h n (by omega)
  show sm n f + f n <= sm n g + g n
  omega
theorem weak {R n:Nat} {col:Nat->Nat->Int} {bnd cost x w:Nat->Int} {d d':Int} (x0:∀ q,q < n->0 <= x q) (hx:∀ k,k < R->bnd k * d <= sm n fun q=>x q * col k q) (w0:∀ k,0 <= w k) (hw:∀ p,p < n->sm R (fun k=>col k p * w k) <= d' * cost p):d * sm R (fun k=>bnd k * w k) <= d' * sm n fun q=>x q * cost q:=by
 have a:d * sm R (fun k=>bnd k * w k) <= sm R fun k=>w k * sm n fun q=>x q * col k q:=by
  rw [<- ye]
  refine Js fun k hk=>?_
  have:=Int.mul_le_mul_of_nonneg_left (hx k hk) (w0 k)
  have e:d * (bnd k * w k) = w k * (bnd k * d):=by grind
  omega
 have b:sm R (fun k=>w k * sm n fun q=>x q * col k q) = sm n fun q=>x q * sm R fun k=>col k q * w k:=by
  rw [zf (g:=fun k=>sm n fun q=>x q * (col k q * w k)) fun k _=>by rw [<- ye]; exact zf fun q _=>by grind]
  rw [v5]
  exact zf fun q _=>ye R (x q) _
 have c:(sm n fun q=>x q * sm R fun k=>col k q * w k) <= d' * sm n fun q=>x q * cost q:=by
  rw [<- ye]
  refine Js fun q hq=>?_
  have:=Int.mul_le_mul_of_nonneg_left (hw q hq) (x0 q hq)
  have e:d' * (x q * cost q) = x q * (d' * cost q):=by grind
  omega
 omega
theorem zv {t u:TDS} {ρ:DE} {Z:DZ} (J:DE->Prop) (h1:t ρ { Z with nx:=J }) (h2:∀ ρ2,J ρ2->u ρ2 Z):sSeq (sCut t) u ρ Z:=⟨J,h1,h2⟩
theorem uk {i:Nat} {t:TDS} {ρ:DE} {Z:DZ} (h:t (frzS ρ i) Z):sFrz i t ρ Z:=h
theorem T7 {i:Nat} {te:TD} {ρ:DE} {Z:DZ} {ds:List D} (e:slot ρ i = some (dO (.lst ds))) (h:te ρ fun r=>(match r.k with | .own=>False | _=>True) /\ ds.length <= 100000 /\ Z.nx (setS ρ i (dO (.lst (ds ++ [r.d]))))):sApp i te ρ Z:=by
 unfold sApp
 rw [e]
 exact h
theorem Ux {x:Int} {k:Nat} (h:x.natAbs <= 2 ^ k) (hk:k < 4000):sh x:=Nat.lt_of_le_of_lt h (Nat.pow_lt_pow_right (by decide) hk)
theorem Fy {ta tb:TD} {ρ:DE} {φ:EV->Prop} (x:EV) (h1:∀ ψ:EV->Prop,ψ x->ta ρ ψ) (h2:tb ρ fun r=>uw [x,r] = true /\ Nat.ble 2 1000 = true /\ φ (df (.lst [x.d,r.d]))):dLst (vq ta (vq tb aNil)) ρ φ:=h1 _ h2
theorem Wr (N:Nat):∀ (l:List Nat) (a:Nat),a ∣ N->(∀ m ∈ l,m ∣ N)->l.foldl Nat.lcm a ∣ N
 | [],_,ha,_=>ha
 | m :: l,_,ha,h=>Wr N l _ (Nat.lcm_dvd ha (h m List.mem_cons_self)) fun k hk=>h k (List.mem_cons_of_mem _ hk)
structure R46 (n:Nat) (r:RowG):Prop where
 len:r.ns.length = n
 ns:∀ p ∈ r.ns,p.1.natAbs <= 3 /\ p.2 ∣ 4
 c:r.c.natAbs <= 2 ^ 100
 d:r.d = 1
theorem dvd4 {m:Nat} (h:m ∣ 4):1 <= m /\ m <= 4:=⟨Nat.pos_of_dvd_of_pos h (by decide),Nat.le_of_dvd (by decide) h⟩
theorem R46.ok {n:Nat} {r:RowG} (h:R46 n r):R9 n r /\ (∀ q,(r.A q).natAbs <= 2 ^ 4) /\ r.B.natAbs <= 2 ^ 102:=by
 have y4:r.yb ∣ 4:=Wr 4 _ 1 (by decide) fun m hm=>by
  rcases List.mem_append.mp hm with hm | hm
  ·obtain ⟨p,hp,rfl⟩:=List.mem_map.mp hm
   exact (h.ns p hp).2
  ·rw [List.mem_singleton.mp hm,h.d]; decide
 obtain ⟨y1,y2⟩:=dvd4 y4
 have A:∀ q,(r.A q).natAbs <= 2 ^ 4:=fun q=>by
  unfold RowG.A
  cases e:r.ns[q]? with
  | none=>exact Nat.zero_le _
  | some p =>
   have a:=(h.ns p (List.mem_of_getElem? e)).1
   show (p.1 * ((r.yb / p.2:Nat):Int)).natAbs <= 2 ^ 4
   rw [Int.natAbs_mul,Int.natAbs_natCast]
   exact Nat.le_trans (Nat.mul_le_mul a (Nat.le_trans (Nat.div_le_self ..) y2)) (by decide)
 have B:r.B.natAbs <= 2 ^ 102:=by
  show (r.c * ((r.yb / r.d:Nat):Int)).natAbs <= 2 ^ 102
  rw [Int.natAbs_mul,Int.natAbs_natCast]
  exact Nat.le_trans (Nat.mul_le_mul h.c (Nat.le_trans (Nat.div_le_self ..) y2)) (by rw [show (102:Nat) = 100 + 2 from rfl,Nat.pow_add]; exact Nat.le_refl _)
 have s3:∀ p ∈ r.ns,p.1.natAbs <= 2 ^ 2:=fun p hp=>Nat.le_trans (h.ns p hp).1 (by decide)
 have d1:1 <= r.d:=by rw [h.d]; exact Nat.le_refl _
 refine ⟨⟨⟨h.len,fun p hp=>(dvd4 (h.ns p hp).2).1,fun p hp=>Ux (k:=2) (s3 p hp) (by decide),Ux (k:=100) h.c (by decide),d1,Nat.lt_of_le_of_lt y2 (Nat.lt_of_lt_of_le (show 4 < 2 ^ 3 by decide) (Nat.pow_le_pow_right (by decide) (by decide))),fun q=>Ux (A q) (by decide),Ux B (by decide)⟩,fun p hp=>⟨Nat.le_trans (wy (m:=3) (Nat.lt_of_le_of_lt (s3 p hp) (by decide))) (by decide),Nat.le_trans (wy (m:=3) (by show (p.2:Int).natAbs < _; rw [Int.natAbs_natCast]; have:=(dvd4 (h.ns p hp).2).2; omega)) (by decide)⟩,⟨Nat.le_trans (wy (m:=101) (Nat.lt_of_le_of_lt h.c (Nat.pow_lt_pow_right (by decide) (by decide)))) (by decide),by show intBits (r.d:Int) <= 9000; rw [h.d]; exact (show intBits ((1:Nat):Int) <= 9000 by decide)⟩⟩,A,B⟩
theorem Jm {cs:List (Int × Nat)} {rows:List RowG} (hn:cs.length <= 24) (hr:rows.length <= 24) (hc:∀ p ∈ cs,0 <= p.1 /\ p.1.natAbs <= 2 ^ 30 /\ p.2 = 1) (ho:∀ r ∈ rows,R46 cs.length r):Sys cs rows:=by
 have y:yc cs ∣ 1:=Wr 1 _ 1 (Nat.dvd_refl _) fun m hm=>by
  obtain ⟨p,hp,rfl⟩:=List.mem_map.mp hm
  rw [(hc p hp).2.2]
  exact Nat.dvd_refl _
 have y1:yc cs <= 1:=Nat.le_of_dvd (by decide) y
 have W:∀ x ∈ wcs cs,x.natAbs <= 2 ^ 102:=fun x hx=>by
  obtain ⟨p,hp,rfl⟩:=List.mem_map.mp hx
  show (p.1 * ((yc cs / p.2:Nat):Int)).natAbs <= _
  rw [Int.natAbs_mul,Int.natAbs_natCast]
  exact Nat.le_trans (Nat.mul_le_mul (hc p hp).2.1 (Nat.le_trans (Nat.div_le_self ..) y1)) (by rw [Nat.mul_one]; exact Nat.pow_le_pow_right (by decide) (by decide))
 refine ⟨⟨fun p hp=>⟨by rw [(hc p hp).2.2]; exact Nat.le_refl _,Ux (k:=30) (hc p hp).2.1 (by decide)⟩,Nat.lt_of_le_of_lt y1 (Nat.lt_of_lt_of_le (show 1 < 2 ^ 1 by decide) (Nat.pow_le_pow_right (by decide) (by decide))),by omega,fun r h=>(ho r h).ok.1.ok,by omega⟩,fun p hp=>(hc p hp).1,⟨by omega,by omega,fun r h=>(ho r h).ok.1.ok,by unfold wcs; rw [List.length_map],fun x hx=>?_,2 ^ 4,2 ^ 102,by decide,Nat.pow_pos (by decide),fun r h=>(ho r h).ok.2.1,fun r h=>(ho r h).ok.2.2,W,?_⟩,fun p hp=>⟨Nat.le_trans (wy (m:=31) (Nat.lt_of_le_of_lt (hc p hp).2.1 (by decide))) (by decide),by show intBits (p.2:Int) <= 9000; rw [(hc p hp).2.2]; decide⟩,fun r h=>(ho r h).ok.1,by omega⟩
 ·obtain ⟨p,hp,rfl⟩:=List.mem_map.mp hx
  exact Int.mul_nonneg (hc p hp).1 (Int.natCast_nonneg _)
 ·have e2:((2:Nat) ^ 9) ^ cs.length <= (2 ^ 9) ^ 24:=Nat.pow_le_pow_right (Nat.pow_pos (by decide)) hn
  rw [show (32:Nat) * 2 ^ 4 = 2 ^ 9 by decide]
  rw [<- Nat.pow_mul (a:=2) (m:=9) (n:=24)] at e2
  refine Nat.lt_of_le_of_lt (Nat.mul_le_mul_left _ (Nat.mul_le_mul_right _ (Nat.mul_le_mul_right _ (Nat.mul_le_mul_right _ e2)))) ?_
  rw [<- Nat.pow_add,<- Nat.pow_add,<- Nat.pow_add]
  exact Nat.lt_of_lt_of_le (Nat.mul_lt_mul_of_pos_right (show 10000 < 2 ^ 14 by decide) (Nat.pow_pos (by decide))) (by rw [<- Nat.pow_add]; exact Nat.pow_le_pow_right (by decide) (by decide))
noncomputable def FO (cs:List (Int × Nat)) (rows:List RowG) (f:D):Prop:=(∃ s,Of cs rows s /\ Met s /\ f = lstD s) \/ ∃ s k,Of cs rows s /\ Endl s k /\ f = nonD s k
theorem ok2 (n:Nat) (x y:Int):okD (n + 2) (.tup [.int x,.int y]):=fun z hz=>by
 simp only [List.mem_cons,List.not_mem_nil,or_false] at hz
 rcases hz with rfl | rfl <;> exact yq ▸ trivial
theorem okIn (n:Nat) (r:RowG):okD (n + 4) r.inD:=fun z hz=>by
 simp only [List.mem_cons,List.not_mem_nil,or_false] at hz
 rcases hz with rfl | rfl
 ·exact fun z hz=>by obtain ⟨p,hp,rfl⟩:=List.mem_map.mp hz; exact ok2 _ _ _
 ·exact ok2 _ _ _
theorem Nj (s:SG):lstD s = .tup [.str "least", qD (vG s),.lst ((xG s).map qD),wD (lwG s)]:=by
 unfold lstD wD lwG xG
 rw [J2,List.map_map]
 rfl
theorem Wq {cs:List (Int × Nat)} {rows:List RowG} (S:Sys cs rows) {C:Addr} {φ:EV->Prop} (h:∀ f,FO cs rows f->φ ⟨.new,f⟩):tLst C [cD cs,rsD rows] φ:=⟨cs,rows,rfl,S.i,S.c0,S.pb,fun s e1 e2 e3 G m=>h _ (.inl ⟨s,⟨e1,e2,e3,G⟩,m,rfl⟩),fun s k e1 e2 e3 G h1 h2 h3=>h _ (.inr ⟨s,k,⟨e1,e2,e3,G⟩,⟨h1,h2,h3⟩,rfl⟩)⟩
theorem ptE {pt:List (Int × Nat)} (h1:∀ p ∈ pt,1 <= p.2) {p:Nat} (hp:p < pt.length):cst (wcs pt) p * ((pt.getD p (0,1)).2:Int) = (pt.getD p (0,1)).1 * (yc pt:Int) /\ 0 < ((pt.getD p (0,1)).2:Int):=by
 have m:=vm hp
 have hl:∀ m ∈ pt.map Prod.snd,1 <= m:=fun m hm=>by
  obtain ⟨p,hp,rfl⟩:=List.mem_map.mp hm
  exact h1 p hp
 have d:(pt.getD p (0,1)).2 ∣ yc pt:=(j5 hl (List.mem_map.mpr ⟨_,m,rfl⟩)).1
 refine ⟨?_,by have:=h1 _ m; omega⟩
 have e:cst (wcs pt) p = (pt.getD p (0,1)).1 * ((yc pt / (pt.getD p (0,1)).2:Nat):Int):=by
  unfold cst wcs
  simp [List.getD,hp]
  rfl
 rw [e,Int.mul_assoc,<- Int.natCast_mul,Nat.div_mul_cancel d]
theorem Nm:∀ (l:List Nat) (a:Nat),1 <= a->(∀ m ∈ l,1 <= m)->1 <= l.foldl Nat.lcm a
 | [],a,ha,_=>ha
 | m :: l,a,ha,h=>Nm l _ (Nat.lcm_pos ha (h m List.mem_cons_self)) fun k hk=>h k (List.mem_cons_of_mem _ hk)
theorem Xy {pt:List (Int × Nat)} (h1:∀ p ∈ pt,1 <= p.2):0 < (yc pt:Int):=by
 have:1 <= yc pt:=Nm _ 1 (Nat.le_refl _) fun m hm=>by
  obtain ⟨p,hp,rfl⟩:=List.mem_map.mp hm
  exact h1 p hp
 omega
structure Fs (n:Nat) (rows:List RowG) (x:Nat->Int) (d:Int):Prop where
 d0:0 < d
 x0:∀ q,q < n->0 <= x q
 le:∀ r ∈ rows,r.B * d <= sm n fun q=>x q * r.A q
noncomputable def gx (s:SG) (q:Nat):Int:=s.g.getD (q + 1) 0
theorem Wn {cs:List (Int × Nat)} {rows:List RowG} {s:SG} (O:Of cs rows s) (m:Met s):Fs cs.length rows (gx s) s.b:=by
 obtain ⟨a1,a2,_,_,_,_⟩:=O.g.iv.least (prs s.rows s.n) m
 rw [O.n] at a1
 rw [O.r,O.n] at a2
 refine ⟨O.g.iv.d0,a1,fun r hr=>?_⟩
 obtain ⟨k,ek⟩:=List.getElem?_of_mem hr
 have h:=a2 k (List.getElem?_eq_some_iff.mp ek).1
 rw [bndR ek,zf (g:=fun q=>gx s q * r.A q) fun q _=>by rw [colR ek]; rfl] at h
 exact h
theorem Fs.k {n:Nat} {rows:List RowG} {x:Nat->Int} {d:Int} (F:Fs n rows x d):∀ k,k < rows.length->bndG rows k * d <= sm n fun q=>x q * colG rows k q:=fun k hk=>by
 have er:rows[k]? = some rows[k]:=List.getElem?_eq_getElem hk
 have:=F.le rows[k] (List.getElem_mem hk)
 rw [bndR er,zf (g:=fun q=>x q * rows[k].A q) fun q _=>by rw [colR er]]
 exact this
theorem Sq {cs:List (Int × Nat)} {rows:List RowG} {s:SG} {k:Nat} {x:Nat->Int} {d:Int} (O:Of cs rows s) (E:Endl s k) (F:Fs cs.length rows x d):False:=by
 obtain ⟨b1,b2,b3⟩:=O.g.iv.none (prs s.rows s.n) E.1 E.2.1 E.2.2
 rw [O.r,O.n] at b1 b2 b3
 have h:=weak (R:=rows.length) (n:=cs.length) (x:=x) (col:=colG rows) (bnd:=bndG rows) (cost:=fun _=>0) (d:=d) (d':=1) F.x0 F.k b1 (fun p hp=>by rw [Int.mul_zero]; exact b2 p hp)
 rw [v4 (fun q _=>Int.mul_zero _),Int.mul_zero] at h
 have:=Int.mul_pos F.d0 b3
 omega
theorem K9 {cs:List (Int × Nat)} {rows:List RowG} {s:SG} {x:Nat->Int} {d:Int} (O:Of cs rows s) (m:Met s) (F:Fs cs.length rows x d):d * s.g.getD 0 0 <= s.b * sm cs.length fun q=>x q * cst (wcs cs) q:=by
 obtain ⟨_,_,_,b4,b5,b6⟩:=O.g.iv.least (prs s.rows s.n) m
 rw [O.n] at b4
 rw [O.r,O.n] at b5 b6
 have h:=weak (R:=rows.length) (n:=cs.length) (x:=x) (col:=colG rows) (bnd:=bndG rows) (cost:=cst (wcs cs)) (d:=d) (d':=(toX s).d) F.x0 F.k b4 b5
 rw [b6] at h
 exact h
theorem Wm {cs:List (Int × Nat)} {rows:List RowG} {s:SG} (O:Of cs rows s) (m:Met s):s.g.getD 0 0 = sm cs.length fun q=>gx s q * cst (wcs cs) q:=by
 obtain ⟨_,_,a3,_,_,_⟩:=O.g.iv.least (prs s.rows s.n) m
 rw [O.n] at a3
 exact a3
structure RC (n:Nat) (st:Nat->Int × Nat) (mo:Nat->Int) (k:Nat) (r:RowG):Prop where
 a:r.ns.getD k (0,1) = (1,1)
 b:0 < k->r.ns.getD (k - 1) (0,1) = (-(st k).1,(st k).2)
 z:∀ q,q < n->q ≠ k->q + 1 ≠ k->r.ns.getD q (0,1) = (0,1)
 c:r.c = mo k
 d:r.d = 1
noncomputable def pv (x:Nat->Int) (k:Nat):Int:=if 0 < k then x (k - 1) else 0
theorem RC.sum {n k:Nat} {st:Nat->Int × Nat} {mo:Nat->Int} {r:RowG} (R:RC n st mo k r) (ok:r.Ok n) (hk:k < n) (x:Nat->Int):(sm n fun q=>x q * r.A q) * ((st k).2:Int) = (x k * ((st k).2:Int) - pv x k * (st k).1) * (r.yb:Int) /\ r.B = mo k * (r.yb:Int):=by
 have ak:r.A k = (r.yb:Int):=by
  have:=(ok.eqA hk).1
  rw [R.a] at this
  have this:r.A k * 1 = 1 * (r.yb:Int):=this
  omega
 have az:∀ q,q < n->q ≠ k->q + 1 ≠ k->r.A q = 0:=fun q hq h1 h2=>by
  have:=(ok.eqA hq).1
  rw [R.z q hq h1 h2] at this
  have this:r.A q * 1 = 0 * (r.yb:Int):=this
  omega
 have b0:r.B = mo k * (r.yb:Int):=by
  have:=ok.eqB.1
  rw [R.c,R.d] at this
  have this:r.B * 1 = mo k * (r.yb:Int):=this
  omega
 refine ⟨?_,b0⟩
 unfold pv
 by_cases h0:0 < k
 ·have ab:r.A (k - 1) * ((st k).2:Int) = -(st k).1 * (r.yb:Int):=by
   have:=(ok.eqA (q:=k - 1) (by omega)).1
   rw [R.b h0] at this
   exact this
  have e:(sm n fun q=>x q * r.A q) = x k * r.A k + x (k - 1) * r.A (k - 1):=by
   have e1:(sm n fun q=>x q * r.A q) = sm n fun q=>(if q = k then x k * r.A k else 0) + (if q = k then 0 else x q * r.A q):=zf fun q _=>by
    by_cases z:q = k
    ·rw [if_pos z,if_pos z,z]; omega
    ·rw [if_neg z,if_neg z]; omega
   rw [e1,u3,xq hk _ (fun q _ z=>if_neg z),xq (k:=k - 1) (by omega) _ (fun q hq z=>?_),if_pos rfl,if_neg (by omega)]
   by_cases w:q = k
   ·rw [if_pos w]
   ·rw [if_neg w,az q hq w (by omega),Int.mul_zero]
  rw [e,if_pos h0,ak]
  generalize r.A (k - 1) = A at *
  generalize (r.yb:Int) = y at *
  generalize ((st k).2:Int) = s2 at *
  generalize (st k).1 = s1 at *
  rw [show (x k * y + x (k - 1) * A) * s2 = x k * y * s2 + x (k - 1) * (A * s2) by grind,ab]
  grind
 ·rw [if_neg h0,xq hk _ (fun q hq z=>by rw [az q hq z (by omega),Int.mul_zero]),ak]
  grind
theorem RC.le {n k:Nat} {st:Nat->Int × Nat} {mo:Nat->Int} {r:RowG} (R:RC n st mo k r) (ok:r.Ok n) (hk:k < n) (s1:1 <= (st k).2) (x:Nat->Int) (d:Int):r.B * d <= (sm n fun q=>x q * r.A q) ↔ mo k * d * ((st k).2:Int) <= x k * ((st k).2:Int) - pv x k * (st k).1:=by
 obtain ⟨e,b⟩:=R.sum ok hk x
 have yp:=ok.eqB.2.2
 have sp:0 < ((st k).2:Int):=by omega
 generalize (sm n fun q=>x q * r.A q) = T at *
 rw [b]
 generalize (r.yb:Int) = y at *
 generalize ((st k).2:Int) = s2 at *
 generalize x k * s2 - pv x k * (st k).1 = w at *
 constructor
 ·intro h
  have t:=Int.mul_le_mul_of_nonneg_right h (Int.le_of_lt sp)
  rw [e,show mo k * y * d * s2 = mo k * d * s2 * y by grind] at t
  exact Int.le_of_mul_le_mul_right t yp
 ·intro h
  have t:=Int.mul_le_mul_of_nonneg_right h (Int.le_of_lt yp)
  rw [<- e,show mo k * d * s2 * y = mo k * y * d * s2 by grind] at t
  exact Int.le_of_mul_le_mul_right t sp
structure LF (n:Nat) (st:Nat->Int × Nat) (mo:Nat->Int) (l:Nat->Int × Nat):Prop where
 s0:∀ k,k < n->0 <= (st k).1 /\ 1 <= (st k).2
 q1:∀ k,k < n->1 <= (l k).2
 p0:∀ k,k < n->0 <= (l k).1
 one:∀ k,k < n->Int.gcd (l k).1 ((l k).2:Int) = 1
 up:∀ k,k < n->(pv (fun q=>(l q).1) k * (st k).1 + mo k * ((if 0 < k then ((l (k - 1)).2:Int) else 1) * ((st k).2:Int))) * ((l k).2:Int) <= (l k).1 * ((if 0 < k then ((l (k - 1)).2:Int) else 1) * ((st k).2:Int))
 lo:∀ k,k < n->(l k).1 = 0 \/ (l k).1 * ((if 0 < k then ((l (k - 1)).2:Int) else 1) * ((st k).2:Int)) = (pv (fun q=>(l q).1) k * (st k).1 + mo k * ((if 0 < k then ((l (k - 1)).2:Int) else 1) * ((st k).2:Int))) * ((l k).2:Int)
section
variable {n:Nat} {st:Nat->Int × Nat} {mo:Nat->Int} {l:Nat->Int × Nat} {rows:List RowG}
theorem Oq (L:LF n st mo l) (ro:∀ r ∈ rows,r.Ok n) (hr:∀ k,k < n->∃ r ∈ rows,RC n st mo k r) {x:Nat->Int} {d:Int} (F:Fs n rows x d):∀ k,k < n->(l k).1 * d <= x k * ((l k).2:Int):=fun k=>by
 induction k with
 | zero =>
  intro hk
  obtain ⟨r,m,R⟩:=hr 0 hk
  have h:=(R.le (ro r m) hk (L.s0 0 hk).2 x d).mp (F.le r m)
  have xp:=F.x0 0 hk
  have q1:=L.q1 0 hk
  have dp:=F.d0
  rcases L.lo 0 hk with z | z
  ·rw [z,Int.zero_mul]
   exact Int.mul_nonneg xp (by omega)
  ·unfold pv at h z
   rw [if_neg (by decide)] at h
   rw [if_neg (by decide),if_neg (by decide)] at z
   have s2:0 < ((st 0).2:Int):=by have:=(L.s0 0 hk).2; omega
   have q2:0 < ((l 0).2:Int):=by omega
   generalize ((st 0).2:Int) = s at *
   generalize ((l 0).2:Int) = q at *
   generalize (l 0).1 = p at *
   refine Int.le_of_mul_le_mul_right (a:=s) ?_ s2
   rw [show p * d * s = p * (1 * s) * d by grind,z]
   have t:=Int.mul_le_mul_of_nonneg_right h (Int.le_of_lt q2)
   rw [show (0 * (st 0).1 + mo 0 * (1 * s)) * q * d = mo 0 * d * s * q by grind,show x 0 * q * s = (x 0 * s - 0 * (st 0).1) * q by grind]
   exact t
 | succ k ih =>
  intro hk
  have ih:=ih (by omega)
  obtain ⟨r,m,R⟩:=hr (k + 1) hk
  have h:=(R.le (ro r m) hk (L.s0 (k + 1) hk).2 x d).mp (F.le r m)
  have xp:=F.x0 (k + 1) hk
  have q1:=L.q1 (k + 1) hk
  have q0:=L.q1 k (by omega)
  have dp:=F.d0
  rcases L.lo (k + 1) hk with z | z
  ·rw [z,Int.zero_mul]
   exact Int.mul_nonneg xp (by omega)
  ·unfold pv at h z
   rw [if_pos (Nat.succ_pos k),Nat.add_sub_cancel] at h
   rw [if_pos (Nat.succ_pos k),if_pos (Nat.succ_pos k),Nat.add_sub_cancel] at z
   try dsimp only at z
   obtain ⟨sa,sb⟩:=L.s0 (k + 1) hk
   have s2:0 < ((st (k + 1)).2:Int):=by omega
   have q2:0 < ((l (k + 1)).2:Int):=by omega
   have q3:0 < ((l k).2:Int):=by omega
   generalize ((st (k + 1)).2:Int) = s at *
   generalize (st (k + 1)).1 = a at *
   generalize ((l (k + 1)).2:Int) = q at *
   generalize (l (k + 1)).1 = p at *
   generalize ((l k).2:Int) = q0' at *
   generalize (l k).1 = p0 at *
   generalize x (k + 1) = X at *
   generalize x k = X0 at *
   generalize mo (k + 1) = M at *
   refine Int.le_of_mul_le_mul_right (a:=q0' * s) ?_ (Int.mul_pos q3 s2)
   rw [show p * d * (q0' * s) = p * (q0' * s) * d by grind,z]
   have t1:=Int.mul_le_mul_of_nonneg_right h (Int.le_of_lt (Int.mul_pos q2 q3))
   have t2:=Int.mul_le_mul_of_nonneg_right ih (Int.mul_nonneg sa (Int.le_of_lt q2))
   rw [show (p0 * a + M * (q0' * s)) * q * d = p0 * d * (a * q) + M * d * s * (q * q0') by grind,show X * q * (q0' * s) = X0 * q0' * (a * q) + (X * s - X0 * a) * (q * q0') by grind]
   omega
theorem Ot (L:LF n st mo l) {pt:List (Int × Nat)} (pl:pt.length = n) (pe:∀ q,q < n->pt.getD q (0,1) = l q) (p1:∀ p ∈ pt,1 <= p.2) (ro:∀ r ∈ rows,r.Ok n) (hr:∀ r ∈ rows,∃ k,k < n /\ RC n st mo k r):Fs n rows (fun q=>cst (wcs pt) q) (yc pt:Int):=by
 have Yp:=Xy p1
 have X:∀ q,q < n->cst (wcs pt) q * ((l q).2:Int) = (l q).1 * (yc pt:Int):=fun q hq=>by
  have:=(ptE p1 (p:=q) (by rw [pl]; exact hq)).1
  rw [pe q hq] at this
  exact this
 refine ⟨Yp,fun q hq=>?_,fun r m=>?_⟩
 ·have e:=X q hq
  have q2:0 < ((l q).2:Int):=by have:=L.q1 q hq; omega
  refine Int.not_lt.mp fun z=>?_
  have:=Int.mul_neg_of_neg_of_pos z q2
  rw [e] at this
  have:=Int.mul_nonneg (L.p0 q hq) (Int.le_of_lt Yp)
  omega
 ·obtain ⟨k,hk,R⟩:=hr r m
  refine (R.le (ro r m) hk (L.s0 k hk).2 _ _).mpr ?_
  have u:=L.up k hk
  have e:=X k hk
  have q2:0 < ((l k).2:Int):=by have:=L.q1 k hk; omega
  have s2:0 < ((st k).2:Int):=by have:=(L.s0 k hk).2; omega
  unfold pv at u ⊢
  by_cases h0:0 < k
  ·rw [if_pos h0,if_pos h0] at u
   rw [if_pos h0]
   try dsimp only at u ⊢
   have e0:=X (k - 1) (by omega)
   have q0:0 < ((l (k - 1)).2:Int):=by have:=L.q1 (k - 1) (by omega); omega
   generalize ((l k).2:Int) = q at *
   generalize (l k).1 = p at *
   generalize ((l (k - 1)).2:Int) = q' at *
   generalize (l (k - 1)).1 = p' at *
   generalize ((st k).2:Int) = s at *
   generalize (st k).1 = a at *
   generalize (yc pt:Int) = Y at *
   generalize cst (wcs pt) k = C at *
   generalize cst (wcs pt) (k - 1) = C' at *
   refine Int.le_of_mul_le_mul_right (a:=q * q') ?_ (Int.mul_pos q2 q0)
   rw [show (C * s - C' * a) * (q * q') = C * q * (s * q') - C' * q' * (a * q) by grind,e,e0]
   have t:=Int.mul_le_mul_of_nonneg_right u (Int.le_of_lt Yp)
   have w1:(p' * a + mo k * (q' * s)) * q * Y = mo k * Y * s * (q * q') + p' * Y * (a * q):=by grind
   have w2:p * (q' * s) * Y = p * Y * (s * q'):=by grind
   omega
  ·rw [if_neg h0,if_neg h0] at u
   rw [if_neg h0]
   generalize ((l k).2:Int) = q at *
   generalize (l k).1 = p at *
   generalize ((st k).2:Int) = s at *
   generalize (st k).1 = a at *
   generalize (yc pt:Int) = Y at *
   generalize cst (wcs pt) k = C at *
   refine Int.le_of_mul_le_mul_right (a:=q) ?_ q2
   rw [show (C * s - 0 * a) * q = C * q * s by grind,e]
   have t:=Int.mul_le_mul_of_nonneg_right u (Int.le_of_lt Yp)
   have w1:(0 * a + mo k * (1 * s)) * q * Y = mo k * Y * s * q:=by grind
   have w2:p * (1 * s) * Y = p * Y * s:=by grind
   omega
end
theorem Mc:∀ {n:Nat} {f:Nat->Int},(∀ q,q < n->0 <= f q)->sm n f <= 0->∀ q,q < n->f q = 0
 | 0,_,_,_,_,h=>absurd h (Nat.not_lt_zero _)
 | n + 1,f,h0,h,q,hq=>by
  have h:sm n f + f n <= 0:=h
  have a:=Uw (f:=f) (n:=n) fun i hi=>h0 i (by omega)
  have b:=h0 n (Nat.lt_succ_self n)
  by_cases z:q < n
  ·exact Mc (fun i hi=>h0 i (by omega)) (by omega) q z
  ·rw [show q = n by omega]
   omega
theorem Mm {p q:Int} (hq:0 < q) (h:Int.gcd p q = 1):rt p q = (p,q):=by
 have e:sg p q = 1:=by unfold sg; rw [if_neg (by omega),h]; rfl
 show (p.fdiv (sg p q),q.fdiv (sg p q)) = (p,q)
 rw [e,Int.fdiv_one,Int.fdiv_one]
theorem Ov {cs:List (Int × Nat)} {rows:List RowG} {s:SG} {st:Nat->Int × Nat} {mo:Nat->Int} {l:Nat->Int × Nat} (O:Of cs rows s) (m:Met s) (L:LF cs.length st mo l) (c1:∀ p ∈ cs,1 <= p.2) (cp:∀ p ∈ cs,0 < p.1) {pt:List (Int × Nat)} (pl:pt.length = cs.length) (pe:∀ q,q < cs.length->pt.getD q (0,1) = l q) (p1:∀ p ∈ pt,1 <= p.2) (ro:∀ r ∈ rows,r.Ok cs.length) (h1:∀ r ∈ rows,∃ k,k < cs.length /\ RC cs.length st mo k r) (h2:∀ k,k < cs.length->∃ r ∈ rows,RC cs.length st mo k r):∀ q,q < cs.length->gx s q * ((l q).2:Int) = (l q).1 * s.b /\ rt (gx s q) s.b = ((l q).1,((l q).2:Int)):=by
 have F:=Wn O m
 have lo:=Oq L ro h2 F
 have P:=Ot L pl pe p1 ro h1
 have le:=K9 O m P
 have g0:=Wm O m
 have Yp:=Xy p1
 have bp:0 < s.b:=O.g.iv.d0
 have X:∀ q,q < cs.length->cst (wcs pt) q * ((l q).2:Int) = (l q).1 * (yc pt:Int):=fun q hq=>by
  have:=(ptE p1 (p:=q) (by rw [pl]; exact hq)).1
  rw [pe q hq] at this
  exact this
 have cpos:∀ q,q < cs.length->0 < cst (wcs cs) q:=fun q hq=>by
  obtain ⟨e,d0⟩:=ptE c1 hq
  refine Int.not_le.mp fun z=>?_
  have:=Int.mul_nonpos_of_nonpos_of_nonneg z (Int.le_of_lt d0)
  rw [e] at this
  have:=Int.mul_pos (cp _ (vm hq)) (Xy c1)
  omega
 have nn:∀ q,q < cs.length->0 <= (yc pt:Int) * gx s q - s.b * cst (wcs pt) q:=fun q hq=>by
  have q2:0 < ((l q).2:Int):=by have:=L.q1 q hq; omega
  have a:=lo q hq
  have e:=X q hq
  refine Int.not_lt.mp fun z=>?_
  have:=Int.mul_neg_of_neg_of_pos z q2
  have w:((yc pt:Int) * gx s q - s.b * cst (wcs pt) q) * ((l q).2:Int) = (yc pt:Int) * (gx s q * ((l q).2:Int) - (l q).1 * s.b):=by
   generalize cst (wcs pt) q = C at *
   generalize ((l q).2:Int) = q' at *
   generalize (yc pt:Int) = Y at *
   generalize gx s q = g at *
   rw [show (Y * g - s.b * C) * q' = Y * g * q' - s.b * (C * q') by grind,e]
   grind
  rw [w] at this
  have:=Int.mul_nonneg (Int.le_of_lt Yp) (show 0 <= gx s q * ((l q).2:Int) - (l q).1 * s.b by omega)
  omega
 have S:sm cs.length (fun q=>((yc pt:Int) * gx s q - s.b * cst (wcs pt) q) * cst (wcs cs) q) <= 0:=by
  have e:sm cs.length (fun q=>((yc pt:Int) * gx s q - s.b * cst (wcs pt) q) * cst (wcs cs) q) = (yc pt:Int) * sm cs.length (fun q=>gx s q * cst (wcs cs) q) + (-s.b) * sm cs.length fun q=>cst (wcs pt) q * cst (wcs cs) q:=by
   rw [<- ye,<- ye,<- u3]
   refine zf fun q _=>?_
   generalize cst (wcs pt) q = C
   generalize cst (wcs cs) q = C'
   generalize (yc pt:Int) = Y
   generalize gx s q = g
   generalize s.b = b
   grind
  rw [e,<- g0,Int.neg_mul]
  omega
 intro q hq
 have z:=Mc (fun q hq=>Int.mul_nonneg (nn q hq) (Int.le_of_lt (cpos q hq))) S q hq
 have z2:(yc pt:Int) * gx s q - s.b * cst (wcs pt) q = 0:=by
  rcases Int.mul_eq_zero.mp z with w | w
  ·exact w
  ·have:=cpos q hq
   omega
 have q2:0 < ((l q).2:Int):=by have:=L.q1 q hq; omega
 have e:=X q hq
 have key:gx s q * ((l q).2:Int) = (l q).1 * s.b:=by
  refine Int.eq_of_mul_eq_mul_right (a:=(yc pt:Int)) (by omega) ?_
  generalize cst (wcs pt) q = C at *
  generalize ((l q).2:Int) = q' at *
  generalize (yc pt:Int) = Y at *
  generalize gx s q = g at *
  rw [show (l q).1 * s.b * Y = s.b * ((l q).1 * Y) by grind,<- e]
  have:Y * g = s.b * C:=by omega
  rw [show g * q' * Y = Y * g * q' by grind,this]
  grind
 refine ⟨key,?_⟩
 rw [k9 bp q2 key,Mm q2 (L.one q hq)]
end
section
variable {P:Program} {w:World} {K:W.Frag} {mg:Str->Option Value} {base:Heap} {f C:Addr} {fd:FuncData}
noncomputable def Ql:FT:=w1 fun _ φ=>∀ (a b:Nat),a <= 3->b ∣ 4->φ (dv (.tup [.int a,.int b]))
noncomputable def Jc:FT:=w1 fun _ φ=>∀ c:Int,c.natAbs <= 10 ^ 30->φ (dv (.tup [.int c,.int 1]))
theorem rt4:∀ k:Nat,k <= 3->∃ a b:Nat,a <= 3 /\ b ∣ 4 /\ rtD (k:Int) 4 = .tup [.int a,.int b]
 | 0,_=>⟨0,1,by decide,by decide,rfl⟩
 | 1,_=>⟨1,4,by decide,by decide,rfl⟩
 | 2,_=>⟨1,2,by decide,by decide,rfl⟩
 | 3,_=>⟨3,4,by decide,by decide,rfl⟩
 | k + 4,h=>absurd h (by omega)
noncomputable def mD (c:Int):D:=.tup [.int c,.int 1]
noncomputable def lp (l:List (Int × Nat)):Int × Nat:=if 0 < l.length then l.getD (l.length - 1) (0,1) else (0,1)
noncomputable def lfT (p0:Int × Nat) (s:Int × Nat) (m:Int):Int:=p0.1 * s.1 + m * ((p0.2:Int) * (s.2:Int))
theorem jq {l:List (Int × Nat)} {p z:Int × Nat} {k:Nat} (h:k < l.length):(l ++ [p]).getD k z = l.getD k z:=by
 unfold List.getD
 rw [List.getElem?_append_left h]
theorem fw {l:List (Int × Nat)} {p z:Int × Nat}:(l ++ [p]).getD l.length z = p:=by
 unfold List.getD
 rw [List.getElem?_append_right (Nat.le_refl _),Nat.sub_self]
 rfl
theorem Nk (l:List (Int × Nat)) (p:Int × Nat):lp (l ++ [p]) = p:=by
 unfold lp
 rw [show (l ++ [p]).length = l.length + 1 from List.length_append,if_pos (Nat.succ_pos _),Nat.add_sub_cancel]
 exact fw
theorem LF.snoc {st:Nat->Int × Nat} {mo:Nat->Int} {l:List (Int × Nat)} {p:Int × Nat} (L:LF l.length st mo fun q=>l.getD q (0,1)) (s0:0 <= (st l.length).1 /\ 1 <= (st l.length).2) (q1:1 <= p.2) (p0:0 <= p.1) (one:Int.gcd p.1 (p.2:Int) = 1) (up:lfT (lp l) (st l.length) (mo l.length) * (p.2:Int) <= p.1 * (((lp l).2:Int) * ((st l.length).2:Int))) (lo:p.1 = 0 \/ p.1 * (((lp l).2:Int) * ((st l.length).2:Int)) = lfT (lp l) (st l.length) (mo l.length) * (p.2:Int)):LF (l ++ [p]).length st mo fun q=>(l ++ [p]).getD q (0,1):=by
 have el:(l ++ [p]).length = l.length + 1:=List.length_append
 have two:∀ {k:Nat},k < (l ++ [p]).length->k < l.length \/ k = l.length:=fun {k} hk=>by omega
 have pvE:∀ k,k <= l.length->pv (fun q=>((l ++ [p]).getD q (0,1)).1) k = pv (fun q=>(l.getD q (0,1)).1) k:=fun k hk=>by
  unfold pv
  by_cases z:0 < k
  ·rw [if_pos z,if_pos z]
   show ((l ++ [p]).getD (k - 1) (0,1)).1 = (l.getD (k - 1) (0,1)).1
   rw [jq (by omega)]
  ·rw [if_neg z,if_neg z]
 have qE:∀ k,k <= l.length->(if 0 < k then (((l ++ [p]).getD (k - 1) (0,1)).2:Int) else 1) = if 0 < k then ((l.getD (k - 1) (0,1)).2:Int) else 1:=fun k hk=>by
  by_cases z:0 < k
  ·rw [if_pos z,if_pos z,jq (by omega)]
  ·rw [if_neg z,if_neg z]
 have e1:pv (fun q=>(l.getD q (0,1)).1) l.length = (lp l).1:=by
  unfold pv lp
  by_cases z:0 < l.length
  ·rw [if_pos z,if_pos z]
  ·rw [if_neg z,if_neg z]
 have e2:(if 0 < l.length then ((l.getD (l.length - 1) (0,1)).2:Int) else 1) = ((lp l).2:Int):=by
  unfold lp
  by_cases z:0 < l.length
  ·rw [if_pos z,if_pos z]
  ·rw [if_neg z,if_neg z]; rfl
 refine ⟨fun k hk=>?_,fun k hk=>?_,fun k hk=>?_,fun k hk=>?_,fun k hk=>?_,fun k hk=>?_⟩ <;> rcases two hk with h | h
 ·exact L.s0 k h
 ·rw [h]; exact s0
 ·rw [jq h]; exact L.q1 k h
 ·rw [h,fw]; exact q1
 ·rw [jq h]; exact L.p0 k h
 ·rw [h,fw]; exact p0
 ·rw [jq h]; exact L.one k h
 ·rw [h,fw]; exact one
 ·rw [pvE k (by omega),qE k (by omega),jq h]; exact L.up k h
 ·rw [h,pvE _ (Nat.le_refl _),qE _ (Nat.le_refl _),fw,e1,e2]; exact up
 ·rw [pvE k (by omega),qE k (by omega),jq h]; exact L.lo k h
 ·rw [h,pvE _ (Nat.le_refl _),qE _ (Nat.le_refl _),fw,e1,e2]; exact lo
noncomputable def Jg:FT:=fun ds φ=>∃ (st:List (Int × Nat)) (mo:List Int),ds = [.lst (st.map qqD),.lst (mo.map mD)] /\ st.length = mo.length /\ st.length <= 24 /\ (∀ s ∈ st,0 <= s.1 /\ s.1 <= 3 /\ s.2 ∣ 4) /\ (∀ c ∈ mo,c.natAbs <= 2 ^ 100) /\ ∀ l:List (Int × Nat),l.length = st.length->(LF l.length (fun q=>st.getD q (0,1)) (fun q=>mo.getD q 0) fun q=>l.getD q (0,1))->(∀ p ∈ l,NN 200 50 p)->φ (df (.lst (l.map qqD)))
structure LS (i:Nat) (p:Int × Nat):Prop where
 a:p.1.natAbs <= 2 ^ (100 + 4 * i)
 b1:1 <= p.2
 b:p.2 <= 2 ^ (2 * i)
 p0:0 <= p.1
theorem LS.nn {i:Nat} {p:Int × Nat} (h:LS i p) (hi:i <= 24):NN 200 50 p:=⟨Nat.lt_of_le_of_lt h.a (Nat.pow_lt_pow_right (by decide) (by omega)),h.b1,Nat.lt_of_le_of_lt h.b (Nat.pow_lt_pow_right (by decide) (by omega))⟩
theorem S6 {i:Nat} {p0 s:Int × Nat} {m:Int} (h:LS i p0) (hs:0 <= s.1 /\ s.1 <= 3 /\ s.2 ∣ 4) (hm:m.natAbs <= 2 ^ 100):0 < (p0.2:Int) * (s.2:Int) /\ ((p0.2:Int) * (s.2:Int)).natAbs <= 2 ^ (2 * (i + 1)) /\ (lfT p0 s m).natAbs <= 2 ^ (100 + 4 * (i + 1)):=by
 obtain ⟨s1,s2⟩:=dvd4 hs.2.2
 have b1:=h.b1
 have b:=h.b
 have a:=h.a
 have q:((p0.2:Int) * (s.2:Int)).natAbs <= 2 ^ (2 * i) * 4:=by
  rw [Int.natAbs_mul,Int.natAbs_natCast,Int.natAbs_natCast]
  exact Nat.mul_le_mul b s2
 refine ⟨Int.mul_pos (by omega) (by omega),by rw [show 2 * (i + 1) = 2 * i + 2 by omega,Nat.pow_add]; exact q,?_⟩
 have t1:(p0.1 * s.1).natAbs <= 2 ^ (100 + 4 * i) * 3:=by
  rw [Int.natAbs_mul]
  exact Nat.mul_le_mul a (by omega)
 have t2:(m * ((p0.2:Int) * (s.2:Int))).natAbs <= 2 ^ (100 + 4 * i) * 4:=by
  rw [Int.natAbs_mul]
  refine Nat.le_trans (Nat.mul_le_mul hm q) ?_
  rw [<- Nat.mul_assoc,<- Nat.pow_add]
  exact Nat.mul_le_mul_right _ (Nat.pow_le_pow_right (by decide) (by omega))
 unfold lfT
 rw [show 100 + 4 * (i + 1) = 100 + 4 * i + 4 by omega,Nat.pow_add]
 generalize (2:Nat) ^ (100 + 4 * i) = X at *
 generalize p0.1 * s.1 = u at *
 generalize m * ((p0.2:Int) * (s.2:Int)) = v at *
 omega
theorem Xi (T:Tops mg) (Dn:FD P w K mg base 2 "_law_lowest" ["_law_top", "_law_bottom"] tLow) (F:Fun K "_law_step" "_law_step" (top 25) f fd) (m:mg "_law_step" = some (.ref f)):FD P w K mg base 3 "_law_step" ["_law_cell"] Ql:=by
 have S:zp ["_law_cell"] ["_law_cell"] (zb (top 25)):=⟨rfl,rfl,rfl,by decide +kernel,rfl,by decide +kernel,by decide +kernel⟩
 refine ue F S (F.binds fun _ _ _ _ _ _ us hl=>(by obtain ⟨_,rfl⟩:=sy hl; rfl)) m fun qZ A outer s H E ds φ hr hl hT=>?_
 have hu:=hr.units
 refine ⟨_,(zg (wu (Y0 hu (wn (z9 0) zc) zc) (zm (yd (zy Dn (hr.mono (by decide)) (za (wn (ut (z9 0) zc) zc) (za zc zd))))) yz)
   (zm (yd (yv (za (wn (ut (z9 0) zc) zc) (za zc zd)))))),?_⟩
 obtain ⟨c,rfl,h⟩:=Qe hT
 have f9:∀ (x:Int) (y:Int),y ≠ 0->y.natAbs <= 100->FdOk x y:=fun x y a b=>of_eq_true (Ra a (by omega))
 have mb:=gm (c.fdiv 3) 4 (by decide)
 obtain ⟨k,ek⟩:=Int.eq_ofNat_of_zero_le mb.1
 refine yg ⟨(show (3:Int) ≠ 0 by decide),yq ▸ trivial,yq ▸ trivial,fun _=>?_,fun _=>vh ?_⟩
 ·obtain ⟨a,b,ha,hb,e⟩:=rt4 k (by omega)
  refine ⟨f9 _ _ (by decide) (by decide),(show (4:Int) ≠ 0 by decide),rfl,(show (0:Int) < 4 by decide),(show intBits 4 <= 8900 by decide),⟨trivial,trivial,trivial⟩,?_⟩
  show φ (dv (rtD ((c.fdiv 3).fmod 4) 4))
  rw [ek,e]
  exact h a b ha hb
 ·dsimp only
  refine ⟨f9 _ _ (by decide) (by decide),(show (4:Int) ≠ 0 by decide),rfl,rfl,⟨trivial,trivial,trivial⟩,?_⟩
  show φ (dv (.tup [.int ((c.fdiv 3).fmod 4),.int 1]))
  rw [ek]
  exact h k 1 (by omega) (by decide)
theorem Xj (T:Tops mg) (F:Fun K "_law_more" "_law_more" (top 26) f fd) (m:mg "_law_more" = some (.ref f)):FD P w K mg base 1 "_law_more" ["_law_cell"] Jc:=by
 have S:zp ["_law_cell"] ["_law_cell"] (zb (top 26)):=⟨rfl,rfl,rfl,by decide +kernel,rfl,by decide +kernel,by decide +kernel⟩
 refine ue F S (F.binds fun _ _ _ _ _ _ us hl=>(by obtain ⟨_,rfl⟩:=sy hl; rfl)) m fun qZ A outer s H E ds φ hr hl hT=>?_
 have hu:=hr.units
 refine ⟨_,(zg (wu (Y0 hu (wn (z9 0) zc) zc) (zm (yd (yv (za (xn (qd (wn (ut (z9 0) zc) (qd (yk zc (Rg zc zc)) zc)) (Rg zc zc)) zc) (za zc zd))))) yz)
   (zm (yd (yv (za (qd (wn (ut (z9 0) zc) zc) zc) (za zc zd)))))),?_⟩
 obtain ⟨c,rfl,h⟩:=Qe hT
 have f9:∀ (x:Int) (y:Int),y ≠ 0->y.natAbs <= 100->FdOk x y:=fun x y a b=>of_eq_true (Ra a (by omega))
 refine yg ⟨(show (4:Int) ≠ 0 by decide),yq ▸ trivial,yq ▸ trivial,fun _=>?_,fun _=>vh ?_⟩
 ·have m3:=gm (c.fdiv 4) (2 * 10 ^ 30 - 1) (by decide)
  walk_at "dl"
  exact ⟨f9 _ _ (by decide) (by decide),IntMulOk.of_left (by decide),by decide,h _ (by omega)⟩
 ·dsimp only
  have m2:=gm (c.fdiv 4) 41 (by decide)
  refine ⟨f9 _ _ (by decide) (by decide),(show (41:Int) ≠ 0 by decide),rfl,rfl,⟨trivial,trivial,trivial⟩,?_⟩
  exact h _ (by omega)
theorem bh (T:Tops mg) (Dn:FD P w K mg base 2 "_law_lowest" ["_law_top", "_law_bottom"] tLow) (F:Fun K "_law_lifted" "_law_lifted" (top 27) f fd) (m:mg "_law_lifted" = some (.ref f)):FD P w K mg base 3 "_law_lifted" ["_law_steps", "_law_more_here"] Jg:=by
 have S:zp ["_law_steps", "_law_more_here", "_law_found", "_law_last", "_law_step_here", "_law_number", "_law_bottom"] ["_law_steps", "_law_more_here"] (zb (top 27)):=⟨rfl,rfl,rfl,by decide +kernel,rfl,by decide +kernel,by decide +kernel⟩
 refine ue F S (F.binds fun _ _ _ _ _ _ us hl=>(by obtain ⟨_,_,rfl⟩:=t6 hl; rfl)) m fun qZ A outer s H E ds φ hr hl hT=>?_
 have hu:=hr.units
 refine ⟨_,(zg (yj (y0 2 S.nd (wx zd)))
   (zg (yj (y0 3 S.nd (yv (za zc (za zc zd)))))
   (zg (yj (rq (Y1 T.zip (za (z9 0) (za (z9 1) zd))) (xv (K0:=K) (n:=2) (by rfl) (by rfl) (zw (zr (i:=4) S.nd rfl (by walk_at "o")) (zw (zr (i:=5) S.nd rfl (by walk_at "o")) xu))) (xx 4 5) (zg (yj (y0 6 S.nd (yk (zn hu (z9 3) zc) (zn hu (z9 4) zc))))
    (zg (yj (y0 3 S.nd (zy Dn (hr.mono (by decide)) (za (xn (yk (yk (zn hu (z9 3) zc) (zn hu (z9 4) zc)) (zn hu (z9 5) zc)) (yk (zn hu (z9 5) zc) (z9 6))) (za (yk (z9 6) (zn hu (z9 5) zc)) zd)))))
    (zg (yj (wu (Og (zn hu (z9 3) zc) zc) (zm (y0 3 S.nd (yv (za zc (za zc zd))))) yz))
    (zm (Z4 2 (z9 3))))))))
   (zm (yd (z9 2)))))),?_⟩
 obtain ⟨st,mo,rfl,hlen,h24,hs,hm,h⟩:=hT
 refine zv (fun ρ=>ρ = [some (dv (.lst (st.map qqD))),some (dv (.lst (mo.map mD))),some (dO (.lst [])),none,none,none,none]) ?_ ?_
 ·exact ⟨rfl,rfl,trivial,rfl⟩
 rintro _ rfl
 refine zv (fun ρ=>ρ = [some (dv (.lst (st.map qqD))),some (dv (.lst (mo.map mD))),some (dO (.lst [])),some (dv (qqD (0,1))),none,none,none]) ?_ ?_
 ·exact ⟨rfl,rfl,trivial,rfl⟩
 rintro _ rfl
 refine zv (fun ρ=>∃ (l:List (Int × Nat)) (x4 x5 x6:Option EV),l.length = st.length /\ (LF l.length (fun q=>st.getD q (0,1)) (fun q=>mo.getD q 0) fun q=>l.getD q (0,1)) /\ (∀ p ∈ l,NN 200 50 p) /\ ρ = [some (dv (.lst (st.map qqD))),some (dv (.lst (mo.map mD))),some (dO (.lst (l.map qqD))),some (dv (qqD (lp l))),x4,x5,x6]) ?_ ?_
 ·refine u4 (zipD (st.map qqD) (mo.map mD)) (fun ψ hψ=>Sl (x:=.lst (st.map qqD)) (y:=.lst (mo.map mD)) (fun ψ hψ=>hψ) (fun ψ hψ=>hψ) rfl rfl hψ) (fun i ρ=>∃ (l:List (Int × Nat)) (x4 x5 x6:Option EV),l.length = i /\ LS i (lp l) /\ (LF l.length (fun q=>st.getD q (0,1)) (fun q=>mo.getD q 0) fun q=>l.getD q (0,1)) /\ (∀ p ∈ l,NN 200 50 p) /\ ρ = [some (dv (.lst (st.map qqD))),some (dv (.lst (mo.map mD))),some (dO (.lst (l.map qqD))),some (dv (qqD (lp l))),x4,x5,x6]) ⟨[],none,none,none,rfl,⟨by decide,by decide,by decide,by decide⟩,⟨fun _ z=>absurd z (Nat.not_lt_zero _),fun _ z=>absurd z (Nat.not_lt_zero _),fun _ z=>absurd z (Nat.not_lt_zero _),fun _ z=>absurd z (Nat.not_lt_zero _),fun _ z=>absurd z (Nat.not_lt_zero _),fun _ z=>absurd z (Nat.not_lt_zero _)⟩,fun _ z=>(nomatch z),rfl⟩ ?_ ?_
  ·rintro i d _ hd ⟨l,x4,x5,x6,rfl,hL,hF,hN,rfl⟩
   unfold zipD at hd
   rw [List.getElem?_zipWith,List.getElem?_map,List.getElem?_map] at hd
   cases e1:st[l.length]? with
   | none=>rw [e1] at hd; cases hd
   | some s =>
    cases e2:mo[l.length]? with
    | none=>rw [e1,e2] at hd; cases hd
    | some c =>
     rw [e1,e2] at hd
     cases hd
     have hs1:=hs s (List.mem_of_getElem? e1)
     have hm1:=hm c (List.mem_of_getElem? e2)
     have li:=(List.getElem?_eq_some_iff.mp e1).1
     obtain ⟨b0,b1,t1⟩:=S6 (i:=l.length) (p0:=lp l) (s:=s) (m:=c) hL hs1 hm1
     have big:∀ {x:Int},x.natAbs <= 2 ^ (100 + 4 * (l.length + 1))->intBits x <= 900100:=fun {x} hx=>Nat.le_trans (wy (m:=200) (Nat.lt_of_le_of_lt hx (Nat.pow_lt_pow_right (by decide) (by omega)))) (by decide)
     have lb1:=hL.b1
     obtain ⟨sd1,sd2⟩:=dvd4 hs1.2.2
     have bL2:intBits ((lp l).2:Int) <= 900100:=big (by rw [Int.natAbs_natCast]; exact Nat.le_trans hL.b (Nat.pow_le_pow_right (by decide) (by omega)))
     have bL1:intBits (lp l).1 <= 900100:=big (Nat.le_trans hL.a (Nat.pow_le_pow_right (by decide) (by omega)))
     have bs2:intBits (s.2:Int) <= 900100:=Nat.le_trans (wy (m:=3) (by rw [Int.natAbs_natCast]; omega)) (by decide)
     have bs1:intBits s.1 <= 900100:=Nat.le_trans (wy (m:=3) (by omega)) (by decide)
     have bB:intBits (((lp l).2:Int) * (s.2:Int)) <= 900100:=big (Nat.le_trans b1 (Nat.pow_le_pow_right (by decide) (by omega)))
     have bc:intBits c <= 900100:=big (Nat.le_trans hm1 (Nat.pow_le_pow_right (by decide) (by omega)))
     have bm:intBits ((lp l).1 * s.1) <= 900100:=big (by
      rw [Int.natAbs_mul]
      refine Nat.le_trans (Nat.mul_le_mul hL.a (show s.1.natAbs <= 2 ^ 4 by omega)) ?_
      rw [<- Nat.pow_add]
      exact Nat.pow_le_pow_right (by decide) (by omega))
     refine V0 ?_
     refine zv (fun ρ=>ρ = [some (dv (.lst (st.map qqD))),some (dv (.lst (mo.map mD))),some (dO (.lst (l.map qqD))),some (dv (qqD (lp l))),some (dv (qqD s)),some (dv (mD c)),some (dv (.int (((lp l).2:Int) * (s.2:Int))))]) ?_ ?_
     ·exact ⟨t5 bL2 bs2,trivial,rfl⟩
     rintro _ rfl
     have ro:=Tc (t:=lfT (lp l) s c) (b:=((lp l).2:Int) * (s.2:Int)) (by omega)
     refine zv (fun ρ=>ρ = [some (dv (.lst (st.map qqD))),some (dv (.lst (mo.map mD))),some (dO (.lst (l.map qqD))),some (dv (rtD (lfT (lp l) s c) (((lp l).2:Int) * (s.2:Int)))),some (dv (qqD s)),some (dv (mD c)),some (dv (.int (((lp l).2:Int) * (s.2:Int))))]) ?_ ?_
     ·refine ⟨t5 bL1 bs1,t5 bm (show intBits 1 <= 900100 by decide),t5 bc bB,t5 bB (show intBits 1 <= 900100 by decide),rfl,?_⟩
      show 0 < ((lp l).2:Int) * (s.2:Int) * 1 /\ intBits (((lp l).2:Int) * (s.2:Int) * 1) <= 8900 /\ True /\ _
      rw [Int.mul_one]
      refine ⟨b0,Nat.le_trans (wy (m:=100) (Nat.lt_of_le_of_lt b1 (Nat.pow_lt_pow_right (by decide) (by omega)))) (by decide),trivial,?_⟩
      show setS _ 3 (dv (rtD ((lp l).1 * s.1 * 1 + c * (((lp l).2:Int) * (s.2:Int))) (((lp l).2:Int) * (s.2:Int)))) = _
      rw [Int.mul_one]
      rfl
     rintro _ rfl
     refine zv (fun ρ=>∃ p:Int × Nat,(LS (l.length + 1) p /\ Int.gcd p.1 (p.2:Int) = 1 /\ lfT (lp l) s c * (p.2:Int) <= p.1 * (((lp l).2:Int) * (s.2:Int)) /\ (p.1 = 0 \/ p.1 * (((lp l).2:Int) * (s.2:Int)) = lfT (lp l) s c * (p.2:Int))) /\ ρ = [some (dv (.lst (st.map qqD))),some (dv (.lst (mo.map mD))),some (dO (.lst (l.map qqD))),some (dv (qqD p)),some (dv (qqD s)),some (dv (mD c)),some (dv (.int (((lp l).2:Int) * (s.2:Int))))]) ?_ ?_
     ·refine va (decide ((rt (lfT (lp l) s c) (((lp l).2:Int) * (s.2:Int))).1 < 0)) (fun ψ hψ=>hψ) (fun z=>?_) (fun z=>?_)
      ·have z:=of_decide_eq_true z
       refine ⟨rfl,rfl,trivial,(0,1),⟨⟨Nat.zero_le _,Nat.le_refl _,Nat.pow_pos (by decide),Int.le_refl _⟩,by decide,?_,.inl rfl⟩,rfl⟩
       show lfT (lp l) s c * 1 <= 0 * _
       rw [Int.mul_one,Int.zero_mul]
       refine Int.not_lt.mp fun w=>?_
       have h1:=Int.mul_neg_of_neg_of_pos z b0
       rw [ro.cross] at h1
       have h2:=Int.mul_pos w ro.pos
       omega
      ·have z:=of_decide_eq_false z
       have e:((rt (lfT (lp l) s c) (((lp l).2:Int) * (s.2:Int))).2.toNat:Int) = (rt (lfT (lp l) s c) (((lp l).2:Int) * (s.2:Int))).2:=Int.toNat_of_nonneg (by have:=ro.pos; omega)
       have cr:=ro.cross
       refine ⟨((rt (lfT (lp l) s c) (((lp l).2:Int) * (s.2:Int))).1,(rt (lfT (lp l) s c) (((lp l).2:Int) * (s.2:Int))).2.toNat),⟨⟨Nat.le_trans ro.lp t1,?_,?_,Int.not_lt.mp z⟩,?_,?_,.inr ?_⟩,?_⟩
       ·show 1 <= (rt (lfT (lp l) s c) (((lp l).2:Int) * (s.2:Int))).2.toNat
        have:=ro.pos
        omega
       ·show (rt (lfT (lp l) s c) (((lp l).2:Int) * (s.2:Int))).2.toNat <= _
        exact Nat.le_trans (by have:=ro.pos; omega) (Nat.le_trans ro.lq b1)
       ·show Int.gcd _ ((rt (lfT (lp l) s c) (((lp l).2:Int) * (s.2:Int))).2.toNat:Int) = 1
        rw [e]
        exact ro.one
       ·show lfT (lp l) s c * ((rt (lfT (lp l) s c) (((lp l).2:Int) * (s.2:Int))).2.toNat:Int) <= _
        rw [e,<- cr]
        exact Int.le_refl _
       ·show _ = lfT (lp l) s c * ((rt (lfT (lp l) s c) (((lp l).2:Int) * (s.2:Int))).2.toNat:Int)
        rw [e]
        exact cr
       ·show _ = [_,_,_,some (dv (.tup [.int _,.int ((rt (lfT (lp l) s c) (((lp l).2:Int) * (s.2:Int))).2.toNat:Int)])),_,_,_]
        rw [e]
        rfl
     rintro _ ⟨p,⟨pS,p1,pu,pl⟩,rfl⟩
     have es:st.getD l.length (0,1) = s:=by unfold List.getD; rw [e1]; rfl
     have ec:mo.getD l.length 0 = c:=by unfold List.getD; rw [e2]; rfl
     refine T7 (ds:=l.map qqD) rfl ⟨trivial,by rw [List.length_map]; omega,l ++ [p],some (dv (qqD s)),some (dv (mD c)),some (dv (.int (((lp l).2:Int) * (s.2:Int)))),List.length_append,by rw [Nk]; exact pS,LF.snoc hF (by rw [es]; exact ⟨hs1.1,sd1⟩) pS.b1 pS.p0 p1 (by rw [es,ec]; exact pu) (by rw [es,ec]; exact pl),fun q hq=>?_,?_⟩
     ·rcases List.mem_append.mp hq with hq | hq
      ·exact hN q hq
      ·rw [List.mem_singleton.mp hq]; exact pS.nn (by omega)
     ·rw [List.map_append,Nk]
      rfl
  ·rintro _ ⟨l,x4,x5,x6,el,hL,hF,hN,rfl⟩
   exact ⟨l,x4,x5,x6,by rw [el]; unfold zipD; rw [List.length_zipWith,List.length_map,List.length_map]; omega,hF,hN,rfl⟩
 rintro _ ⟨l,x4,x5,x6,el,hF,hN,rfl⟩
 exact ⟨gi.mpr fun d hd=>(by obtain ⟨p,_,rfl⟩:=List.mem_map.mp hd; exact ⟨trivial,trivial,trivial⟩),h l el hF hN⟩
theorem P1 (n:Nat) (d:D):(List.replicate n [d]).flatten = List.replicate n d:=by
 induction n with
 | zero=>rfl
 | succ n ih=>rw [List.replicate_succ,List.flatten_cons,ih]; rfl
theorem vg {l:List (Int × Nat)} {k q:Nat} {p z:Int × Nat} (h:k ≠ q):(l.set k p).getD q z = l.getD q z:=by
 unfold List.getD
 rw [List.getElem?_set_ne h]
theorem uh {l:List (Int × Nat)} {k:Nat} {p z:Int × Nat} (h:k < l.length):(l.set k p).getD k z = p:=by
 unfold List.getD
 rw [List.getElem?_set_self h]
 rfl
theorem Nn {n k:Nat} (h:k < n):ixN n ((k:Nat):Int) = some k:=by
 unfold ixN
 rw [if_pos (by omega)]
 simp
 exact h
theorem Nw {ta tb:TD} {ρ:DE} {φ:EV->Prop} (x y:EV) (h1:∀ ψ:EV->Prop,ψ x->ta ρ ψ) (h2:∀ ψ:EV->Prop,ψ y->tb ρ ψ) (h:uw [x,y] = true /\ Nat.ble 2 1000 = true /\ φ (dv (.tup [x.d,y.d]))):dTup (vq ta (vq tb aNil)) ρ φ:=h1 _ (h2 _ h)
theorem Lq {i j:Nat} {k:Int} {tk te:TD} {ρ:DE} {Z:DZ} {ds:List D} (e:slot ρ i = some (dO (.lst ds))) (d:D) (h1:∀ ψ:EV->Prop,ψ (dv d)->te ρ ψ) (h2:∀ ψ:EV->Prop,ψ (dv (.int k))->tk ρ ψ) (hk:ixN ds.length k = some j) (hz:Z.nx (setS ρ i (dO (.lst (ds.set j d))))):T6 i tk te ρ Z:=by
 unfold T6
 rw [e]
 refine h1 _ (h2 _ ⟨trivial,?_⟩)
 show match ixN ds.length k with | some j=>Z.nx (setS ρ i (dO (.lst (ds.set j d)))) | none=>False
 rw [hk]
 exact hz
noncomputable def Ja:FT:=fun ds φ=>∃ (st:List (Int × Nat)) (mo:List Int),ds = [.lst (st.map qqD),.lst (mo.map mD)] /\ st.length = mo.length /\ st.length <= 24 /\ (∀ s ∈ st,0 <= s.1 /\ s.1 <= 3 /\ s.2 ∣ 4) /\ (∀ c ∈ mo,c.natAbs <= 2 ^ 100) /\ ∀ rows:List RowG,rows.length = st.length->(∀ r ∈ rows,R46 st.length r)->(∀ k r,rows[k]? = some r->RC st.length (fun q=>st.getD q (0,1)) (fun q=>mo.getD q 0) k r)->φ (df (rsD rows))
noncomputable def rowN (n k:Nat) (s:Int × Nat):List (Int × Nat):=if 0 < k then ((List.replicate n ((0:Int),1)).set k (1,1)).set (k - 1) (-s.1,s.2) else (List.replicate n ((0:Int),1)).set k (1,1)
theorem dn (n q:Nat):(List.replicate n ((0:Int),1)).getD q (0,1) = (0,1):=by
 show (List.replicate n ((0:Int),1))[q]?.getD (0,1) = (0,1)
 rw [List.getElem?_replicate]
 split <;> rfl
theorem Qy (n k:Nat) (s:Int × Nat):(rowN n k s).length = n:=by
 unfold rowN
 split
 ·rw [List.length_set,List.length_set,List.length_replicate]
 ·rw [List.length_set,List.length_replicate]
theorem Qx {n k:Nat} {s:Int × Nat} (hs:0 <= s.1 /\ s.1 <= 3 /\ s.2 ∣ 4):∀ p ∈ rowN n k s,p.1.natAbs <= 3 /\ p.2 ∣ 4:=fun p hp=>by
 have base:∀ p ∈ (List.replicate n ((0:Int),1)).set k (1,1),p.1.natAbs <= 3 /\ p.2 ∣ 4:=fun p hp=>by
  rcases List.mem_or_eq_of_mem_set hp with m | m
  ·rw [List.eq_of_mem_replicate m]; exact ⟨by decide,by decide⟩
  ·rw [m]; exact ⟨by decide,by decide⟩
 unfold rowN at hp
 split at hp
 ·rcases List.mem_or_eq_of_mem_set hp with m | m
  ·exact base p m
  ·rw [m]; exact ⟨by show (-s.1).natAbs <= 3; omega,hs.2.2⟩
 ·exact base p hp
theorem Mn {n k:Nat} {st:Nat->Int × Nat} {mo:Nat->Int} (hk:k < n):RC n st mo k ⟨rowN n k (st k),mo k,1⟩:=by
 have l1:(List.replicate n ((0:Int),1)).length = n:=List.length_replicate
 refine ⟨?_,fun h0=>?_,fun q hq h1 h2=>?_,rfl,rfl⟩
 ·show (rowN n k (st k)).getD k (0,1) = (1,1)
  unfold rowN
  split
  ·rw [vg (by omega),uh (by rw [l1]; exact hk)]
  ·exact uh (by rw [l1]; exact hk)
 ·show (rowN n k (st k)).getD (k - 1) (0,1) = _
  unfold rowN
  rw [if_pos h0]
  exact uh (by rw [List.length_set,l1]; omega)
 ·show (rowN n k (st k)).getD q (0,1) = (0,1)
  unfold rowN
  split
  ·rw [vg (by omega),vg (fun z=>h1 z.symm),dn]
  ·rw [vg (fun z=>h1 z.symm),dn]
theorem Xc (T:Tops mg) (F:Fun K "_law_rows" "_law_rows" (top 28) f fd) (m:mg "_law_rows" = some (.ref f)):FV P w K mg base 1 "_law_rows" ["_law_steps", "_law_more_here"] Ja:=by
 have S:zp ["_law_steps", "_law_more_here", "_law_rows_here", "_law_k", "_law_numbers"] ["_law_steps", "_law_more_here"] (zb (top 28)):=⟨rfl,rfl,rfl,by decide +kernel,rfl,by decide +kernel,by decide +kernel⟩
 refine De F S (F.binds fun _ _ _ _ _ _ us hl=>(by obtain ⟨_,_,rfl⟩:=t6 hl; rfl)) m fun qZ A outer s H E ds φ hr hl hT=>?_
 have hu:=hr.units
 refine ⟨_,(zg (yj (y0 2 S.nd (wx zd)))
   (zg (yj (rq (wm T.range (za (vv T.len (za (z9 0) zd)) zd)) (zr (i:=3) S.nd rfl (by walk_at "o")) (yy 3) (zg (yj (y0 4 S.nd (yk (wx (za (yv (za zc (za zc zd))) zd)) (vv T.len (za (z9 0) zd)))))
    (zg (yj (T3 4 hu (z9 3) (yv (za zc (za zc zd)))))
    (zg (yj (wu (bj (z9 3) zc) (zm (T3 4 hu (qd (z9 3) zc) (yv (za (qd zc (zn hu (zn hu (z9 0) (z9 3)) zc)) (za (zn hu (zn hu (z9 0) (z9 3)) zc) zd))))) yz))
    (zm (k8 4 (Z4 2 (yv (za (z9 4) (za (zn hu (z9 1) (z9 3)) zd)))))))))))
   (zm (yd (z9 2))))),?_⟩
 obtain ⟨st,mo,rfl,hlen,h24,hs,hm,h⟩:=hT
 refine zv (fun ρ=>ρ = [some (dv (.lst (st.map qqD))),some (dv (.lst (mo.map mD))),some (dO (rsD [])),none,none]) ?_ ?_
 ·exact ⟨rfl,rfl,trivial,rfl⟩
 rintro _ rfl
 refine zv (fun ρ=>∃ (rows:List RowG) (x3 x4:Option EV),rows.length = st.length /\ (∀ r ∈ rows,R46 st.length r) /\ (∀ k r,rows[k]? = some r->RC st.length (fun q=>st.getD q (0,1)) (fun q=>mo.getD q 0) k r) /\ ρ = [some (dv (.lst (st.map qqD))),some (dv (.lst (mo.map mD))),some (dO (rsD rows)),x3,x4]) ?_ ?_
 ·refine u4 (rngD 0 st.length) (fun ψ hψ=>j8 (x:=.int st.length) (fun ψ hψ=>lenv (st.map qqD) (fun ψ hψ=>hψ) (by rw [List.length_map]; exact hψ)) ⟨by omega,by omega,hψ⟩) (fun i ρ=>∃ (rows:List RowG) (x3 x4:Option EV),rows.length = i /\ (∀ r ∈ rows,R46 st.length r) /\ (∀ k r,rows[k]? = some r->RC st.length (fun q=>st.getD q (0,1)) (fun q=>mo.getD q 0) k r) /\ ρ = [some (dv (.lst (st.map qqD))),some (dv (.lst (mo.map mD))),some (dO (rsD rows)),x3,x4]) ⟨[],none,none,rfl,fun _ z=>(nomatch z),fun _ _ z=>(by cases z),rfl⟩ ?_ ?_
  ·rintro i d _ hd ⟨rows,x3,x4,rfl,q1,q2,rfl⟩
   obtain ⟨hi,rfl⟩:=ka hd
   obtain ⟨s,es⟩:∃ s,st[rows.length]? = some s:=⟨_,List.getElem?_eq_getElem hi⟩
   obtain ⟨c,ec⟩:∃ c,mo[rows.length]? = some c:=⟨_,List.getElem?_eq_getElem (by omega)⟩
   have gs:st.getD rows.length (0,1) = s:=by unfold List.getD; rw [es]; rfl
   have gc:mo.getD rows.length 0 = c:=by unfold List.getD; rw [ec]; rfl
   have l1:((List.replicate st.length ((0:Int),1)).map qqD).length = st.length:=by rw [List.length_map,List.length_replicate]
   refine Xb ?_
   refine zv (fun ρ=>ρ = [some (dv (.lst (st.map qqD))),some (dv (.lst (mo.map mD))),some (dO (rsD rows)),some (dv (.int ((0:Int) + (rows.length:Nat)))),some (dO (.lst ((List.replicate st.length ((0:Int),1)).map qqD)))]) ?_ ?_
   ·refine xh (yi (df (.lst [qqD (0,1)])) (dv (.int st.length)) (fun ψ hψ=>⟨rfl,rfl,rfl,rfl,hψ⟩) (fun ψ hψ=>lenv (st.map qqD) (fun ψ hψ=>hψ) (by rw [List.length_map]; exact hψ)) ⟨by omega,by omega,Nat.le_trans (show 1 * ((st.length:Nat):Int).toNat <= 1000 by omega) (by decide),trivial,?_⟩)
    show [_,_,_,_,some (dO (.lst (List.replicate ((st.length:Nat):Int).toNat [qqD (0,1)]).flatten))] = _
    rw [P1,List.map_replicate]
    rfl
   rintro _ rfl
   refine zv (fun ρ=>ρ = [some (dv (.lst (st.map qqD))),some (dv (.lst (mo.map mD))),some (dO (rsD rows)),some (dv (.int ((0:Int) + (rows.length:Nat)))),some (dO (.lst (((List.replicate st.length ((0:Int),1)).set rows.length (1,1)).map qqD)))]) ?_ ?_
   ·refine ⟨rfl,rfl,trivial,?_⟩
    show match ixN ((List.replicate st.length ((0:Int),1)).map qqD).length ((0:Int) + (rows.length:Nat)) with | some j=>_ | none=>False
    rw [Int.zero_add,Nn (by rw [l1]; exact hi)]
    show _ = [_,_,_,_,some (dO (.lst (((List.replicate st.length ((0:Int),1)).set rows.length (1,1)).map qqD)))]
    rw [List.map_set]
    rfl
   rintro _ rfl
   refine zv (fun ρ=>ρ = [some (dv (.lst (st.map qqD))),some (dv (.lst (mo.map mD))),some (dO (rsD rows)),some (dv (.int ((0:Int) + (rows.length:Nat)))),some (dO (.lst ((rowN st.length rows.length s).map qqD)))]) ?_ ?_
   ·refine va (decide ((0:Int) < (0:Int) + (rows.length:Nat))) (fun ψ hψ=>hψ) (fun z=>?_) (fun z=>?_)
    ·have z:=of_decide_eq_true z
     have z0:0 < rows.length:=by omega
     refine Lq (j:=rows.length - 1) (k:=(0:Int) + (rows.length:Nat) - 1) rfl (qqD (-s.1,s.2)) (fun ψ hψ=>Nw (dv (.int (0 - s.1))) (dv (.int (s.2:Nat))) (fun ψ hψ=>yi (dv (.int 0)) (dv (.int s.1)) (fun ψ hψ=>hψ) (fun ψ hψ=>yi (dv (qqD s)) (dv (.int 0)) (fun ψ hψ=>yi (dv (.lst (st.map qqD))) (dv (.int ((0:Int) + (rows.length:Nat)))) (fun ψ hψ=>hψ) (fun ψ hψ=>hψ) (yo (by rw [Int.zero_add]; exact wz (by rw [List.getElem?_map,es]; rfl)) hψ)) (fun ψ hψ=>hψ) hψ) hψ) (fun ψ hψ=>yi (dv (qqD s)) (dv (.int 1)) (fun ψ hψ=>yi (dv (.lst (st.map qqD))) (dv (.int ((0:Int) + (rows.length:Nat)))) (fun ψ hψ=>hψ) (fun ψ hψ=>hψ) (yo (by rw [Int.zero_add]; exact wz (by rw [List.getElem?_map,es]; rfl)) hψ)) (fun ψ hψ=>hψ) hψ) ⟨rfl,rfl,?_⟩) (fun ψ hψ=>hψ) (by rw [show (0:Int) + (rows.length:Nat) - 1 = ((rows.length - 1:Nat):Int) by omega]; exact Nn (by rw [List.length_map,List.length_set,List.length_replicate]; omega)) ?_
     ·show ψ (dv (.tup [.int (0 - s.1),.int (s.2:Nat)]))
      rw [Int.zero_sub]
      exact hψ
     ·unfold rowN
      rw [if_pos z0,List.map_set (a:=(-s.1,s.2))]
      rfl
    ·have z:=of_decide_eq_false z
     have z0:¬ 0 < rows.length:=by omega
     unfold rowN
     rw [if_neg z0]
     rfl
   rintro _ rfl
   refine uk (T7 (ds:=rows.map RowG.inD) rfl (Nw (dv (.lst ((rowN st.length rows.length s).map qqD))) (dv (mD c)) (fun ψ hψ=>hψ) (fun ψ hψ=>yi (dv (.lst (mo.map mD))) (dv (.int ((0:Int) + (rows.length:Nat)))) (fun ψ hψ=>hψ) (fun ψ hψ=>hψ) (yo (by rw [Int.zero_add]; exact wz (by rw [List.getElem?_map,ec]; rfl)) hψ)) ⟨rfl,rfl,trivial,by rw [List.length_map]; omega,rows ++ [⟨rowN st.length rows.length s,c,1⟩],some (dv (.int ((0:Int) + (rows.length:Nat)))),some (dv (.lst ((rowN st.length rows.length s).map qqD))),List.length_append,fun r hr=>?_,fun k r hr=>?_,?_⟩))
   ·rcases List.mem_append.mp hr with hr | hr
    ·exact q1 r hr
    ·rw [List.mem_singleton.mp hr]
     exact ⟨Qy _ _ _,Qx (hs s (List.mem_of_getElem? es)),hm c (List.mem_of_getElem? ec),rfl⟩
   ·by_cases z:k < rows.length
    ·rw [List.getElem?_append_left z] at hr
     exact q2 k r hr
    ·have hk:=(List.getElem?_eq_some_iff.mp hr).1
     rw [List.length_append] at hk
     have hk:k < rows.length + 1:=hk
     have ek:k = rows.length:=by omega
     subst ek
     rw [List.getElem?_append_right (Nat.le_refl _),Nat.sub_self] at hr
     cases hr
     have:=Mn (st:=fun q=>st.getD q (0,1)) (mo:=fun q=>mo.getD q 0) hi
     try dsimp only at this
     rw [gs,gc] at this
     exact this
   ·unfold rsD
    rw [List.map_append]
    rfl
  ·rintro _ ⟨rows,x3,x4,el,q1,q2,rfl⟩
   exact ⟨rows,x3,x4,by rw [el]; exact v7,q1,q2,rfl⟩
 rintro _ ⟨rows,x3,x4,el,q1,q2,rfl⟩
 exact h rows el q1 q2
end
structure Cls (K:W.Frag) (mg:Str->Option Value) (cE cT cNoRatio cNoPaper cNoSize:Addr):Prop where
 b_TollError:mg "TollError" = some (.ref cE)
 b_TooMany:mg "TooMany" = some (.ref cT)
 b_NoRatio:mg "NoRatio" = some (.ref cNoRatio)
 b_NoPaper:mg "NoPaper" = some (.ref cNoPaper)
 b_NoSize:mg "NoSize" = some (.ref cNoSize)
 x_TooMany:excV K cT
 m_TooMany:W.exmOne K (.ref cT) (.ref cE) = some true
 k_Val:W.kitOne K (.ref cT) (.type "ValueError") = some true
 k_no:∀ c ∈ [cNoRatio,cNoPaper,cNoSize],W.kitOne K (.ref cT) (.ref c) = some false
 y_TooMany:Yi K cT
section
variable {P:Program} {w:World} {K:W.Frag} {mg:Str->Option Value} {base:Heap} {f C:Addr} {fd:FuncData}
unseal SDs in
theorem Qo {Γ:Hp->Prop} {X:Cx} {l:List Stmt}:SDs Γ X l (fun _ _=>False):=fun H₀ pn s σ H D I h=>by
 obtain ⟨ρ,o,R,Z,hZ,_⟩:=h
 exact hZ.elim
noncomputable def Je (c:Addr):FTX:=fun ds _ χ=>∃ (l:List D) (r:D),ds = [.lst l,r] /\ 24 < l.length /\ l.length <= 1000 /\ χ c
noncomputable def Us (c:Addr):FTX:=fun ds _ χ=>∃ n:Int,ds = [.int n] /\ 24 < n /\ χ c
theorem re (T:Tops mg) {cE cT cNoRatio cNoPaper cNoSize:Addr} (Z:Cls K mg cE cT cNoRatio cNoPaper cNoSize) (cU:GC K mg "MOST_UNKNOWNS" (.int 24)) (F:Fun K "check_unknowns" "check_unknowns" (top 14) f fd) (m:mg "check_unknowns" = some (.ref f)):FX P w K mg base 1 "check_unknowns" ["many"] (Us cT):=by
 have S:zp ["many"] ["many"] (zb (top 14)):=⟨rfl,rfl,rfl,by decide +kernel,rfl,by decide +kernel,by decide +kernel⟩
 refine Fn F S (F.binds fun _ _ _ _ _ _ us hl=>(by obtain ⟨_,rfl⟩:=sy hl; rfl)) m fun qZ A outer s H E ds φ χ hr hl hT hxp hxr=>?_
 have hu:=hr.units
 refine ⟨_,(zm (wu (bj (z9 0) (Rk cU)) (zm (Qv PySem.F.excBase_ValueError Z.b_TooMany Z.x_TooMany hr.hd hxr (za V5 zd))) yz)),?_⟩
 obtain ⟨n,rfl,hn,h⟩:=hT
 refine va true (fun ψ hψ=>?_) (fun _=>⟨rfl,h⟩) (fun z=>(by cases z))
 show ψ (decide ((24:Int) < n))
 rw [decide_eq_true hn]
 exact hψ
theorem O9 (T:Tops mg) {cE cT cNoRatio cNoPaper cNoSize:Addr} (Z:Cls K mg cE cT cNoRatio cNoPaper cNoSize) (Dx:FX P w K mg base 1 "check_unknowns" ["many"] (Us cT)) (F:Fun K "least" "least" (top 15) f fd) (m:mg "least" = some (.ref f)):FX P w K mg base 2 "least" ["costs", "rows"] (Je cT):=by
 have S:zp ["costs", "rows", "search", "weights"] ["costs", "rows"] (zb (top 15)):=⟨rfl,rfl,rfl,by decide +kernel,rfl,by decide +kernel,by decide +kernel⟩
 refine Fn F S (F.binds fun _ _ _ _ _ _ us hl=>(by obtain ⟨_,_,rfl⟩:=t6 hl; rfl)) m fun qZ A outer s H E ds φ χ hr hl hT hxp hxr=>?_
 have hu:=hr.units
 refine ⟨_,(zg (T4 (V9 Dx (hr.mono (by decide)) hxp (za (vv T.len (za (z9 0) zd)) zd))) Qo),?_⟩
 obtain ⟨l,r,rfl,h1,h2,h⟩:=hT
 exact yg ⟨rfl,(l.length:Int),rfl,by omega,h⟩
noncomputable def tRef:FT:=fun ds φ=>∃ (l:List D) (r:D),ds = [.lst l,r] /\ 24 < l.length /\ l.length <= 1000 /\ φ (dv (.bl true))
theorem jv (T:Tops mg) {cE cT cNoRatio cNoPaper cNoSize:Addr} (Z:Cls K mg cE cT cNoRatio cNoPaper cNoSize) (Cd:FX P w K mg base 2 "least" ["costs", "rows"] (Je cT)) (F:Fun K "_law_refused" "_law_refused" (top 29) f fd) (m:mg "_law_refused" = some (.ref f)):FD P w K mg base 3 "_law_refused" ["_law_costs", "_law_rows_here"] tRef:=by
 have S:zp ["_law_costs", "_law_rows_here", "_law_good", "e"] ["_law_costs", "_law_rows_here"] (zb (top 29)):=⟨rfl,rfl,rfl,by decide +kernel,rfl,by decide +kernel,by decide +kernel⟩
 refine ue F S (F.binds fun _ _ _ _ _ _ us hl=>(by obtain ⟨_,_,rfl⟩:=t6 hl; rfl)) m fun qZ A outer s H E ds φ hr hl hT=>?_
 have hu:=hr.units
 refine ⟨_,(zg (y0 2 S.nd Rl)
   (zg (Jw (K0:=K) (by rfl) 3 S.nd Z.b_TollError (fun Γ1 pn xe χ hxp=>(zm (T4 (V9 Cd (hr.mono (by decide)) hxp (za (z9 0) (za (z9 1) zd)))))) (fun a=>by exact (zg (y0 2 S.nd (Y4 (Oi (K0:=K) (by rfl) T.isinstance Z.b_TooMany (z9 3)) (Y2 (Rj (K0:=K) (by rfl) T.isinstance T.ValueError qh (z9 3)))))
    (zm (y0 2 S.nd (Y4 (z9 2) (Y2 (Rh (Ri (K0:=K) (by rfl) T.isinstance (bn Z.b_NoRatio (bn Z.b_NoPaper (bn Z.b_NoSize Kl))) (z9 3))))))))))
   (zm (yd (z9 2))))),?_⟩
 obtain ⟨l,r,rfl,h1,h2,h⟩:=hT
 refine yg ⟨trivial,?_⟩
 dsimp only
 refine yg ?_
 refine ⟨rfl,l,r,rfl,h1,h2,Z.m_TooMany,?_⟩
 refine yg ?_
 refine ⟨true,Pu,Z.y_TooMany,fun _=>⟨true,Z.k_Val,Z.y_TooMany,trivial,?_⟩,fun z=>(by cases z)⟩
 dsimp only
 exact ⟨fun _=>⟨false,E7 (zs:=List.map Value.ref [cNoRatio,cNoPaper,cNoSize]) (fun z hz=>let ⟨c,hc,e⟩:=List.mem_map.mp hz; e ▸ Z.k_no c hc),Z.y_TooMany,(show 3 <= 1000 by decide),trivial,⟨trivial,h⟩⟩,fun z=>(by cases z)⟩
theorem J1 {cs:List (Int × Nat)} {rows:List RowG} {s:SG} (O:Of cs rows s) {p:Nat} (hp:p < cs.length):(xG s)[p]? = some (rt (gx s p) s.b):=by
 have hl:(s.g.drop 1).length = cs.length:=by rw [List.length_drop,O.g.g,O.n]; omega
 have hp':p < (s.g.drop 1).length:=by rw [hl]; exact hp
 unfold xG
 rw [List.getElem?_map,List.getElem?_eq_getElem hp']
 have e:(s.g.drop 1)[p] = gx s p:=by
  have:=U5 s.g p
  rw [show (s.g.drop 1).getD p 0 = (s.g.drop 1)[p] by simp only [List.getD,List.getElem?_eq_getElem hp',Option.getD_some]] at this
  exact this
 rw [e]
 rfl
theorem Xd {n:Nat} {rows:List RowG} (ro:∀ r ∈ rows,r.Ok n) (h:∀ r ∈ rows,r.c <= 0):Fs n rows (fun _=>0) 1:=by
 refine ⟨by decide,fun _ _=>Int.le_refl _,fun r hr=>?_⟩
 rw [v4 (fun q _=>Int.zero_mul _),Int.mul_one]
 obtain ⟨eb,dp,yp⟩:=(ro r hr).eqB
 have c:=h r hr
 refine Int.not_lt.mp fun z=>?_
 have t:=Int.mul_pos z dp
 rw [eb] at t
 have:=Int.mul_nonpos_of_nonpos_of_nonneg c (Int.le_of_lt yp)
 omega
theorem U7 {cs:List (Int × Nat)} {rows:List RowG} {s:SG} (S:Sys cs rows) (h:∀ r ∈ rows,r.c <= 0) (O:Of cs rows s) (m:Met s):vG s = (0,1):=by
 have l:=K9 O m (Xd (fun r hr=>(S.r9 r hr).ok) h)
 rw [v4 (fun q _=>Int.zero_mul _),Int.mul_zero,Int.one_mul] at l
 have g0:=Wm O m
 have F:=Wn O m
 have nn:0 <= s.g.getD 0 0:=by
  rw [g0]
  refine Uw fun q hq=>Int.mul_nonneg (F.x0 q hq) ?_
  unfold cst
  by_cases h:q < (wcs cs).length
  ·exact S.pb.c0 _ (w5 h)
  ·rw [show (wcs cs).getD q 0 = 0 by simp [List.getD,h]]; omega
 have e:s.g.getD 0 0 = 0:=Int.le_antisymm l nn
 have bp:0 < s.b:=O.g.iv.d0
 have yp:(0:Int) < s.yb:=by have:=O.g.y1; omega
 unfold vG
 rw [e,k9 (t:=0) (b:=s.b * (s.yb:Int)) (t':=0) (b':=1) (Int.mul_pos bp yp) (by decide) (by rw [Int.zero_mul,Int.zero_mul])]
 rfl
theorem fg {α:Type}:∀ l:List α,(List.range l.length).filterMap (fun k=>l[k]?) = l
 | []=>rfl
 | a :: l=>by
  rw [List.length_cons,List.range_succ_eq_map,List.filterMap_cons]
  show a :: _ = _
  rw [List.filterMap_map]
  congr 1
  exact (fg l)
theorem V3 {α β:Type} {f g:α->Option β}:∀ l:List α,(∀ a ∈ l,f a = g a)->l.filterMap f = l.filterMap g
 | [],_=>rfl
 | a :: l,h=>by rw [List.filterMap_cons,List.filterMap_cons,h a List.mem_cons_self,V3 l fun b hb=>h b (List.mem_cons_of_mem _ hb)]
theorem Pa {α:Type} (xs:List α):xk xs none none (some (-1)) = xs.reverse:=by
 unfold xk
 show (sliceRange ((xs.length:Int) - 1) (-1) (-1)).filterMap (fun i=>xs[i]?) = _
 rw [W.krv_sliceRange,List.filterMap_map]
 have h:=fg xs.reverse
 rw [List.length_reverse] at h
 rw [<- h]
 refine V3 _ fun k hk=>?_
 have hk:=List.mem_range.mp hk
 rw [List.getElem?_reverse hk]
 rfl
theorem Qr {i:Nat} {T:FT} {ta tb:TD} {ρ:DE} {Z:DZ} (a b:EV) (h1:∀ ψ:EV->Prop,ψ a->ta (frzA ρ) ψ) (h2:∀ ψ:EV->Prop,ψ b->tb (frzA ρ) ψ) (h:T [a.d,b.d] fun q=>(match q.k with | .own=>False | _=>True) /\ Z.nx (setS (frzA ρ) i q.sto)):Jz i 2 T (vq ta (vq tb aNil)) ρ Z:=h1 _ (h2 _ ⟨rfl,h⟩)
theorem no43 (a b c d:D):¬ (HT.sIx [a,b,c,d].length 0 none = 0 /\ HT.sIx [a,b,c,d].length [a,b,c,d].length (some 3) = [a,b,c,d].length):=by
 show ¬ (HT.sIx 4 0 none = 0 /\ HT.sIx 4 4 (some 3) = 4)
 decide
theorem okq (v:RR):okD 40 (qD v):=ok2 38 _ _
theorem Jq {f:Nat->Int}:∀ {n i:Nat},(∀ q,q < n->0 <= f q)->i <= n->sm i f <= sm n f
 | 0,i,_,h=>by rw [show i = 0 by omega]; exact Int.le_refl _
 | n + 1,i,h0,h=>by
  by_cases z:i = n + 1
  ·rw [z]; exact Int.le_refl _
  ·have:=Jq (n:=n) (i:=i) (fun q hq=>h0 q (by omega)) (by omega)
   have b:=h0 n (Nat.lt_succ_self n)
   show sm i f <= sm n f + f n
   omega
theorem D6 (rows:List RowG) (h:rows ≠ []):∃ rs u,rows = rs ++ [u] /\ DL.cutD (rows.map RowG.inD) (some (-1)) none ++ DL.cutD (rows.map RowG.inD) none (some (-1)) = ([u] ++ rs).map RowG.inD:=by
 refine ⟨rows.dropLast,rows.getLast h,(List.dropLast_concat_getLast h).symm,?_⟩
 have e:rows.map RowG.inD = rows.dropLast.map RowG.inD ++ [RowG.inD (rows.getLast h)]:=by
  have:=congrArg (List.map RowG.inD) (List.dropLast_concat_getLast h)
  rw [List.map_append] at this
  exact this.symm
 rw [e]
 have:=Rz (rows.dropLast.map RowG.inD) [RowG.inD (rows.getLast h)] (by simp)
 rw [show (-(([RowG.inD (rows.getLast h)]:List D).length:Int)) = -1 from rfl] at this
 rw [this.1,this.2,List.map_append]
 rfl
noncomputable def xK (mo:Nat->Int):Nat->Int
 | 0=>((mo 0).natAbs:Int)
 | k + 1=>3 * xK mo k + ((mo (k + 1)).natAbs:Int)
theorem M4 (mo:Nat->Int):∀ k,0 <= xK mo k
 | 0=>Int.natCast_nonneg _
 | k + 1=>by have:=M4 mo k; show 0 <= 3 * xK mo k + ((mo (k + 1)).natAbs:Int); omega
theorem Ou {n:Nat} {st:Nat->Int × Nat} {mo:Nat->Int} {rows:List RowG} (hs:∀ k,k < n->0 <= (st k).1 /\ (st k).1 <= 3 /\ 1 <= (st k).2) (ro:∀ r ∈ rows,r.Ok n) (h1:∀ r ∈ rows,∃ k,k < n /\ RC n st mo k r):Fs n rows (xK mo) 1:=by
 refine ⟨by decide,fun q _=>M4 mo q,fun r hr=>?_⟩
 obtain ⟨k,hk,R⟩:=h1 r hr
 obtain ⟨s0,s3,s1⟩:=hs k hk
 refine (R.le (ro r hr) hk s1 _ _).mpr ?_
 have s2:(1:Int) <= ((st k).2:Int):=by omega
 generalize ((st k).2:Int) = s at *
 generalize (st k).1 = a at *
 have am:mo k <= ((mo k).natAbs:Int):=by omega
 have t:=Int.mul_le_mul_of_nonneg_right am (show (0:Int) <= s by omega)
 cases k with
 | zero =>
  show mo 0 * 1 * s <= ((mo 0).natAbs:Int) * s - 0 * a
  rw [Int.mul_one,Int.zero_mul,Int.sub_zero]
  exact t
 | succ k =>
  show mo (k + 1) * 1 * s <= (3 * xK mo k + ((mo (k + 1)).natAbs:Int)) * s - xK mo k * a
  have x0:=M4 mo k
  generalize xK mo k = x at *
  rw [Int.mul_one,Int.add_mul]
  have u1:x * a <= x * 3:=Int.mul_le_mul_of_nonneg_left s3 x0
  have u2:3 * x * 1 <= 3 * x * s:=Int.mul_le_mul_of_nonneg_left s2 (by omega)
  omega
theorem Qg {v:RR} {S c g b:Int} {p:Int × Nat} (hb:0 < b) (hp:1 <= p.2) (hv:v = rt S b) (hg:g * (p.2:Int) = p.1 * b):rt (v.1 * (p.2:Int) + c * p.1 * v.2) (v.2 * (p.2:Int)) = rt (S + g * c) b:=by
 have o:=Tc (t:=S) (b:=b) (by omega)
 rw [<- hv] at o
 have cr:=o.cross
 have vp:=o.pos
 have pp:0 < (p.2:Int):=by omega
 refine k9 (Int.mul_pos vp pp) hb ?_
 generalize (p.2:Int) = q at *
 generalize p.1 = p1 at *
 generalize v.1 = v1 at *
 generalize v.2 = v2 at *
 rw [show (v1 * q + c * p1 * v2) * b = v1 * b * q + c * (p1 * b) * v2 by grind,cr,<- hg]
 grind
theorem Kz {cs:List (Int × Nat)} {rows:List RowG} {s:SG} {l:List (Int × Nat)} (O:Of cs rows s) (hl:l.length = cs.length) (h:∀ q,q < cs.length->rt (gx s q) s.b = ((l.getD q (0,1)).1,((l.getD q (0,1)).2:Int))):(xG s).map qD = l.map qqD:=by
 refine List.ext_getElem? fun q=>?_
 rw [List.getElem?_map,List.getElem?_map]
 by_cases hq:q < cs.length
 ·rw [J1 O hq,h q hq,List.getElem?_eq_getElem (by omega)]
  rw [show l.getD q (0,1) = l[q] by simp [List.getD,hl,hq]]
  rfl
 ·have e:(xG s).length = cs.length:=by
   unfold xG
   rw [List.length_map,List.length_drop,O.g.g,O.n]
   omega
  rw [List.getElem?_eq_none (show l.length <= q by omega),List.getElem?_eq_none (show (xG s).length <= q by omega)]
  rfl
theorem Ka {n:Nat} {s:SG} (S:Sys (List.replicate n (1,1)) []) (O:Of (List.replicate n (1,1)) [] s) (m:Met s):vG s = (0,1) /\ (xG s).map qD = (List.replicate n ((0:Int),1)).map qqD:=by
 have nr:∀ r ∈ ([]:List RowG),r.c <= 0:=fun _ z=>(nomatch z)
 refine ⟨U7 S nr O m,?_⟩
 have l:=K9 O m (Xd (n:=(List.replicate n ((1:Int),1)).length) (rows:=[]) (fun _ z=>(nomatch z)) nr)
 rw [v4 (fun q _=>Int.zero_mul _),Int.mul_zero,Int.one_mul] at l
 have g0:=Wm O m
 have F:=Wn O m
 have bp:0 < s.b:=O.g.iv.d0
 have cl:(List.replicate n ((1:Int),1)).length = n:=List.length_replicate
 have c1:∀ q,q < (List.replicate n ((1:Int),1)).length->0 < cst (wcs (List.replicate n (1,1))) q:=fun q hq=>by
  obtain ⟨e,d0⟩:=E6 S hq
  refine Int.not_le.mp fun z=>?_
  have:=Int.mul_nonpos_of_nonpos_of_nonneg z (Int.le_of_lt d0)
  rw [e,show (List.replicate n ((1:Int),1)).getD q (0,1) = (1,1) from List.eq_of_mem_replicate (vm hq)] at this
  have y:(0:Int) < (yc (List.replicate n ((1:Int),1)):Int):=Xy fun p hp=>by rw [List.eq_of_mem_replicate hp]; exact Nat.le_refl _
  have this:1 * (yc (List.replicate n ((1:Int),1)):Int) <= 0:=this
  omega
 rw [g0] at l
 have z:=Mc (fun q hq=>Int.mul_nonneg (F.x0 q hq) (Int.le_of_lt (c1 q hq))) l
 refine Kz O (by rw [List.length_replicate,List.length_replicate]) fun q hq=>?_
 have gz:gx s q = 0:=by
  rcases Int.mul_eq_zero.mp (z q hq) with w | w
  ·exact w
  ·have:=c1 q hq; omega
 rw [gz,k9 (t:=0) (b:=s.b) (t':=0) (b':=1) bp (by decide) (by rw [Int.zero_mul,Int.zero_mul]),dn]
 rfl
theorem Gi (T:Tops mg) (Do:FD P w K mg base 1 "_law_cell_at" ["_law_script", "_law_k"] Uu) (Dq:FD P w K mg base 2 "_law_drawn" ["_law_script", "_law_k"] N4) (Co:FD P w K mg base 3 "_law_step" ["_law_cell"] Ql) (Cp:FD P w K mg base 1 "_law_more" ["_law_cell"] Jc) (Cq:FV P w K mg base 1 "_law_rows" ["_law_steps", "_law_more_here"] Ja) (B4:FD P w K mg base 6 "least" ["costs", "rows"] (tLst C)) (Ca:FD P w K mg base 3 "_law_lifted" ["_law_steps", "_law_more_here"] Jg) (Dn:FD P w K mg base 2 "_law_lowest" ["_law_top", "_law_bottom"] tLow) (Dv:FD P w K mg base 1 "_law_whole" ["_law_found"] bz) (Dr:FD P w K mg base 3 "_law_refused" ["_law_costs", "_law_rows_here"] tRef) (F:Fun K "law" "law" (top 30) f fd):FnOk P w K mg base CX0 9 f fd ["_law_script"] (spD K 1 lawT):=by
 have S:zp ["_law_script", "_law_first", "_law_many", "_law_costs", "_law_steps", "_law_more_here", "_law_rows_here", "_law_handed", "_law_found", "_law_due", "_law_value", "_law_cost", "_law_one", "_law_free"] ["_law_script"] (zb (top 30)):=⟨rfl,rfl,rfl,by decide +kernel,rfl,by decide +kernel,by decide +kernel⟩
 refine Ss F S fun qZ A outer s H E ds φ hr hl hT=>?_
 have hu:=hr.units
 refine ⟨_,(zg (yj (y0 1 S.nd (zy Do (hr.mono (by decide)) (za (z9 0) (za zc zd)))))
   (zg (yj (y0 2 S.nd (xn zc (wn (z9 1) zc))))
   (zg (yj (wu (Y0 hu (wn (ut (z9 1) zc) zc) zc) (zm (y0 2 S.nd zc)) yz))
   (zg (yj (uj (T:=["_law_k"]) (F:=["_law_script"]) (js:=[0]) 3 S.nd (wm T.range (za (z9 2) zd)) (show zl (zb (top 30)) _ ["_law_k"] ["_law_script"] from ⟨rfl,by decide +kernel,by decide +kernel,by decide +kernel,by decide +kernel,by decide +kernel⟩) (.cons rfl .nil) (by decide) (fun cl C fp s H=>(zr (i:=0) (show ((["_law_k"]:List Str) ++ (["_law_script"]:List Str)).Nodup by decide +kernel) rfl (by walk_at "o"))) (y9 (by decide)) (yy 0) (fun cl C fp s H=>yn) (fun cl C fp s H=>(yv (za (xn zc (wn (ut (zy Dq (hr.mono (by decide)) (za (z9 1) (za (yk zc (z9 0)) zd))) zc) (Rg zc zc))) (za zc zd))))))
   (zg (yj (uj (T:=["_law_k"]) (F:=["_law_script"]) (js:=[0]) 4 S.nd (wm T.range (za (z9 2) zd)) (show zl (zb (top 30)) _ ["_law_k"] ["_law_script"] from ⟨rfl,by decide +kernel,by decide +kernel,by decide +kernel,by decide +kernel,by decide +kernel⟩) (.cons rfl .nil) (by decide) (fun cl C fp s H=>(zr (i:=0) (show ((["_law_k"]:List Str) ++ (["_law_script"]:List Str)).Nodup by decide +kernel) rfl (by walk_at "o"))) (y9 (by decide)) (yy 0) (fun cl C fp s H=>yn) (fun cl C fp s H=>(zy Co (hr.mono (by decide)) (za (zy Dq (hr.mono (by decide)) (za (z9 1) (za (yk zc (z9 0)) zd))) zd)))))
   (zg (yj (uj (T:=["_law_k"]) (F:=["_law_script"]) (js:=[0]) 5 S.nd (wm T.range (za (z9 2) zd)) (show zl (zb (top 30)) _ ["_law_k"] ["_law_script"] from ⟨rfl,by decide +kernel,by decide +kernel,by decide +kernel,by decide +kernel,by decide +kernel⟩) (.cons rfl .nil) (by decide) (fun cl C fp s H=>(zr (i:=0) (show ((["_law_k"]:List Str) ++ (["_law_script"]:List Str)).Nodup by decide +kernel) rfl (by walk_at "o"))) (y9 (by decide)) (yy 0) (fun cl C fp s H=>yn) (fun cl C fp s H=>(zy Cp (hr.mono (by decide)) (za (zy Dq (hr.mono (by decide)) (za (z9 1) (za (xn (yk zc (z9 0)) zc) zd))) zd)))))
   (zg (yj (Mh 6 S.nd Cq (hr.mono (by decide)) (za (z9 4) (za (z9 5) zd))))
   (zg (yj (k8 6 (wu (Y0 hu (wn (ut (z9 1) zc) zc) zc) (zm (y0 6 S.nd (Ki (z9 6) ur ur (rj (jd zc))))) yz)))
   (zg (yj (k8 6 (wu (Y0 hu (wn (ut (z9 1) zc) zc) zc) (zm (y0 6 S.nd (xn (tu (z9 6) (rj (jd zc)) ur) (tu (z9 6) ur (rj (jd zc)))))) yz)))
   (zg (yj (k8 6 (k8 3 (y0 7 S.nd (wx (za (V6 T.list (za (z9 3) zd)) (za (xa (T:=["_law_numbers", "_law_bound"]) (F:=[]) (js:=[]) (vt (z9 6)) (show zl (zb (top 30)) _ ["_law_numbers", "_law_bound"] [] from ⟨rfl,by decide +kernel,by decide +kernel,by decide +kernel,by decide +kernel,by decide +kernel⟩) .nil (by decide) (fun cl C fp s H=>(xv (K0:=K) (n:=2) (by rfl) (by rfl) (zw (zr (i:=0) (show ((["_law_numbers", "_law_bound"]:List Str) ++ ([]:List Str)).Nodup by decide +kernel) rfl (by walk_at "o")) (zw (zr (i:=1) (show ((["_law_numbers", "_law_bound"]:List Str) ++ ([]:List Str)).Nodup by decide +kernel) rfl (by walk_at "o")) xu)))) (t7 (yx ya (vj ya xr) (y9 (by decide)) (yx ya xr (y9 (by decide)) t8))) (xx 0 1) (fun cl C fp s H=>yn) (fun cl C fp s H=>(yv (za (V6 T.list (za (z9 0) zd)) (za (z9 1) zd))))) zd)))))))
   (zg (yj (y0 8 S.nd (zy B4 (hr.mono (by decide)) (za (zn hu (z9 7) zc) (za (zn hu (z9 7) zc) zd)))))
   (zg (yj (wu (EW.et (ja (jb (t9 (wo T.isinstance (za (z9 8) (za (Xm T.tuple jj) zd))))) (ja (Zz hu (vv T.len (za (z9 8) zd)) zc) (ja (Zz hu (zn hu (z9 8) zc) V5) (j9 (Zz hu (z9 7) (wx (za (z9 3) (za (z9 6) zd))))))))) (zm (yd Rl)) yz))
   (zg (yj (y0 9 S.nd (zy Ca (hr.mono (by decide)) (za (z9 4) (za (z9 5) zd)))))
   (zg (yj (y0 10 S.nd (yv (za zc (za zc zd)))))
   (zg (yj (k8 9 (rq (Y1 T.zip (za (z9 3) (za (z9 9) zd))) (xv (K0:=K) (n:=2) (by rfl) (by rfl) (zw (zr (i:=11) S.nd rfl (by walk_at "o")) (zw (zr (i:=12) S.nd rfl (by walk_at "o")) xu))) (xx 11 12) (zm (y0 10 S.nd (zy Dn (hr.mono (by decide)) (za (xn (yk (zn hu (z9 10) zc) (zn hu (z9 12) zc)) (yk (yk (zn hu (z9 11) zc) (zn hu (z9 12) zc)) (zn hu (z9 10) zc))) (za (yk (zn hu (z9 10) zc) (zn hu (z9 12) zc)) zd))))))))
   (zg (yj (wu (EW.et (ja (jb (t9 (wo T.isinstance (za (zn hu (z9 8) zc) (za (Xm T.list fq) zd))))) (ja (Zz hu (zn hu (z9 8) zc) (z9 10)) (j9 (Zz hu (zn hu (z9 8) zc) (z9 9)))))) (zm (yd Rl)) yz))
   (zg (yj (rq (vt (xn (wx (za (zn hu (z9 8) zc) zd)) (zn hu (z9 8) zc))) (zr (i:=12) S.nd rfl (by walk_at "o")) (yy 12) (zm (wu (EW.et (ja (jb (t9 (wo T.isinstance (za (z9 12) (za (Xm T.tuple jj) zd))))) (ja (jb (t9 (zy Dv (hr.mono (by decide)) (za (zn hu (z9 12) zc) zd)))) (j9 (jb (t9 (zy Dv (hr.mono (by decide)) (za (zn hu (z9 12) zc) zd)))))))) (zm (yd Rl)) yz))))
   (zg (yj (y0 13 S.nd (yk (wx (za (yv (za zc (za zc zd))) zd)) zc)))
   (zg (yj (wu (Zz hu (tu (zy B4 (hr.mono (by decide)) (za (tu (z9 13) ur (rj zc)) (za (wx zd) zd))) ur (rj zc)) (yv (za V5 (za (yv (za zc (za zc zd))) (za (yk (wx (za (yv (za zc (za zc zd))) zd)) zc) zd))))) (zm (yd Rl)) yz))
   (zm (k8 13 (yd (Y4 (zy Dr (hr.mono (by decide)) (za (z9 13) (za (wx zd) zd))) (Y2 (zy Dr (hr.mono (by decide)) (za (z9 13) (za (wx (za (yv (za (z9 13) (za (yv (za zc (za zc zd))) zd))) zd)) zd))))))))))))))))))))))))))),?_⟩
 obtain ⟨ns,rfl,hl,h⟩:=hT
 have f9:∀ (x:Int) (y:Int),y ≠ 0->y.natAbs <= 300->FdOk x y:=fun x y a b=>of_eq_true (Ra a (by omega))
 refine zv (fun ρ=>∃ c0:Int,ρ = [some (dv (.scr ns)),some (dv (.int c0)),none,none,none,none,none,none,none,none,none,none,none,none]) ?_ ?_
 ·exact ⟨rfl,by decide,trivial,_,rfl⟩
 rintro _ ⟨c0,rfl⟩
 refine zv (fun ρ=>∃ n:Nat,1 <= n /\ n <= 24 /\ ρ = [some (dv (.scr ns)),some (dv (.int c0)),some (dv (.int (n:Nat))),none,none,none,none,none,none,none,none,none,none,none]) ?_ ?_
 ·have mb:=gm c0 8 (by decide)
  obtain ⟨m,em⟩:=Int.eq_ofNat_of_zero_le mb.1
  refine ⟨(show (8:Int) ≠ 0 by decide),trivial,1 + m,by omega,by omega,?_⟩
  show setS _ 2 (dv (.int (1 + c0.fmod 8))) = _
  rw [em]
  rfl
 rintro _ ⟨m,m1,m2,rfl⟩
 refine zv (fun ρ=>∃ n:Nat,1 <= n /\ n <= 24 /\ ρ = [some (dv (.scr ns)),some (dv (.int c0)),some (dv (.int (n:Nat))),none,none,none,none,none,none,none,none,none,none,none]) ?_ ?_
 ·refine va _ (fun ψ hψ=>⟨f9 _ _ (by decide) (by decide),(show (8:Int) ≠ 0 by decide),yq ▸ trivial,yq ▸ trivial,hψ⟩) (fun _=>⟨trivial,24,by decide,by decide,rfl⟩) (fun _=>⟨m,m1,m2,rfl⟩)
 rintro _ ⟨n,n1,n2,rfl⟩
 have rg:∀ {i:Nat} {d:D},(rngD 0 n)[i]? = some d->i < n /\ d = .int (0 + (i:Int)):=fun {i d} hd=>ka hd
 have kE:∀ i:Nat,(2:Int) * (0 + (i:Int)) = ((2 * i:Nat):Int):=fun i=>by omega
 have kO:∀ i:Nat,(2:Int) * (0 + (i:Int)) + 1 = ((2 * i + 1:Nat):Int):=fun i=>by omega
 have mO:∀ i:Nat,IntMulOk 2 (0 + (i:Int)):=fun i=>IntMulOk.of_left (by decide)
 refine zv (fun ρ=>∃ cs:List (Int × Nat),cs.length = n /\ (∀ p ∈ cs,0 < p.1 /\ p.1.natAbs <= 2 ^ 30 /\ p.2 = 1) /\ ρ = [some (dv (.scr ns)),some (dv (.int c0)),some (dv (.int (n:Nat))),some (dO (cD cs)),none,none,none,none,none,none,none,none,none,none]) ?_ ?_
 ·refine xh (je (rngD 0 n) (fun ψ hψ=>j8 (x:=.int n) (fun ψ hψ=>hψ) ⟨by omega,by omega,hψ⟩) (fun i es=>∃ cs:List (Int × Nat),cs.length = i /\ (∀ p ∈ cs,0 < p.1 /\ p.1.natAbs <= 2 ^ 30 /\ p.2 = 1) /\ es = cs.map qqD) (by rw [v7]; omega) ⟨[],rfl,fun _ z=>(nomatch z),rfl⟩ ?_ ?_)
  ·rintro i d _ hd _ ⟨cs,rfl,q,rfl⟩
   obtain ⟨hi,rfl⟩:=rg hd
   refine Xb ⟨fun _=>?_,fun z=>(by cases z)⟩
   refine ⟨mO _,rfl,ns,2 * cs.length,by rw [kE]; rfl,by omega,fun x=>?_⟩
   have mb:=gm (x.fdiv 12) (10 ^ 9) (by decide)
   refine ⟨f9 _ _ (by decide) (by decide),of_eq_true (cp10 (by decide) (by decide)),(show (10 ^ 9:Int) ≠ 0 by decide),rfl,rfl,trivial,cs ++ [(1 + (x.fdiv 12).fmod (10 ^ 9),1)],by rw [List.length_append]; rfl,fun p hp=>?_,by rw [List.map_append]; rfl⟩
   rcases List.mem_append.mp hp with z | z
   ·exact q p z
   ·rw [List.mem_singleton.mp z]
    exact ⟨by show 0 < 1 + _; omega,by show (1 + _:Int).natAbs <= _; omega,rfl⟩
  ·rintro _ ⟨cs,el,q,rfl⟩
   exact ⟨trivial,cs,by rw [el]; exact v7,q,rfl⟩
 rintro _ ⟨cs,csl,hc,rfl⟩
 refine zv (fun ρ=>∃ st:List (Int × Nat),st.length = n /\ (∀ s ∈ st,0 <= s.1 /\ s.1 <= 3 /\ s.2 ∣ 4) /\ ρ = [some (dv (.scr ns)),some (dv (.int c0)),some (dv (.int (n:Nat))),some (dO (cD cs)),some (dO (.lst (st.map qqD))),none,none,none,none,none,none,none,none,none]) ?_ ?_
 ·refine xh (je (rngD 0 n) (fun ψ hψ=>j8 (x:=.int n) (fun ψ hψ=>hψ) ⟨by omega,by omega,hψ⟩) (fun i es=>∃ st:List (Int × Nat),st.length = i /\ (∀ s ∈ st,0 <= s.1 /\ s.1 <= 3 /\ s.2 ∣ 4) /\ es = st.map qqD) (by rw [v7]; omega) ⟨[],rfl,fun _ z=>(nomatch z),rfl⟩ ?_ ?_)
  ·rintro i d _ hd _ ⟨st,rfl,q,rfl⟩
   obtain ⟨hi,rfl⟩:=rg hd
   refine Xb ⟨fun _=>?_,fun z=>(by cases z)⟩
   refine ⟨mO _,rfl,ns,2 * st.length,by rw [kE]; rfl,by omega,fun x=>⟨rfl,fun a b ha hb=>⟨trivial,st ++ [((a:Int),b)],by rw [List.length_append]; rfl,fun p hp=>?_,by rw [List.map_append]; rfl⟩⟩⟩
   rcases List.mem_append.mp hp with z | z
   ·exact q p z
   ·rw [List.mem_singleton.mp z]
    exact ⟨by show (0:Int) <= (a:Int); omega,by show (a:Int) <= 3; omega,hb⟩
  ·rintro _ ⟨st,el,q,rfl⟩
   exact ⟨trivial,st,by rw [el]; exact v7,q,rfl⟩
 rintro _ ⟨st,stl,hs,rfl⟩
 refine zv (fun ρ=>∃ mo:List Int,mo.length = n /\ (∀ c ∈ mo,c.natAbs <= 2 ^ 100) /\ ρ = [some (dv (.scr ns)),some (dv (.int c0)),some (dv (.int (n:Nat))),some (dO (cD cs)),some (dO (.lst (st.map qqD))),some (dO (.lst (mo.map mD))),none,none,none,none,none,none,none,none]) ?_ ?_
 ·refine xh (je (rngD 0 n) (fun ψ hψ=>j8 (x:=.int n) (fun ψ hψ=>hψ) ⟨by omega,by omega,hψ⟩) (fun i es=>∃ mo:List Int,mo.length = i /\ (∀ c ∈ mo,c.natAbs <= 2 ^ 100) /\ es = mo.map mD) (by rw [v7]; omega) ⟨[],rfl,fun _ z=>(nomatch z),rfl⟩ ?_ ?_)
  ·rintro i d _ hd _ ⟨mo,rfl,q,rfl⟩
   obtain ⟨hi,rfl⟩:=rg hd
   refine Xb ⟨fun _=>?_,fun z=>(by cases z)⟩
   refine ⟨mO _,rfl,ns,2 * mo.length + 1,by rw [<- kO]; rfl,by omega,fun x=>⟨rfl,fun c hc=>⟨trivial,mo ++ [c],by rw [List.length_append]; rfl,fun p hp=>?_,by rw [List.map_append]; rfl⟩⟩⟩
   rcases List.mem_append.mp hp with z | z
   ·exact q p z
   ·rw [List.mem_singleton.mp z]
    exact Nat.le_trans hc (by decide)
  ·rintro _ ⟨mo,el,q,rfl⟩
   exact ⟨trivial,mo,by rw [el]; exact v7,q,rfl⟩
 rintro _ ⟨mo,mol,hm,rfl⟩
 refine zv (fun ρ=>∃ rows:List RowG,((∀ r ∈ rows,R46 n r) /\ rows.length = n /\ (∀ r ∈ rows,∃ k,k < n /\ RC n (fun q=>st.getD q (0,1)) (fun q=>mo.getD q 0) k r) /\ (∀ k,k < n->∃ r ∈ rows,RC n (fun q=>st.getD q (0,1)) (fun q=>mo.getD q 0) k r)) /\ ρ = [some (dv (.scr ns)),some (dv (.int c0)),some (dv (.int (n:Nat))),some (dv (cD cs)),some (dv (.lst (st.map qqD))),some (dv (.lst (mo.map mD))),some (dO (rsD rows)),none,none,none,none,none,none,none]) ?_ ?_
 ·refine Qr (dv (.lst (st.map qqD))) (dv (.lst (mo.map mD))) (fun ψ hψ=>hψ) (fun ψ hψ=>hψ) ⟨st,mo,rfl,by omega,by omega,hs,hm,fun rows el a b=>?_⟩
  rw [stl] at a el b
  refine ⟨trivial,rows,⟨a,el,fun r hr=>?_,fun k hk=>?_⟩,rfl⟩
  ·obtain ⟨k,ek⟩:=List.getElem?_of_mem hr
   exact ⟨k,by have:=(List.getElem?_eq_some_iff.mp ek).1; omega,b k r ek⟩
  ·exact ⟨_,List.getElem_mem (show k < rows.length by omega),b k _ (List.getElem?_eq_getElem (by omega))⟩
 rintro _ ⟨rows,hA,rfl⟩
 have perm:∀ {rows':List RowG},(∀ r,r ∈ rows' ↔ r ∈ rows)->rows'.length = rows.length->(∀ r ∈ rows',R46 n r) /\ rows'.length = n /\ (∀ r ∈ rows',∃ k,k < n /\ RC n (fun q=>st.getD q (0,1)) (fun q=>mo.getD q 0) k r) /\ (∀ k,k < n->∃ r ∈ rows',RC n (fun q=>st.getD q (0,1)) (fun q=>mo.getD q 0) k r):=fun {rows'} e el=>⟨fun r hr=>hA.1 r ((e r).mp hr),by rw [el]; exact hA.2.1,fun r hr=>hA.2.2.1 r ((e r).mp hr),fun k hk=>by
  obtain ⟨r,hr,R⟩:=hA.2.2.2 k hk
  exact ⟨r,(e r).mpr hr,R⟩⟩
 refine zv (fun ρ=>∃ (rows':List RowG) (x6:EV),(∀ r,r ∈ rows' ↔ r ∈ rows) /\ rows'.length = rows.length /\ x6.d = rsD rows' /\ ρ = [some (dv (.scr ns)),some (dv (.int c0)),some (dv (.int (n:Nat))),some (dv (cD cs)),some (dv (.lst (st.map qqD))),some (dv (.lst (mo.map mD))),some x6,none,none,none,none,none,none,none]) ?_ ?_
 ·refine uk (va _ (fun ψ hψ=>⟨f9 _ _ (by decide) (by decide),(show (3:Int) ≠ 0 by decide),yq ▸ trivial,yq ▸ trivial,hψ⟩) (fun _=>?_) (fun _=>⟨rows,dv (rsD rows),fun _=>Iff.rfl,rfl,rfl,rfl⟩))
  refine ⟨by decide,trivial,rows.reverse,dO (.lst (xk (rows.map RowG.inD) none none (some (-1)))),fun r=>List.mem_reverse,List.length_reverse,?_,rfl⟩
  show D.lst _ = D.lst _
  rw [Wh,Pa]
 rintro _ ⟨rows1,x6,i1,l1,d1,rfl⟩
 refine zv (fun ρ=>∃ (rows':List RowG) (x6:EV),(∀ r,r ∈ rows' ↔ r ∈ rows) /\ rows'.length = rows.length /\ x6.d = rsD rows' /\ ρ = [some (dv (.scr ns)),some (dv (.int c0)),some (dv (.int (n:Nat))),some (dv (cD cs)),some (dv (.lst (st.map qqD))),some (dv (.lst (mo.map mD))),some x6,none,none,none,none,none,none,none]) ?_ ?_
 ·obtain ⟨k6,d6⟩:=x6
  have d1:d6 = rsD rows1:=d1
  subst d1
  refine uk (va _ (fun ψ hψ=>⟨f9 _ _ (by decide) (by decide),(show (3:Int) ≠ 0 by decide),yq ▸ trivial,yq ▸ trivial,hψ⟩) (fun _=>?_) (fun _=>⟨rows1,dv (rsD rows1),i1,l1,rfl,rfl⟩))
  obtain ⟨rs,u,e1,e2⟩:=D6 rows1 (fun z=>by rw [z] at l1; have:=hA.2.1; rw [<- l1] at this; simp at this; omega)
  refine ⟨Nat.le_trans (show (cutD (rows1.map RowG.inD) (some (-1)) none).length + (cutD (rows1.map RowG.inD) none (some (-1))).length <= 1000 by rw [<- List.length_append,e2]; simp; have:=hA.2.1; rw [<- l1,e1] at this; simp at this; omega) (by decide),trivial,[u] ++ rs,dO (.lst (cutD (rows1.map RowG.inD) (some (-1)) none ++ cutD (rows1.map RowG.inD) none (some (-1)))),fun r=>?_,?_,?_,rfl⟩
  ·rw [<- i1,e1,List.mem_append,List.mem_append]
   exact Or.comm
  ·rw [<- l1,e1,List.length_append,List.length_append]
   exact Nat.add_comm _ _
  ·show D.lst _ = D.lst _
   rw [e2]
 rintro _ ⟨rows2,x6,i2,l2,d2,rfl⟩
 obtain ⟨hR,rl,hk1,hk2⟩:=perm i2 l2
 clear i1 l1 d1 i2 perm hA rows1
 obtain ⟨k6,d6⟩:=x6
 have d2:d6 = rsD rows2:=d2
 subst d2
 clear l2 rows
 rename List RowG=>rows
 have S:Sys cs rows:=Jm (by omega) (by omega) (fun p hp=>⟨Int.le_of_lt (hc p hp).1,(hc p hp).2⟩) (by rw [csl]; exact hR)
 refine zv (fun ρ=>ρ = [some (dv (.scr ns)),some (dv (.int c0)),some (dv (.int (n:Nat))),some (dv (cD cs)),some (dv (.lst (st.map qqD))),some (dv (.lst (mo.map mD))),some (dv (rsD rows)),some (dO (.lst [cD cs,rsD rows])),none,none,none,none,none,none]) ?_ ?_
 ·refine uk (uk (xh ?_))
  refine Fy (df (cD cs)) (fun ψ hψ=>hψ) ?_
  refine yh (rows.map RowG.inD) (fun ψ hψ=>⟨trivial,hψ⟩) some (by rw [List.length_map]; omega) (fun d hd=>?_) ?_
  ·obtain ⟨r,hr,rfl⟩:=List.mem_map.mp hd
   exact ⟨fun _=>⟨rfl,rfl,trivial,rfl⟩,fun z=>(by cases z)⟩
  ·rw [List.filterMap_some]
   exact ⟨rfl,rfl,trivial,rfl⟩
 rintro _ rfl
 refine zv (fun ρ=>∃ f,FO cs rows f /\ ρ = [some (dv (.scr ns)),some (dv (.int c0)),some (dv (.int (n:Nat))),some (dv (cD cs)),some (dv (.lst (st.map qqD))),some (dv (.lst (mo.map mD))),some (dv (rsD rows)),some (dO (.lst [cD cs,rsD rows])),some (dv f),none,none,none,none,none]) ?_ ?_
 ·exact ⟨rfl,Wq S fun f hf=>⟨trivial,f,hf,rfl⟩⟩
 rintro _ ⟨fnd,hf,rfl⟩
 have okH:okD 40 (.lst [cD cs,rsD rows]):=fun z hz=>by
  simp only [List.mem_cons,List.not_mem_nil,or_false] at hz
  rcases hz with rfl | rfl
  ·exact fun z hz=>by obtain ⟨p,hp,rfl⟩:=List.mem_map.mp hz; exact ok2 _ _ _
  ·exact fun z hz=>by obtain ⟨r,hr,rfl⟩:=List.mem_map.mp hz; exact okIn _ r
 have ro:∀ r ∈ rows,r.Ok cs.length:=fun r hr=>(S.r9 r hr).ok
 rcases hf with ⟨s,O,mt,rfl⟩ | ⟨s,k,O,E,rfl⟩
 rotate_left
 ·rw [<- csl] at hk1
  exact (Sq O E (Ou (fun k hk=>by
   have m:=hs _ (vm (l:=st) (p:=k) (by omega))
   exact ⟨m.1,m.2.1,(dvd4 m.2.2).1⟩) ro hk1)).elim
 rw [Nj]
 refine zv (fun ρ=>ρ = [some (dv (.scr ns)),some (dv (.int c0)),some (dv (.int (n:Nat))),some (dv (cD cs)),some (dv (.lst (st.map qqD))),some (dv (.lst (mo.map mD))),some (dv (rsD rows)),some (dO (.lst [cD cs,rsD rows])),some (dv (.tup [.str "least", qD (vG s),.lst ((xG s).map qD),wD (lwG s)])),none,none,none,none,none]) ?_ ?_
 ·refine va false (fun ψ hψ=>jo (fun ψ hψ=>jp (by exact hψ)) (fun ψ hψ=>jo (fun ψ hψ=>⟨yq ▸ trivial,yq ▸ trivial,hψ⟩) (fun ψ hψ=>jo (fun ψ hψ=>⟨trivial,trivial,hψ⟩) (fun ψ hψ=>qz (yi (dO (.lst [cD cs,rsD rows])) (df (.lst [cD cs,rsD rows])) (fun ψ hψ=>hψ) (fun ψ hψ=>⟨rfl,rfl,hψ⟩) (W9 okH (tm 40 _ okH) hψ))) hψ) hψ) hψ) (fun z=>(by cases z)) (fun _=>rfl)
 rintro _ rfl
 refine zv (fun ρ=>∃ l:List (Int × Nat),l.length = n /\ (LF n (fun q=>st.getD q (0,1)) (fun q=>mo.getD q 0) fun q=>l.getD q (0,1)) /\ (∀ p ∈ l,NN 200 50 p) /\ ρ = [some (dv (.scr ns)),some (dv (.int c0)),some (dv (.int (n:Nat))),some (dv (cD cs)),some (dv (.lst (st.map qqD))),some (dv (.lst (mo.map mD))),some (dv (rsD rows)),some (dO (.lst [cD cs,rsD rows])),some (dv (.tup [.str "least", qD (vG s),.lst ((xG s).map qD),wD (lwG s)])),some (dO (.lst (l.map qqD))),none,none,none,none]) ?_ ?_
 ·refine xh (xc [dv (.lst (st.map qqD)),dv (.lst (mo.map mD))] (fun ψ hψ=>hψ) rfl ⟨st,mo,rfl,by omega,by omega,hs,hm,fun l ll F N=>⟨trivial,l,by omega,?_,N,rfl⟩⟩)
  rw [ll,stl] at F
  exact F
 rintro _ ⟨l,ll,LFl,hN,rfl⟩
 have l1:∀ p ∈ l,1 <= p.2:=fun p hp=>(hN p hp).b1
 rw [<- csl] at LFl hk1 hk2 ll
 have Q:=Ov O mt LFl (fun p hp=>by rw [(hc p hp).2.2]; exact Nat.le_refl _) (fun p hp=>(hc p hp).1) ll (fun _ _=>rfl) l1 ro hk1 hk2
 refine zv (fun ρ=>ρ = [some (dv (.scr ns)),some (dv (.int c0)),some (dv (.int (n:Nat))),some (dv (cD cs)),some (dv (.lst (st.map qqD))),some (dv (.lst (mo.map mD))),some (dv (rsD rows)),some (dO (.lst [cD cs,rsD rows])),some (dv (.tup [.str "least", qD (vG s),.lst ((xG s).map qD),wD (lwG s)])),some (dO (.lst (l.map qqD))),some (dv (qD (0,1))),none,none,none]) ?_ ?_
 ·exact ⟨rfl,rfl,trivial,rfl⟩
 rintro _ rfl
 have o:=O.ssh S
 have bp:0 < s.b:=O.g.iv.d0
 have F:=Wn O mt
 have g0:=Wm O mt
 have cst0:∀ q,q < cs.length->0 <= cst (wcs cs) q:=fun q hq=>S.pb.c0 _ (w5 (by unfold wcs; rw [List.length_map]; exact hq))
 have y1:s.yb = 1:=by
  rw [O.y]
  exact Nat.le_antisymm (Nat.le_of_dvd (by decide) (Wr 1 _ 1 (Nat.dvd_refl _) fun m hm=>by
   obtain ⟨p,hp,rfl⟩:=List.mem_map.mp hm
   rw [(hc p hp).2.2]
   exact Nat.dvd_refl _)) (by have:=O.g.y1; rw [O.y] at this; exact this)
 have cE:∀ q,q < cs.length->cst (wcs cs) q = (cs.getD q (0,1)).1:=fun q hq=>by
  have:=(E6 S hq).1
  rw [(hc _ (vm hq)).2.2,<- O.y,y1] at this
  have this:cst (wcs cs) q * 1 = (cs.getD q (0,1)).1 * 1:=this
  omega
 have nnT:∀ q,q < cs.length->0 <= gx s q * cst (wcs cs) q:=fun q hq=>Int.mul_nonneg (F.x0 q hq) (cst0 q hq)
 have vb:∀ i,i <= cs.length->intBits (rt (sm i fun q=>gx s q * cst (wcs cs) q) s.b).1 <= 4000 /\ intBits (rt (sm i fun q=>gx s q * cst (wcs cs) q) s.b).2 <= 4000 /\ 0 < (rt (sm i fun q=>gx s q * cst (wcs cs) q) s.b).2:=fun i hi=>by
  have r:=Tc (t:=sm i fun q=>gx s q * cst (wcs cs) q) (b:=s.b) (by omega)
  have a0:=Uw (f:=fun q=>gx s q * cst (wcs cs) q) (n:=i) fun q hq=>nnT q (by omega)
  have a1:=Jq nnT hi
  rw [<- g0] at a1
  have gsh:intBits (s.g.getD 0 0) <= 4000:=we (o.gs _ (w5 (by rw [O.g.g]; omega)))
  exact ⟨b_le r.lp (b_le (by omega) gsh),b_le r.lq (we o.b),r.pos⟩
 refine zv (fun ρ=>∃ x11 x12:Option EV,ρ = [some (dv (.scr ns)),some (dv (.int c0)),some (dv (.int (n:Nat))),some (dv (cD cs)),some (dv (.lst (st.map qqD))),some (dv (.lst (mo.map mD))),some (dv (rsD rows)),some (dO (.lst [cD cs,rsD rows])),some (dv (.tup [.str "least", qD (vG s),.lst ((xG s).map qD),wD (lwG s)])),some (dv (.lst (l.map qqD))),some (dv (qD (vG s))),x11,x12,none]) ?_ ?_
 ·refine uk (u4 (zipD (cs.map qqD) (l.map qqD)) (fun ψ hψ=>Sl (x:=.lst (cs.map qqD)) (y:=.lst (l.map qqD)) (fun ψ hψ=>hψ) (fun ψ hψ=>hψ) rfl rfl hψ) (fun i ρ=>i <= cs.length /\ ∃ x11 x12:Option EV,ρ = [some (dv (.scr ns)),some (dv (.int c0)),some (dv (.int (n:Nat))),some (dv (cD cs)),some (dv (.lst (st.map qqD))),some (dv (.lst (mo.map mD))),some (dv (rsD rows)),some (dO (.lst [cD cs,rsD rows])),some (dv (.tup [.str "least", qD (vG s),.lst ((xG s).map qD),wD (lwG s)])),some (dv (.lst (l.map qqD))),some (dv (qD (rt (sm i fun q=>gx s q * cst (wcs cs) q) s.b))),x11,x12,none]) ⟨Nat.zero_le _,none,none,?_⟩ ?_ ?_)
  ·rw [show (sm 0 fun q=>gx s q * cst (wcs cs) q) = 0 from rfl,k9 (t:=0) (b:=s.b) (t':=0) (b':=1) bp (by decide) (by rw [Int.zero_mul,Int.zero_mul])]
   rfl
  ·rintro i d _ hd ⟨hi,x11,x12,rfl⟩
   unfold zipD at hd
   rw [List.getElem?_zipWith,List.getElem?_map,List.getElem?_map] at hd
   cases e1:cs[i]? with
   | none=>rw [e1] at hd; cases hd
   | some c =>
    cases e2:l[i]? with
    | none=>rw [e1,e2] at hd; cases hd
    | some p =>
     rw [e1,e2] at hd
     cases hd
     have hi2:=(List.getElem?_eq_some_iff.mp e1).1
     obtain ⟨v1,v2,v3⟩:=vb i hi
     have pN:=hN p (List.mem_of_getElem? e2)
     have cH:=hc c (List.mem_of_getElem? e1)
     have gp:l.getD i (0,1) = p:=by unfold List.getD; rw [e2]; rfl
     have gc:cs.getD i (0,1) = c:=by unfold List.getD; rw [e1]; rfl
     have q1:=(Q i hi2).1
     try dsimp only at q1
     rw [gp] at q1
     have big:∀ {x:Int} {k:Nat},intBits x <= k->k <= 900100->intBits x <= 900100:=fun a b=>Nat.le_trans a b
     have bp1:intBits p.1 <= 200:=wy pN.a
     have bp2:intBits (p.2:Int) <= 50:=wy (by rw [Int.natAbs_natCast]; exact pN.b2)
     have bc:intBits c.1 <= 31:=wy (Nat.lt_of_le_of_lt cH.2.1 (by decide))
     have pb1:=pN.b1
     refine V0 ?_
     refine ⟨t5 (big v1 (by decide)) (big bp2 (by decide)),t5 (big bc (by decide)) (big bp1 (by decide)),t5 (big (PySem.intBits_mul_le bc bp1) (by decide)) (big v2 (by decide)),t5 (big v2 (by decide)) (big bp2 (by decide)),rfl,?_⟩
     refine ⟨Int.mul_pos v3 (by show (0:Int) < (p.2:Int); omega),Nat.le_trans (PySem.intBits_mul_le v2 bp2) (by decide),trivial,by omega,some (dv (qqD c)),some (dv (qqD p)),?_⟩
     have st:=Qg (c:=c.1) bp pb1 rfl q1 (S:=sm i fun q=>gx s q * cst (wcs cs) q)
     rw [show (sm i fun q=>gx s q * cst (wcs cs) q) + gx s i * c.1 = sm (i + 1) fun q=>gx s q * cst (wcs cs) q from by show _ = (sm i fun q=>gx s q * cst (wcs cs) q) + gx s i * cst (wcs cs) i; rw [cE i hi2,gc]] at st
     rw [<- st]
     rfl
  ·rintro _ ⟨hi,x11,x12,rfl⟩
   refine ⟨x11,x12,?_⟩
   rw [show (zipD (cs.map qqD) (l.map qqD)).length = cs.length by unfold zipD; rw [List.length_zipWith,List.length_map,List.length_map]; omega,<- g0]
   unfold vG
   rw [y1,Int.natCast_one,Int.mul_one]
 rintro _ ⟨x11,x12,rfl⟩
 have ex:(xG s).map qD = l.map qqD:=Kz O ll fun q hq=>(Q q hq).2
 have okL:okD 40 (.lst (l.map qqD)):=fun z hz=>by obtain ⟨p,hp,rfl⟩:=List.mem_map.mp hz; exact ok2 _ _ _
 refine zv (fun ρ=>ρ = [some (dv (.scr ns)),some (dv (.int c0)),some (dv (.int (n:Nat))),some (dv (cD cs)),some (dv (.lst (st.map qqD))),some (dv (.lst (mo.map mD))),some (dv (rsD rows)),some (dO (.lst [cD cs,rsD rows])),some (dv (.tup [.str "least", qD (vG s),.lst ((xG s).map qD),wD (lwG s)])),some (dv (.lst (l.map qqD))),some (dv (qD (vG s))),x11,x12,none]) ?_ ?_
 ·rw [ex]
  exact va false (fun ψ hψ=>jo (fun ψ hψ=>jp (by exact hψ)) (fun ψ hψ=>jo (fun ψ hψ=>qz (yi (dv (qD (vG s))) (dv (qD (vG s))) (fun ψ hψ=>hψ) (fun ψ hψ=>hψ) (W9 (okq _) (tm 40 _ (okq _)) hψ))) (fun ψ hψ=>qz (yi (dv (.lst (l.map qqD))) (dv (.lst (l.map qqD))) (fun ψ hψ=>hψ) (fun ψ hψ=>hψ) (W9 okL (tm 40 _ okL) hψ))) hψ) hψ) (fun z=>(by cases z)) (fun _=>rfl)
 rintro _ rfl
 refine zv (fun ρ=>∃ x12:Option EV,ρ = [some (dv (.scr ns)),some (dv (.int c0)),some (dv (.int (n:Nat))),some (dv (cD cs)),some (dv (.lst (st.map qqD))),some (dv (.lst (mo.map mD))),some (dv (rsD rows)),some (dO (.lst [cD cs,rsD rows])),some (dv (.tup [.str "least", qD (vG s),.lst ((xG s).map qD),wD (lwG s)])),some (dv (.lst (l.map qqD))),some (dv (qD (vG s))),x11,x12,none]) ?_ ?_
 ·refine u4 (qD (vG s) :: (xG s).map qD) (fun ψ hψ=>⟨rfl,rfl,Nat.le_trans (show 1 + ((xG s).map qD).length <= 1000 by rw [ex,List.length_map]; omega) (by decide),trivial,hψ⟩) (fun _ ρ=>∃ x12:Option EV,ρ = [some (dv (.scr ns)),some (dv (.int c0)),some (dv (.int (n:Nat))),some (dv (cD cs)),some (dv (.lst (st.map qqD))),some (dv (.lst (mo.map mD))),some (dv (rsD rows)),some (dO (.lst [cD cs,rsD rows])),some (dv (.tup [.str "least", qD (vG s),.lst ((xG s).map qD),wD (lwG s)])),some (dv (.lst (l.map qqD))),some (dv (qD (vG s))),x11,x12,none]) ⟨x12,rfl⟩ ?_ ?_
  ·rintro i d _ hd ⟨x12,rfl⟩
   have:∃ v:RR,d = qD v:=by
    rcases List.mem_cons.mp (List.mem_of_getElem? hd) with z | z
    ·exact ⟨_,z⟩
    ·obtain ⟨v,_,e⟩:=List.mem_map.mp z
     exact ⟨v,e.symm⟩
   obtain ⟨v,rfl⟩:=this
   refine Xb ?_
   exact va false (fun ψ hψ=>jo (fun ψ hψ=>jp (by exact hψ)) (fun ψ hψ=>jo (fun ψ hψ=>jp ⟨rfl,hψ⟩) (fun ψ hψ=>jp ⟨rfl,hψ⟩) hψ) hψ) (fun z=>(by cases z)) (fun _=>⟨some (dv (qD v)),rfl⟩)
  ·rintro _ ⟨x12,rfl⟩
   exact ⟨x12,rfl⟩
 rintro _ ⟨x12,rfl⟩
 refine zv (fun ρ=>ρ = [some (dv (.scr ns)),some (dv (.int c0)),some (dv (.int (n:Nat))),some (dv (cD cs)),some (dv (.lst (st.map qqD))),some (dv (.lst (mo.map mD))),some (dv (rsD rows)),some (dO (.lst [cD cs,rsD rows])),some (dv (.tup [.str "least", qD (vG s),.lst ((xG s).map qD),wD (lwG s)])),some (dv (.lst (l.map qqD))),some (dv (qD (vG s))),x11,x12,some (dO (cD (List.replicate 25 (1,1))))]) ?_ ?_
 ·exact ⟨rfl,rfl,rfl,rfl,by decide,by decide,by decide,trivial,rfl⟩
 rintro _ rfl
 have S0:Sys (List.replicate 24 (1,1)) []:=Jm (by rw [List.length_replicate]; omega) (Nat.zero_le _) (fun p hp=>by rw [List.eq_of_mem_replicate hp]; exact ⟨by decide,by decide,rfl⟩) (fun _ z=>(nomatch z))
 refine zv (fun ρ=>ρ = [some (dv (.scr ns)),some (dv (.int c0)),some (dv (.int (n:Nat))),some (dv (cD cs)),some (dv (.lst (st.map qqD))),some (dv (.lst (mo.map mD))),some (dv (rsD rows)),some (dO (.lst [cD cs,rsD rows])),some (dv (.tup [.str "least", qD (vG s),.lst ((xG s).map qD),wD (lwG s)])),some (dv (.lst (l.map qqD))),some (dv (qD (vG s))),x11,x12,some (dO (cD (List.replicate 25 (1,1))))]) ?_ ?_
 ·have okT:okD 40 (.tup [.str "least", qD (0,1),.lst ((List.replicate 24 ((0:Int),1)).map qqD)]):=fun z hz=>by
   simp only [List.mem_cons,List.not_mem_nil,or_false] at hz
   rcases hz with rfl | rfl | rfl
   ·exact Tp ▸ trivial
   ·exact ok2 37 _ _
   ·exact fun z hz=>by obtain ⟨p,hp,rfl⟩:=List.mem_map.mp hz; exact ok2 _ _ _
  refine va false (fun ψ hψ=>qz (yi (dv (.tup [.str "least", qD (0,1),.lst ((List.replicate 24 ((0:Int),1)).map qqD)])) (dv (.tup [.str "least", qD (0,1),.lst ((List.replicate 24 ((0:Int),1)).map qqD)])) (fun ψ hψ=>?_) (fun ψ hψ=>⟨rfl,rfl,rfl,rfl,rfl,rfl,by decide,by decide,by decide,rfl,rfl,hψ⟩) (W9 okT (tm 40 _ okT) hψ))) (fun z=>(by cases z)) (fun _=>rfl)
  refine xc [df (cD (List.replicate 24 (1,1))),df (rsD [])] (fun ψ hψ=>zh _ _ (fun ψ hψ=>hψ) (fun ψ hψ=>zh _ _ (fun ψ hψ=>⟨rfl,rfl,hψ⟩) (fun ψ hψ=>hψ) hψ) hψ) rfl (Wq S0 fun f hf=>?_)
  rcases hf with ⟨s0,O0,m0,rfl⟩ | ⟨s0,k0,O0,E0,rfl⟩
  ·obtain ⟨z1,z2⟩:=Ka S0 O0 m0
   show sSl (lstD s0) none (some 3) ψ
   rw [Nj,z1,z2]
   exact ⟨no43 _ _ _ _,hψ⟩
  ·exact (Sq O0 E0 (Xd (fun _ z=>(nomatch z)) (fun _ z=>(nomatch z)))).elim
 rintro _ rfl
 refine uk (xt (M5 ?_))
 refine xc [dv (cD (List.replicate 25 (1,1))),df (.lst [])] (fun ψ hψ=>zh _ _ (fun ψ hψ=>hψ) (fun ψ hψ=>zh _ _ (fun ψ hψ=>⟨rfl,rfl,hψ⟩) (fun ψ hψ=>hψ) hψ) hψ) rfl ⟨(List.replicate 25 ((1:Int),1)).map qqD,.lst [],rfl,(show 24 < 25 by decide),(show 25 <= 1000 by decide),⟨fun _=>?_,fun z=>(by cases z)⟩⟩
 exact xc [dv (cD (List.replicate 25 (1,1))),df (.lst [.tup [cD (List.replicate 25 (1,1)),.tup [.int 1,.int 1]]])] (fun ψ hψ=>zh _ _ (fun ψ hψ=>hψ) (fun ψ hψ=>zh _ _ (fun ψ hψ=>⟨rfl,rfl,rfl,rfl,rfl,rfl,hψ⟩) (fun ψ hψ=>hψ) hψ) hψ) rfl ⟨(List.replicate 25 ((1:Int),1)).map qqD,_,rfl,(show 24 < 25 by decide),(show 25 <= 1000 by decide),trivial,h⟩
end
section
open PySem.W PySem.PyData
noncomputable def zE (P:Params) (s:Str) (t:Nat) (v:Value):DictEntry:=⟨keyHash P s,.str s t,v⟩
noncomputable def zG (n q:Str) (s:Stmt) (d c m:Value) (k:Nat):Obj:=⟨.type "function", none,.func (fnOf n q (vn s) (yt s) (zb s) d .none c m none (.ref k) .none),#[]⟩
noncomputable def zF (n:Str) (s:Stmt) (m:Str) (i k:Nat):Obj:=⟨.type "function", none,.func (fnOf n n (vn s) (yt s) (zb s) .none .none .none (.str m i) none (.ref k) .none),#[]⟩
noncomputable def zC (n:Str) (a:Nat) (q:Str) (b c:Nat) (d e f:Int) (g:Nat) (h:Int) (i j k l:Nat) (m o:Int) (p:Nat):Obj:=⟨.type "code", none,.fields #[.str n a,.str q b,.str "/claim/cut.py" c,.int d 0,.int e 0,.int 0 0,.int 0 0,.int f 0,.ref g,.bool true,.int h 0,.ref i,.none,.ref j,.ref k,.ref l,.int m 0,.int o 0,.str "/claim/cut.py" p],#[]⟩
noncomputable def zK (P:Params):Frag:=(nat_lit 2,⟨.none,none,(.dict #[] 0),#[]⟩)::
(nat_lit 3,⟨(.type "dict"),none,(.dict #[zE P "__name__" 165 (.str "law_toll_k46_whole_chain" 476),zE P "__doc__" 166 .none,zE P "__package__" 167 .none,zE P "__loader__" 168 (.builtin "__main__.__loader__#opaque"),zE P "__spec__" 169 .none,zE P "__annotations__" 170 (.ref 6),zE P "__builtins__" 171 (.ref 4),zE P "__file__" 173 (.str "/claim/cut.py" 172),zE P "__cached__" 174 .none,zE P "TollError" 206 (.ref 24),zE P "NoRatio" 222 (.ref 37),zE P "NoPaper" 238 (.ref 49),zE P "NoSize" 263 (.ref 68),zE P "TooMany" 279 (.ref 80),zE P "is_whole" 288 (.ref 89),zE P "ratio" 299 (.ref 96),zE P "common" 308 (.ref 103),zE P "multiple" 317 (.ref 110),zE P "MOST_UNKNOWNS" 321 (.int 24 320),zE P "check_unknowns" 328 (.ref 117),zE P "least" 338 (.ref 124),zE P "whole" 346 (.ref 131),zE P "whole_row" 352 (.ref 136),zE P "Search" 475 (.ref 222),zE P "_law_cell_at" 485 (.ref 233),zE P "_law_drawn" 494 (.ref 240),zE P "_law_whole" 501 (.ref 247),zE P "_law_divisor" 509 (.ref 254),zE P "_law_lowest" 518 (.ref 261),zE P "_law_step" 525 (.ref 268),zE P "_law_more" 532 (.ref 275),zE P "_law_lifted" 545 (.ref 282),zE P "_law_rows" 556 (.ref 289),zE P "_law_refused" 566 (.ref 296),zE P "law" 572 (.ref 301)] 35),#[]⟩)::
(nat_lit 15,⟨(.type "tuple"),none,(.seq #[(.type "ValueError")] 0),#[]⟩)::
(nat_lit 22,⟨(.type "tuple"),none,(.seq #[] 0),#[]⟩)::
(nat_lit 23,⟨(.type "dict"),none,(.dict #[zE P "__module__" 196 (.str "toll.errors" 187),zE P "__firstlineno__" 200 (.int 2 199),zE P "__static_attributes__" 201 (.ref 22),zE P "__weakref__" 203 (.ref 25),zE P "__doc__" 204 .none] 3),#[]⟩)::
(nat_lit 24,⟨(.type "type"),none,(.cls ⟨"TollError",[(.type "ValueError")],[(.ref 24),(.type "ValueError"),(.type "Exception"),(.type "BaseException"),(.type "object")],23,"TollError",true,[],[(.ref 37),(.ref 49),(.ref 68),(.ref 80)],false,none,false⟩),#[(some (.ref 15)),none,(some (.str "TollError" 189)),(some (.str "TollError" 197)),(some (.builtin "ValueError.__new__")),(some (.bool true))]⟩)::
(nat_lit 25,⟨(.type "getset_descriptor"),none,(.fields #[(.str "__weakref__" 202),(.ref 24),(.builtin "ExceptionGroup.__weakref__"),.none]),#[]⟩)::
(nat_lit 28,⟨(.type "tuple"),none,(.seq #[(.ref 24)] 0),#[]⟩)::
(nat_lit 35,⟨(.type "tuple"),none,(.seq #[] 0),#[]⟩)::
(nat_lit 36,⟨(.type "dict"),none,(.dict #[zE P "__module__" 214 (.str "toll.errors" 187),zE P "__firstlineno__" 218 (.int 4 217),zE P "__static_attributes__" 219 (.ref 35),zE P "__doc__" 220 .none] 2),#[]⟩)::
(nat_lit 37,⟨(.type "type"),none,(.cls ⟨"NoRatio",[(.ref 24)],[(.ref 37),(.ref 24),(.type "ValueError"),(.type "Exception"),(.type "BaseException"),(.type "object")],36,"NoRatio",true,[],[],false,none,false⟩),#[(some (.ref 28)),none,(some (.str "NoRatio" 207)),(some (.str "NoRatio" 215)),(some (.builtin "ValueError.__new__")),(some (.bool true))]⟩)::
(nat_lit 40,⟨(.type "tuple"),none,(.seq #[(.ref 24)] 0),#[]⟩)::
(nat_lit 47,⟨(.type "tuple"),none,(.seq #[] 0),#[]⟩)::
(nat_lit 48,⟨(.type "dict"),none,(.dict #[zE P "__module__" 230 (.str "toll.errors" 187),zE P "__firstlineno__" 234 (.int 6 233),zE P "__static_attributes__" 235 (.ref 47),zE P "__doc__" 236 .none] 2),#[]⟩)::
(nat_lit 49,⟨(.type "type"),none,(.cls ⟨"NoPaper",[(.ref 24)],[(.ref 49),(.ref 24),(.type "ValueError"),(.type "Exception"),(.type "BaseException"),(.type "object")],48,"NoPaper",true,[],[],false,none,false⟩),#[(some (.ref 40)),none,(some (.str "NoPaper" 223)),(some (.str "NoPaper" 231)),(some (.builtin "ValueError.__new__")),(some (.bool true))]⟩)::
(nat_lit 52,⟨(.type "tuple"),none,(.seq #[(.ref 24)] 0),#[]⟩)::
(nat_lit 64,zC "__init__" 251 "NoSize.__init__" 252 253 10 2 3 59 181 60 61 62 63 256 10 257)::
(nat_lit 65,zG "__init__" "NoSize.__init__" (x9 (top 4) 0) .none .none (.str "toll.errors" 187) 64)::
(nat_lit 66,⟨(.type "tuple"),none,(.seq #[(.str "at" 259)] 0),#[]⟩)::
(nat_lit 67,⟨(.type "dict"),none,(.dict #[zE P "__module__" 246 (.str "toll.errors" 187),zE P "__firstlineno__" 250 (.int 8 249),zE P "__init__" 258 (.ref 65),zE P "__static_attributes__" 260 (.ref 66),zE P "__doc__" 261 .none] 2),#[]⟩)::
(nat_lit 68,⟨(.type "type"),none,(.cls ⟨"NoSize",[(.ref 24)],[(.ref 68),(.ref 24),(.type "ValueError"),(.type "Exception"),(.type "BaseException"),(.type "object")],67,"NoSize",true,[],[],false,none,false⟩),#[(some (.ref 52)),none,(some (.str "NoSize" 239)),(some (.str "NoSize" 247)),(some (.builtin "ValueError.__new__")),(some (.bool true))]⟩)::
(nat_lit 71,⟨(.type "tuple"),none,(.seq #[(.ref 24)] 0),#[]⟩)::
(nat_lit 78,⟨(.type "tuple"),none,(.seq #[] 0),#[]⟩)::
(nat_lit 79,⟨(.type "dict"),none,(.dict #[zE P "__module__" 271 (.str "toll.errors" 187),zE P "__firstlineno__" 275 (.int 13 274),zE P "__static_attributes__" 276 (.ref 78),zE P "__doc__" 277 .none] 2),#[]⟩)::
(nat_lit 80,⟨(.type "type"),none,(.cls ⟨"TooMany",[(.ref 24)],[(.ref 80),(.ref 24),(.type "ValueError"),(.type "Exception"),(.type "BaseException"),(.type "object")],79,"TooMany",true,[],[],false,none,false⟩),#[(some (.ref 71)),none,(some (.str "TooMany" 264)),(some (.str "TooMany" 272)),(some (.builtin "ValueError.__new__")),(some (.bool true))]⟩)::
(nat_lit 88,zC "is_whole" 282 "is_whole" 283 284 16 1 3 83 181 84 85 86 87 286 16 287)::
(nat_lit 89,zF "is_whole" (top 7) "toll.programs" 280 88)::
(nat_lit 95,zC "ratio" 291 "ratio" 292 293 19 2 3 90 181 91 92 93 94 297 19 298)::
(nat_lit 96,zF "ratio" (top 9) "toll.ratios" 289 95)::
(nat_lit 102,zC "common" 300 "common" 301 302 28 2 3 97 181 98 99 100 101 306 28 307)::
(nat_lit 103,zF "common" (top 10) "toll.ratios" 289 102)::
(nat_lit 109,zC "multiple" 309 "multiple" 310 311 34 1 3 104 181 105 106 107 108 315 34 316)::
(nat_lit 110,zF "multiple" (top 11) "toll.ratios" 289 109)::
(nat_lit 116,zC "check_unknowns" 322 "check_unknowns" 323 324 41 1 3 111 181 112 113 114 115 326 41 327)::
(nat_lit 117,zF "check_unknowns" (top 14) "toll.least" 318 116)::
(nat_lit 123,zC "least" 329 "least" 330 331 44 2 3 118 181 119 120 121 122 336 44 337)::
(nat_lit 124,zF "least" (top 15) "toll.least" 318 123)::
(nat_lit 130,zC "whole" 339 "whole" 340 341 51 2 3 125 181 126 127 128 129 344 51 345)::
(nat_lit 131,zF "whole" (top 16) "toll.least" 318 130)::
(nat_lit 135,⟨(.type "code"),none,(.fields #[(.str "whole_row" 347),(.str "whole_row" 348),(.str "/claim/cut.py" 349),(.int 53 0),(.int 1 0),(.int 0 0),(.int 0 0),(.int 3 0),(.ref 132),(.bool true),(.int 181 0),(.ref 133),.none,.none,.none,(.ref 134),(.int 350 0),(.int 53 0),(.str "/claim/cut.py" 351)]),#[]⟩)::
(nat_lit 136,zF "whole_row" (top 17) "toll.least" 318 135)::
(nat_lit 147,⟨(.type "code"),none,(.fields #[(.str "__init__" 365),(.str "Search.__init__" 366),(.str "/claim/cut.py" 367),(.int 59 0),(.int 3 0),(.int 0 0),(.int 0 0),(.int 3 0),(.ref 144),(.bool true),(.int 181 0),(.ref 145),.none,.none,.none,(.ref 146),(.int 368 0),(.int 59 0),(.str "/claim/cut.py" 369)]),#[]⟩)::
(nat_lit 148,zG "__init__" "Search.__init__" (x9 (top 18) 0) .none .none (.str "toll.least" 318) 147)::
(nat_lit 152,⟨(.type "code"),none,(.fields #[(.str "alone" 371),(.str "Search.alone" 372),(.str "/claim/cut.py" 373),(.int 68 0),(.int 2 0),(.int 0 0),(.int 0 0),(.int 3 0),(.ref 149),(.bool true),(.int 181 0),(.ref 150),.none,.none,.none,(.ref 151),(.int 374 0),(.int 68 0),(.str "/claim/cut.py" 375)]),#[]⟩)::
(nat_lit 153,zG "alone" "Search.alone" (x9 (top 18) 1) .none .none (.str "toll.least" 318) 152)::
(nat_lit 157,⟨(.type "code"),none,(.fields #[(.str "go" 377),(.str "Search.go" 378),(.str "/claim/cut.py" 379),(.int 71 0),(.int 1 0),(.int 0 0),(.int 0 0),(.int 3 0),(.ref 154),(.bool true),(.int 181 0),(.ref 155),.none,.none,.none,(.ref 156),(.int 380 0),(.int 71 0),(.str "/claim/cut.py" 381)]),#[]⟩)::
(nat_lit 158,zG "go" "Search.go" (x9 (top 18) 2) .none .none (.str "toll.least" 318) 157)::
(nat_lit 164,zC "worst" 383 "Search.worst" 384 385 81 1 3 159 181 160 161 162 163 392 81 393)::
(nat_lit 165,zG "worst" "Search.worst" (x9 (top 18) 3) .none .none (.str "toll.least" 318) 164)::
(nat_lit 169,⟨(.type "code"),none,(.fields #[(.str "grows" 395),(.str "Search.grows" 396),(.str "/claim/cut.py" 397),(.int 93 0),(.int 3 0),(.int 0 0),(.int 0 0),(.int 3 0),(.ref 166),(.bool true),(.int 181 0),(.ref 167),.none,.none,.none,(.ref 168),(.int 398 0),(.int 93 0),(.str "/claim/cut.py" 399)]),#[]⟩)::
(nat_lit 170,zG "grows" "Search.grows" (x9 (top 18) 4) .none .none (.str "toll.least" 318) 169)::
(nat_lit 174,⟨(.type "code"),none,(.fields #[(.str "turn" 401),(.str "Search.turn" 402),(.str "/claim/cut.py" 403),(.int 98 0),(.int 3 0),(.int 0 0),(.int 0 0),(.int 3 0),(.ref 171),(.bool true),(.int 181 0),(.ref 172),.none,.none,.none,(.ref 173),(.int 404 0),(.int 98 0),(.str "/claim/cut.py" 405)]),#[]⟩)::
(nat_lit 175,zG "turn" "Search.turn" (x9 (top 18) 5) .none .none (.str "toll.least" 318) 174)::
(nat_lit 179,⟨(.type "code"),none,(.fields #[(.str "moved" 407),(.str "Search.moved" 408),(.str "/claim/cut.py" 409),(.int 107 0),(.int 5 0),(.int 0 0),(.int 0 0),(.int 3 0),(.ref 176),(.bool true),(.int 181 0),(.ref 177),.none,.none,.none,(.ref 178),(.int 410 0),(.int 107 0),(.str "/claim/cut.py" 411)]),#[]⟩)::
(nat_lit 180,zG "moved" "Search.moved" (x9 (top 18) 6) .none .none (.str "toll.least" 318) 179)::
(nat_lit 186,zC "first_out" 413 "Search.first_out" 414 415 110 2 3 181 181 182 183 184 185 421 110 422)::
(nat_lit 187,zG "first_out" "Search.first_out" (x9 (top 18) 7) .none .none (.str "toll.least" 318) 186)::
(nat_lit 191,⟨(.type "code"),none,(.fields #[(.str "ahead" 424),(.str "Search.ahead" 425),(.str "/claim/cut.py" 426),(.int 117 0),(.int 4 0),(.int 0 0),(.int 0 0),(.int 3 0),(.ref 188),(.bool true),(.int 181 0),(.ref 189),.none,.none,.none,(.ref 190),(.int 427 0),(.int 117 0),(.str "/claim/cut.py" 428)]),#[]⟩)::
(nat_lit 192,zG "ahead" "Search.ahead" (x9 (top 18) 8) .none .none (.str "toll.least" 318) 191)::
(nat_lit 196,⟨(.type "code"),none,(.fields #[(.str "endless" 430),(.str "Search.endless" 431),(.str "/claim/cut.py" 432),(.int 121 0),(.int 3 0),(.int 0 0),(.int 0 0),(.int 3 0),(.ref 193),(.bool true),(.int 181 0),(.ref 194),.none,.none,.none,(.ref 195),(.int 433 0),(.int 121 0),(.str "/claim/cut.py" 434)]),#[]⟩)::
(nat_lit 197,zG "endless" "Search.endless" (x9 (top 18) 9) .none .none (.str "toll.least" 318) 196)::
(nat_lit 201,⟨(.type "code"),none,(.fields #[(.str "shown" 436),(.str "Search.shown" 437),(.str "/claim/cut.py" 438),(.int 126 0),(.int 3 0),(.int 0 0),(.int 0 0),(.int 3 0),(.ref 198),(.bool true),(.int 181 0),(.ref 199),.none,.none,.none,(.ref 200),(.int 439 0),(.int 126 0),(.str "/claim/cut.py" 440)]),#[]⟩)::
(nat_lit 202,zG "shown" "Search.shown" (x9 (top 18) 10) .none .none (.str "toll.least" 318) 201)::
(nat_lit 208,zC "value" 442 "Search.value" 443 444 129 1 3 203 181 204 205 206 207 446 129 447)::
(nat_lit 209,zG "value" "Search.value" (x9 (top 18) 11) .none .none (.str "toll.least" 318) 208)::
(nat_lit 213,⟨(.type "code"),none,(.fields #[(.str "unknowns" 449),(.str "Search.unknowns" 450),(.str "/claim/cut.py" 451),(.int 132 0),(.int 1 0),(.int 0 0),(.int 0 0),(.int 3 0),(.ref 210),(.bool true),(.int 181 0),(.ref 211),.none,.none,.none,(.ref 212),(.int 452 0),(.int 132 0),(.str "/claim/cut.py" 453)]),#[]⟩)::
(nat_lit 214,zG "unknowns" "Search.unknowns" (x9 (top 18) 12) .none .none (.str "toll.least" 318) 213)::
(nat_lit 218,⟨(.type "code"),none,(.fields #[(.str "weights" 455),(.str "Search.weights" 456),(.str "/claim/cut.py" 457),(.int 135 0),(.int 1 0),(.int 0 0),(.int 0 0),(.int 3 0),(.ref 215),(.bool true),(.int 181 0),(.ref 216),.none,.none,.none,(.ref 217),(.int 458 0),(.int 135 0),(.str "/claim/cut.py" 459)]),#[]⟩)::
(nat_lit 219,zG "weights" "Search.weights" (x9 (top 18) 13) .none .none (.str "toll.least" 318) 218)::
(nat_lit 220,⟨(.type "tuple"),none,(.seq #[(.str "bottom" 461),(.str "by" 462),(.str "goal" 463),(.str "many" 464),(.str "rows" 465),(.str "table" 466),(.str "things" 467)] 0),#[]⟩)::
(nat_lit 221,⟨(.type "dict"),none,(.dict #[zE P "__module__" 360 (.str "toll.least" 318),zE P "__firstlineno__" 364 (.int 57 363),zE P "__init__" 370 (.ref 148),zE P "alone" 376 (.ref 153),zE P "go" 382 (.ref 158),zE P "worst" 394 (.ref 165),zE P "grows" 400 (.ref 170),zE P "turn" 406 (.ref 175),zE P "moved" 412 (.ref 180),zE P "first_out" 423 (.ref 187),zE P "ahead" 429 (.ref 192),zE P "endless" 435 (.ref 197),zE P "shown" 441 (.ref 202),zE P "value" 448 (.ref 209),zE P "unknowns" 454 (.ref 214),zE P "weights" 460 (.ref 219),zE P "__static_attributes__" 468 (.ref 220),zE P "__dict__" 470 (.ref 223),zE P "__weakref__" 472 (.ref 224),zE P "__doc__" 473 .none] 4),#[]⟩)::
(nat_lit 222,⟨(.type "type"),none,(.cls ⟨"Search",[(.type "object")],[(.ref 222),(.type "object")],221,"Search",true,[],[],false,none,false⟩),#[none,none,(some (.str "Search" 353)),(some (.str "Search" 361)),(some (.builtin "object.__new__")),(some (.bool true))]⟩)::
(nat_lit 223,⟨(.type "getset_descriptor"),none,(.fields #[(.str "__dict__" 469),(.ref 222),(.builtin "function.__dict__"),(.builtin "function.__dict__#set")]),#[]⟩)::
(nat_lit 224,⟨(.type "getset_descriptor"),none,(.fields #[(.str "__weakref__" 471),(.ref 222),(.builtin "ExceptionGroup.__weakref__"),.none]),#[]⟩)::
(nat_lit 232,zC "_law_cell_at" 478 "_law_cell_at" 479 480 139 2 3 227 181 228 229 230 231 483 139 484)::
(nat_lit 233,zF "_law_cell_at" (top 20) "law_toll_k46_whole_chain" 476 232)::
(nat_lit 239,zC "_law_drawn" 486 "_law_drawn" 487 488 143 2 3 234 181 235 236 237 238 492 143 493)::
(nat_lit 240,zF "_law_drawn" (top 21) "law_toll_k46_whole_chain" 476 239)::
(nat_lit 246,zC "_law_whole" 495 "_law_whole" 496 497 148 1 3 241 181 242 243 244 245 499 148 500)::
(nat_lit 247,zF "_law_whole" (top 22) "law_toll_k46_whole_chain" 476 246)::
(nat_lit 253,zC "_law_divisor" 502 "_law_divisor" 503 504 150 2 3 248 181 249 250 251 252 507 150 508)::
(nat_lit 254,zF "_law_divisor" (top 23) "law_toll_k46_whole_chain" 476 253)::
(nat_lit 260,zC "_law_lowest" 510 "_law_lowest" 511 512 156 2 3 255 181 256 257 258 259 516 156 517)::
(nat_lit 261,zF "_law_lowest" (top 24) "law_toll_k46_whole_chain" 476 260)::
(nat_lit 267,zC "_law_step" 519 "_law_step" 520 521 159 1 3 262 181 263 264 265 266 523 159 524)::
(nat_lit 268,zF "_law_step" (top 25) "law_toll_k46_whole_chain" 476 267)::
(nat_lit 274,zC "_law_more" 526 "_law_more" 527 528 163 1 3 269 181 270 271 272 273 530 163 531)::
(nat_lit 275,zF "_law_more" (top 26) "law_toll_k46_whole_chain" 476 274)::
(nat_lit 281,zC "_law_lifted" 533 "_law_lifted" 534 535 167 2 3 276 181 277 278 279 280 543 167 544)::
(nat_lit 282,zF "_law_lifted" (top 27) "law_toll_k46_whole_chain" 476 281)::
(nat_lit 288,zC "_law_rows" 546 "_law_rows" 547 548 177 2 3 283 181 284 285 286 287 554 177 555)::
(nat_lit 289,zF "_law_rows" (top 28) "law_toll_k46_whole_chain" 476 288)::
(nat_lit 295,zC "_law_refused" 557 "_law_refused" 558 559 186 2 3 290 181 291 292 293 294 564 186 565)::
(nat_lit 296,zF "_law_refused" (top 29) "law_toll_k46_whole_chain" 476 295)::
(nat_lit 300,⟨(.type "code"),none,(.fields #[(.str "law" 567),(.str "law" 568),(.str "/claim/cut.py" 569),(.int 194 0),(.int 1 0),(.int 0 0),(.int 0 0),(.int 3 0),(.ref 297),(.bool true),(.int 181 0),(.ref 298),.none,.none,.none,(.ref 299),(.int 570 0),(.int 194 0),(.str "/claim/cut.py" 571)]),#[]⟩)::
(nat_lit 301,zF "law" (top 30) "law_toll_k46_whole_chain" 476 300)::[]
noncomputable def zA:List Addr:=2::3::15::22::23::24::25::28::35::36::37::40::47::48::49::52::64::65::66::67::68::71::78::79::80::88::89::95::96::102::103::109::110::116::117::123::124::130::131::135::136::147::148::152::153::157::158::164::165::169::170::174::175::179::180::186::187::191::192::196::197::201::202::208::209::213::214::218::219::220::221::222::223::224::232::233::239::240::246::247::253::254::260::261::267::268::274::275::281::282::288::289::295::296::300::301::[]
theorem zAK (P:Params):zA = (zK P).map (·.1):=by kernel_rfl
noncomputable def zq:Program:={ PySem.Challenge.pw_toll_k46_whole_chain with main:={ PySem.Challenge.pw_toll_k46_whole_chain.main with body:=[1,2,3,4,5,7,9,10,11,13,14,15,16,17,18,20,21,22,23,24,25,26,27,28,29,30].filterMap fun i=>PySem.Challenge.pw_toll_k46_whole_chain.main.body[i]? } }
noncomputable abbrev zX (s:Shared):Bool:=xlAt zq [] s && recOk (RowW.records PySem.Challenge.rw_toll_k46_whole_chain.row.toRowW) s
noncomputable abbrev zP (w:World):Prop:=Option.map (fun s=>(Fast.tw4187177175401517315 zq [] (Fast.tw5923862056798008813 PySem.Challenge.pw_toll_k46_whole_chain.main.body) zX true s,zA.map s.heap.get?)) (openEnds Fast.tw14364793385576792824 PySem.Challenge.pw_toll_k46_whole_chain w 4734) = some (openGood zq [],(zK w.params).map fun p=>some p.2)
theorem hl0 (w:World):zP w:=by kernel_rfl
theorem hl1:LeftO PySem.Challenge.pw_toll_k46_whole_chain zq [] zX (Hook.obs (kHook zK zA zAK)) (Hook.val (kHook zK zA zAK)) 4734:=by
 intro w; rw [Fast.te4187177175401517315,Fast.te5923862056798008813,Fast.te14364793385576792824]; exact hl0 w
theorem said:PySem.Challenge.rw_toll_k46_whole_chain.wellSaid = true:=by kernel_rfl
noncomputable def zD:DefRec:=match top 30 with | .FunctionDef n a b _ _ _ c _ _ p=>⟨n,a,b,c,p⟩ | _=>⟨"", ⟨[],[],none,[],[],none,[]⟩,[],⟨.function,[],false,false,[]⟩,⟨0,0,0,0⟩⟩
theorem opened (hc:WalkO zq [] (XL zq []) (Hook.says (kHook zK zA zAK)) PySem.Challenge.rw_toll_k46_whole_chain.row.toRowW zD [] (fun f vs=>PySem.call f vs)):PySem.Challenge.rw_toll_k46_whole_chain.Holds:=by
 refine holds_law said fun sd=>holds_open (q:=zq) (loose:=[]) (Xt:=zX) (XP:=XL zq []) (d:=zD) (kwd:=[]) (Yf:=Hook.obs (kHook zK zA zAK)) (Ya:=Hook.val (kHook zK zA zAK)) (YP:=Hook.says (kHook zK zA zAK)) (N:=4734) hl1 (Hook.of (kHook zK zA zAK)) (Hook.keeps (kHook zK zA zAK)) (fun s e=>xl_of s (Bool.and_eq_true_iff.mp e).1) XL.keeps (by kernel_rfl) (by kernel_rfl) (by kernel_rfl) (fun s e=>recFacts_of (Bool.and_eq_true_iff.mp e).2) (by kernel_rfl) sd (by kernel_rfl) ⟨rfl,rfl,rfl,rfl,rfl,by decide +kernel⟩ ?hw hc
 case hw=>w_witness2
end
section
variable {P:Program} {w:World} {K:W.Frag} {mg:Str->Option Value} {base:Heap} {f C:Addr} {fd:FuncData}
theorem jx (T:Tops mg) (F:Fun K "_law_cell_at" "_law_cell_at" (top 20) f fd) (m:mg "_law_cell_at" = some (.ref f)):FD P w K mg base 1 "_law_cell_at" ["_law_script", "_law_k"] Uu:=by
 have S:zp ["_law_script", "_law_k"] ["_law_script", "_law_k"] (zb (top 20)):=⟨rfl,rfl,rfl,by decide +kernel,rfl,by decide +kernel,by decide +kernel⟩
 refine ue F S (F.binds fun _ _ _ _ _ _ us hl=>(by obtain ⟨_,_,rfl⟩:=t6 hl; rfl)) m fun qZ A outer s H E ds φ hr hl hT=>?_
 have hu:=hr.units
 refine ⟨_,(zg (wu (Og (z9 1) (vv T.len (za (z9 0) zd))) (zm (yd (zn hu (z9 0) (z9 1)))) yz)
   (zm (yd zc))),?_⟩
 obtain ⟨ns,k,rfl,h⟩:=Qn hT
 walk_at "dl"
 refine ⟨fun hk=>?_,fun hk=>?_⟩
 ·have hk':k < ns.length:=by omega
  rw [Q6 (x:=ns[k]) (by omega) (by simp [hk'])]
  rw [show ns.getD k 0 = ns[k] by simp [List.getD,hk']] at h
  exact h
 ·have hk':ns.length <= k:=by omega
  rw [show ns.getD k 0 = 0 by simp [List.getD,hk']] at h
  exact h
noncomputable abbrev NsA (K:W.Frag) (x:Str) (f:Addr):Prop:=W.nsIn K mainGlobals x = some (some (.ref f))
noncomputable abbrev NnA (K:W.Frag) (x:Str):Prop:=W.nsIn K mainGlobals x = some none
noncomputable abbrev FdA (K:W.Frag) (C:Addr) (x:Str) (f:Addr):Prop:=W.findIn K (.ref C) x = some (some (.ref f))
noncomputable def FnA (K:W.Frag) (x q:Str) (st:Stmt) (f:Addr):Prop:=(∃ fd,Fun K x q st f fd) /\ W.keepIn K (.ref f) = true
theorem fna_mk {K:W.Frag} {x q:Str} {st:Stmt} {f:Addr} {od an:Option Addr} {sl:Array (Option Value)} {oc kV dc pm cd ct:Value} (l:K.lookup f = some ⟨oc,od,.func (W.fnOf x q (vn st) (yt st) (zb st) .none kV dc pm an cd ct),sl⟩) (c:W.codeIn K cd q = true) (k:W.keepIn K (.ref f) = true):FnA K x q st f:=⟨⟨_,Nq l c k⟩,k⟩
theorem all_mk {l:W.OpenLaw} {w:World} {K:W.Frag} {h:Heap} {mg:Str->Option Value} {fa:Addr} (X:K.In h) (G:h.Ns mainGlobals mg) (hfa:mg "law" = some (.ref fa)) {f1 f2 f3 f4 f5 f6 f7 f8 f9 f10 f11 f12 f13 f14 f15 f16 f17 f18 f19 g0 g1 g2 g3 g4 g5 g6 g7 g8 g9 g10 g11 g12 g13:Addr} {od19 an19:Option Addr} {sl19:Array (Option Value)} {oc19 kV19 dc19 pm19 cd19 ct19:Value} {C:Addr} {tq:Tok} {cE cT cNoRatio cNoPaper cNoSize:Addr} (a1:NsA K "is_whole" f1) (l1:FnA K "is_whole" "is_whole" (top 7) f1) (a2:NsA K "ratio" f2) (l2:FnA K "ratio" "ratio" (top 9) f2) (a3:NsA K "common" f3) (l3:FnA K "common" "common" (top 10) f3) (a4:NsA K "multiple" f4) (l4:FnA K "multiple" "multiple" (top 11) f4) (a5:NsA K "check_unknowns" f5) (l5:FnA K "check_unknowns" "check_unknowns" (top 14) f5) (a6:NsA K "least" f6) (l6:FnA K "least" "least" (top 15) f6) (a7:NsA K "whole" f7) (l7:FnA K "whole" "whole" (top 16) f7) (a8:NsA K "whole_row" f8) (l8:FnA K "whole_row" "whole_row" (top 17) f8) (a9:NsA K "_law_cell_at" f9) (l9:FnA K "_law_cell_at" "_law_cell_at" (top 20) f9) (a10:NsA K "_law_drawn" f10) (l10:FnA K "_law_drawn" "_law_drawn" (top 21) f10) (a11:NsA K "_law_whole" f11) (l11:FnA K "_law_whole" "_law_whole" (top 22) f11) (a12:NsA K "_law_divisor" f12) (l12:FnA K "_law_divisor" "_law_divisor" (top 23) f12) (a13:NsA K "_law_lowest" f13) (l13:FnA K "_law_lowest" "_law_lowest" (top 24) f13) (a14:NsA K "_law_step" f14) (l14:FnA K "_law_step" "_law_step" (top 25) f14) (a15:NsA K "_law_more" f15) (l15:FnA K "_law_more" "_law_more" (top 26) f15) (a16:NsA K "_law_lifted" f16) (l16:FnA K "_law_lifted" "_law_lifted" (top 27) f16) (a17:NsA K "_law_rows" f17) (l17:FnA K "_law_rows" "_law_rows" (top 28) f17) (a18:NsA K "_law_refused" f18) (l18:FnA K "_law_refused" "_law_refused" (top 29) f18)
  (a19:W.nsIn K mainGlobals "law" = some (some (.ref f19))) (l19:K.lookup f19 = some ⟨oc19,od19,.func (W.fnOf "law" "law" (vn (top 30)) (yt (top 30)) (zb (top 30)) .none kV19 dc19 pm19 an19 cd19 ct19),sl19⟩) (c19:W.codeIn K cd19 "law" = true) (k19:W.keepIn K (.ref f19) = true)
  (aC:W.nsIn K mainGlobals "Search" = some (some (.ref C))) (b0:FdA K C "__init__" g0) (i0:W.isFn K (.ref g0) = true) (m0:FnA K "__init__" "Search.__init__" (mth 0) g0) (b1:FdA K C "alone" g1) (i1:W.isFn K (.ref g1) = true) (m1:FnA K "alone" "Search.alone" (mth 1) g1) (b2:FdA K C "go" g2) (i2:W.isFn K (.ref g2) = true) (m2:FnA K "go" "Search.go" (mth 2) g2) (b3:FdA K C "worst" g3) (i3:W.isFn K (.ref g3) = true) (m3:FnA K "worst" "Search.worst" (mth 3) g3) (b4:FdA K C "grows" g4) (i4:W.isFn K (.ref g4) = true) (m4:FnA K "grows" "Search.grows" (mth 4) g4) (b5:FdA K C "turn" g5) (i5:W.isFn K (.ref g5) = true) (m5:FnA K "turn" "Search.turn" (mth 5) g5) (b6:FdA K C "moved" g6) (i6:W.isFn K (.ref g6) = true) (m6:FnA K "moved" "Search.moved" (mth 6) g6) (b7:FdA K C "first_out" g7) (i7:W.isFn K (.ref g7) = true) (m7:FnA K "first_out" "Search.first_out" (mth 7) g7) (b8:FdA K C "ahead" g8) (i8:W.isFn K (.ref g8) = true) (m8:FnA K "ahead" "Search.ahead" (mth 8) g8) (b9:FdA K C "endless" g9) (i9:W.isFn K (.ref g9) = true) (m9:FnA K "endless" "Search.endless" (mth 9) g9) (b10:FdA K C "shown" g10) (i10:W.isFn K (.ref g10) = true) (m10:FnA K "shown" "Search.shown" (mth 10) g10) (b11:FdA K C "value" g11) (i11:W.isFn K (.ref g11) = true) (m11:FnA K "value" "Search.value" (mth 11) g11) (b12:FdA K C "unknowns" g12) (i12:W.isFn K (.ref g12) = true) (m12:FnA K "unknowns" "Search.unknowns" (mth 12) g12) (b13:FdA K C "weights" g13) (i13:W.isFn K (.ref g13) = true) (m13:FnA K "weights" "Search.weights" (mth 13) g13)
  (pg:W.plainGet K C Str.empty = true) (hd:W.hasDictIn K C = true) (po:W.plainOver K C = true) (sa:W.findIn K (.ref C) "__setattr__" = some (some (.builtin "object.__setattr__"))) (mk:W.makesIn K C = true) (kc:W.keepIn K (.ref C) = true) (nf0:W.findIn K (.ref C) "by" = some none) (nf1:W.findIn K (.ref C) "rows" = some none) (nf2:W.findIn K (.ref C) "many" = some none) (nf3:W.findIn K (.ref C) "table" = some none) (nf4:W.findIn K (.ref C) "goal" = some none) (nf5:W.findIn K (.ref C) "bottom" = some none) (nf6:W.findIn K (.ref C) "things" = some none) (bQ:W.nsIn K mainGlobals "MOST_UNKNOWNS" = some (some (.int 24 tq))) (z_ValueError:NnA K "ValueError") (z_abs:NnA K "abs") (z_all:NnA K "all") (z_bool:NnA K "bool") (z_dict:NnA K "dict") (z_enumerate:NnA K "enumerate") (z_int:NnA K "int") (z_isinstance:NnA K "isinstance") (z_len:NnA K "len") (z_list:NnA K "list") (z_range:NnA K "range") (z_sum:NnA K "sum") (z_tuple:NnA K "tuple") (z_zip:NnA K "zip") (b_TollError:W.nsIn K mainGlobals "TollError" = some (some (.ref cE))) (b_TooMany:W.nsIn K mainGlobals "TooMany" = some (some (.ref cT))) (b_NoRatio:W.nsIn K mainGlobals "NoRatio" = some (some (.ref cNoRatio))) (b_NoPaper:W.nsIn K mainGlobals "NoPaper" = some (some (.ref cNoPaper))) (b_NoSize:W.nsIn K mainGlobals "NoSize" = some (some (.ref cNoSize))) (xN:excV K cT) (sE:W.subIn K (.ref cE) (.type "BaseException") = some true) (tE:W.typeIn K (.ref cE) = some (.type "type")) (dE:W.hasDictIn K cE = true) (uE:W.subIn K (.ref cT) (.ref cE) = some true) (uV:W.subIn K (.ref cT) (.type "ValueError") = some true) (y1:W.findIn K (.ref cT) "__getattribute__" = some (some (.builtin "BaseException.__getattribute__"))) (y2:W.findIn K (.ref cT) "__getattr__" = some none) (y3:W.findIn K (.ref cT) "__class__" = some (some (.builtin "object.__class__"))) (y4:W.specialIn K (.builtin "object.__class__") "__get__" = some (some (.builtin "getset_descriptor.__get__"))) (y5:W.takesIn K (.builtin "object.__class__") = some true) (y6:W.mroIn K cT (.type "object") = some true) (y7:W.subIn K (.ref cT) (.type "BaseException") = some true) (y8:W.hasDictIn K cT = true) (n_NoRatio:cT ≠ cNoRatio) (t_NoRatio:W.typeIn K (.ref cNoRatio) = some (.type "type")) (d_NoRatio:W.hasDictIn K cNoRatio = true) (u_NoRatio:W.subIn K (.ref cT) (.ref cNoRatio) = some false) (n_NoPaper:cT ≠ cNoPaper) (t_NoPaper:W.typeIn K (.ref cNoPaper) = some (.type "type")) (d_NoPaper:W.hasDictIn K cNoPaper = true) (u_NoPaper:W.subIn K (.ref cT) (.ref cNoPaper) = some false) (n_NoSize:cT ≠ cNoSize) (t_NoSize:W.typeIn K (.ref cNoSize) = some (.type "type")) (d_NoSize:W.hasDictIn K cNoSize = true) (u_NoSize:W.subIn K (.ref cT) (.ref cNoSize) = some false) :
  ∃ fd:FuncData,(∀ (s:Shared) (v:Value),BindsTo s fd ⟨[v],[]⟩ [("_law_script", v)]) /\ ∀ base:Heap,K.In base->base.Ns mainGlobals mg->FnOk l.prog w K mg base CX0 9 fa fd ["_law_script"] (spD K 1 lawT):=by
 have e:=hfa.symm.trans (W.mg_of X G a19)
 cases e
 have T:Tops mg:=⟨W.mg_none_of X G z_ValueError,W.mg_none_of X G z_abs,W.mg_none_of X G z_all,W.mg_none_of X G z_bool,W.mg_none_of X G z_dict,W.mg_none_of X G z_enumerate,W.mg_none_of X G z_int,W.mg_none_of X G z_isinstance,W.mg_none_of X G z_len,W.mg_none_of X G z_list,W.mg_none_of X G z_range,W.mg_none_of X G z_sum,W.mg_none_of X G z_tuple,W.mg_none_of X G z_zip⟩
 obtain ⟨⟨_,F1⟩,_⟩:=l1
 obtain ⟨⟨_,F2⟩,_⟩:=l2
 obtain ⟨⟨_,F3⟩,_⟩:=l3
 obtain ⟨⟨_,F4⟩,_⟩:=l4
 obtain ⟨⟨_,F5⟩,_⟩:=l5
 obtain ⟨⟨_,F6⟩,_⟩:=l6
 obtain ⟨⟨_,F7⟩,_⟩:=l7
 obtain ⟨⟨_,F8⟩,_⟩:=l8
 obtain ⟨⟨_,F9⟩,_⟩:=l9
 obtain ⟨⟨_,F10⟩,_⟩:=l10
 obtain ⟨⟨_,F11⟩,_⟩:=l11
 obtain ⟨⟨_,F12⟩,_⟩:=l12
 obtain ⟨⟨_,F13⟩,_⟩:=l13
 obtain ⟨⟨_,F14⟩,_⟩:=l14
 obtain ⟨⟨_,F15⟩,_⟩:=l15
 obtain ⟨⟨_,F16⟩,_⟩:=l16
 obtain ⟨⟨_,F17⟩,_⟩:=l17
 obtain ⟨⟨_,F18⟩,_⟩:=l18
 have F19:=Nq (st:=top 30) l19 c19 k19
 refine ⟨W.fnOf "law" "law" (vn (top 30)) (yt (top 30)) (zb (top 30)) .none kV19 dc19 pm19 an19 cd19 ct19,fun s v=>.of_eq rfl,fun base _ _=>?_⟩
 have cU:GC K mg "MOST_UNKNOWNS" (.int 24):=⟨_,.int 24,W.mg_of X G bQ,⟨_,rfl⟩,fun _ _=>rfl⟩
 have O:CO K C zt:=⟨⟨pg,hd,po,sa⟩,fun f hf=>by
  simp only [zt,List.mem_cons,List.not_mem_nil,or_false] at hf
  rcases hf with rfl | rfl | rfl | rfl | rfl | rfl | rfl
  ·exact nf0
  ·exact nf1
  ·exact nf2
  ·exact nf3
  ·exact nf4
  ·exact nf5
  ·exact nf6⟩
 obtain ⟨⟨_,G0⟩,n0⟩:=m0
 have H0:Meth K C "__init__" g0:=⟨b0,i0,n0⟩
 obtain ⟨⟨_,G1⟩,n1⟩:=m1
 have H1:Meth K C "alone" g1:=⟨b1,i1,n1⟩
 obtain ⟨⟨_,G2⟩,n2⟩:=m2
 have H2:Meth K C "go" g2:=⟨b2,i2,n2⟩
 obtain ⟨⟨_,G3⟩,n3⟩:=m3
 have H3:Meth K C "worst" g3:=⟨b3,i3,n3⟩
 obtain ⟨⟨_,G4⟩,n4⟩:=m4
 have H4:Meth K C "grows" g4:=⟨b4,i4,n4⟩
 obtain ⟨⟨_,G5⟩,n5⟩:=m5
 have H5:Meth K C "turn" g5:=⟨b5,i5,n5⟩
 obtain ⟨⟨_,G6⟩,n6⟩:=m6
 have H6:Meth K C "moved" g6:=⟨b6,i6,n6⟩
 obtain ⟨⟨_,G7⟩,n7⟩:=m7
 have H7:Meth K C "first_out" g7:=⟨b7,i7,n7⟩
 obtain ⟨⟨_,G8⟩,n8⟩:=m8
 have H8:Meth K C "ahead" g8:=⟨b8,i8,n8⟩
 obtain ⟨⟨_,G9⟩,n9⟩:=m9
 have H9:Meth K C "endless" g9:=⟨b9,i9,n9⟩
 obtain ⟨⟨_,G10⟩,n10⟩:=m10
 have H10:Meth K C "shown" g10:=⟨b10,i10,n10⟩
 obtain ⟨⟨_,G11⟩,n11⟩:=m11
 have H11:Meth K C "value" g11:=⟨b11,i11,n11⟩
 obtain ⟨⟨_,G12⟩,n12⟩:=m12
 have H12:Meth K C "unknowns" g12:=⟨b12,i12,n12⟩
 obtain ⟨⟨_,G13⟩,n13⟩:=m13
 have H13:Meth K C "weights" g13:=⟨b13,i13,n13⟩
 have B2:=Xk (P:=l.prog) (w:=w) (base:=base) T  F1 (W.mg_of X G a1)
 have Cr:=Rb (P:=l.prog) (w:=w) (base:=base) T  F3 (W.mg_of X G a3)
 have Ce:=Od (P:=l.prog) (w:=w) (base:=base) T B2 Cr F2 (W.mg_of X G a2)
 have C7:=Xh (P:=l.prog) (w:=w) (base:=base) T Cr F4 (W.mg_of X G a4)
 have B5:=Oc (P:=l.prog) (w:=w) (base:=base) T  F7 (W.mg_of X G a7)
 have Ct:=Zw (P:=l.prog) (w:=w) (base:=base) T C7 B5 F8 (W.mg_of X G a8)
 have Dy:=rf (P:=l.prog) (w:=w) (base:=base) T cU F5 (W.mg_of X G a5)
 have B6:=Sz (P:=l.prog) (w:=w) (base:=base) T O G4 H4
 have Bf:=Sy (P:=l.prog) (w:=w) (base:=base) T O G6 H6
 have Bg:=R8 (P:=l.prog) (w:=w) (base:=base) T O G8 H8
 have Cu:=bf (P:=l.prog) (w:=w) (base:=base) T O Bg G7 H7
 have Bh:=Sw (P:=l.prog) (w:=w) (base:=base) T O Ce G11 H11
 have B3:=Zv (P:=l.prog) (w:=w) (base:=base) T O Ce G12 H12
 have B7:=Sx (P:=l.prog) (w:=w) (base:=base) T O Ce G10 H10
 have B8:=Xe (P:=l.prog) (w:=w) (base:=base) T O B7 G13 H13
 have Ba:=Xf (P:=l.prog) (w:=w) (base:=base) T O B7 G9 H9
 have Bi:=Sv (P:=l.prog) (w:=w) (base:=base) T O B6 G3 H3
 have Bj:=R5 (P:=l.prog) (w:=w) (base:=base) T (Vc O (by decide)) G1 H1
 have Cz:=Oa (P:=l.prog) (w:=w) (base:=base) T O Cu Bf G5 H5
 have Be:=Fu (P:=l.prog) (w:=w) (base:=base) T O Cz Bi B6 Ba G2 H2
 have Bm:=Lj (P:=l.prog) (w:=w) (base:=base) T O Bj C7 Ct B5 G0
 have b_init:=G0.binds (ps:=["self", "costs", "rows"]) fun _ _ _ _ _ _ us hl=>match us,hl with | [_,_,_],_=>rfl
 have Bk:=Oe (P:=l.prog) (w:=w) (base:=base) T O Dy Bm b_init H0 Be Bh B3 B8 mk kc (W.mg_of X G aC) F6 (W.mg_of X G a6)
 have Ds:=jx (P:=l.prog) (w:=w) (base:=base) T  F9 (W.mg_of X G a9)
 have Cf:=Zy (P:=l.prog) (w:=w) (base:=base) T Ds F10 (W.mg_of X G a10)
 have Cg:=Zx (P:=l.prog) (w:=w) (base:=base) T  F11 (W.mg_of X G a11)
 have C8:=jw (P:=l.prog) (w:=w) (base:=base) T  F12 (W.mg_of X G a12)
 have Dp:=bg (P:=l.prog) (w:=w) (base:=base) T C8 F13 (W.mg_of X G a13)
 have Cv:=Xi (P:=l.prog) (w:=w) (base:=base) T Dp F14 (W.mg_of X G a14)
 have Cw:=Xj (P:=l.prog) (w:=w) (base:=base) T  F15 (W.mg_of X G a15)
 have Cb:=bh (P:=l.prog) (w:=w) (base:=base) T Dp F16 (W.mg_of X G a16)
 have Cy:=Xc (P:=l.prog) (w:=w) (base:=base) T  F17 (W.mg_of X G a17)
 have Z:Cls K mg cE cT cNoRatio cNoPaper cNoSize:=⟨W.mg_of X G b_TollError,W.mg_of X G b_TooMany,W.mg_of X G b_NoRatio,W.mg_of X G b_NoPaper,W.mg_of X G b_NoSize,xN,Fv sE tE dE uE,Ly km uV,fun c hc=>by
  simp only [List.mem_cons,List.not_mem_nil,or_false] at hc
  rcases hc with rfl | rfl | rfl
  ·exact Yx n_NoRatio t_NoRatio d_NoRatio u_NoRatio
  ·exact Yx n_NoPaper t_NoPaper d_NoPaper u_NoPaper
  ·exact Yx n_NoSize t_NoSize d_NoSize u_NoSize,⟨y1,y2,y3,y4,y5,y6,y7,y8⟩⟩
 have Bl:=re (P:=l.prog) (w:=w) (base:=base) T Z cU F5 (W.mg_of X G a5)
 have Cd:=O9 (P:=l.prog) (w:=w) (base:=base) T Z Bl F6 (W.mg_of X G a6)
 have C9:=jv (P:=l.prog) (w:=w) (base:=base) T Z Cd F18 (W.mg_of X G a18)
 exact Gi T Ds Cf Cv Cw Cy Bk Cb Dp Cg C9 F19
end
end K46
open PySem PySem.W PyProof.Rows
set_option maxRecDepth 100000 in
set_option maxHeartbeats 0 in
theorem PySem.Challenge.cw_toll_k46_whole_chain_holds : PySem.Challenge.rw_toll_k46_whole_chain.Holds := by
 refine K46.opened ?_
 k_fill
 refine DL.walkD (l:=PySem.Challenge.rw_toll_k46_whole_chain) (k:=9) (x:="_law_script") rfl rfl ⟨rfl,by decide,by decide⟩ (fun w h Y=>PySem.W.kIn_of Y) ?F
 case F =>
  intro w mg fa h KX G hmg
  refine' K46.all_mk KX G hmg ?a1 ?l1 ?a2 ?l2 ?a3 ?l3 ?a4 ?l4 ?a5 ?l5 ?a6 ?l6 ?a7 ?l7 ?a8 ?l8 ?a9 ?l9 ?a10 ?l10 ?a11 ?l11 ?a12 ?l12 ?a13 ?l13 ?a14 ?l14 ?a15 ?l15 ?a16 ?l16 ?a17 ?l17 ?a18 ?l18 ?a19 ?l19 ?c19 ?k19 ?aC ?b0 ?i0 ?m0 ?b1 ?i1 ?m1 ?b2 ?i2 ?m2 ?b3 ?i3 ?m3 ?b4 ?i4 ?m4 ?b5 ?i5 ?m5 ?b6 ?i6 ?m6 ?b7 ?i7 ?m7 ?b8 ?i8 ?m8 ?b9 ?i9 ?m9 ?b10 ?i10 ?m10 ?b11 ?i11 ?m11 ?b12 ?i12 ?m12 ?b13 ?i13 ?m13 ?pg ?hd ?po ?sa ?mk ?kc ?nf0 ?nf1 ?nf2 ?nf3 ?nf4 ?nf5 ?nf6 ?bQ ?z_ValueError ?z_abs ?z_all ?z_bool ?z_dict ?z_enumerate ?z_int ?z_isinstance ?z_len ?z_list ?z_range ?z_sum ?z_tuple ?z_zip ?b_TollError ?b_TooMany ?b_NoRatio ?b_NoPaper ?b_NoSize ?xN ?sE ?tE ?dE ?uE ?uV ?y1 ?y2 ?y3 ?y4 ?y5 ?y6 ?y7 ?y8 ?n_NoRatio ?t_NoRatio ?d_NoRatio ?u_NoRatio ?n_NoPaper ?t_NoPaper ?d_NoPaper ?u_NoPaper ?n_NoSize ?t_NoSize ?d_NoSize ?u_NoSize
  case a1 | a2 | a3 | a4 | a5 | a6 | a7 | a8 | a9 | a10 | a11 | a12 | a13 | a14 | a15 | a16 | a17 | a18 | a19 | aC | b0 | i0 | b1 | i1 | b2 | i2 | b3 | i3 | b4 | i4 | b5 | i5 | b6 | i6 | b7 | i7 | b8 | i8 | b9 | i9 | b10 | i10 | b11 | i11 | b12 | i12 | b13 | i13 | z_ValueError | z_abs | z_all | z_bool | z_dict | z_enumerate | z_int | z_isinstance | z_len | z_list | z_range | z_sum | z_tuple | z_zip=>show _ = _; k_is
  case l1 | l2 | l3 | l4 | l5 | l6 | l7 | l8 | l9 | l10 | l11 | l12 | l13 | l14 | l15 | l16 | l17 | l18 | m0 | m1 | m2 | m3 | m4 | m5 | m6 | m7 | m8 | m9 | m10 | m11 | m12 | m13 =>
   refine' K46.fna_mk ?lA ?cA ?kA
   case lA=>k_is
   case cA=>k_is
   case kA=>k_is
  case l19 | c19 | k19 | pg | hd | po | sa | mk | kc | nf0 | nf1 | nf2 | nf3 | nf4 | nf5 | nf6 | bQ | b_TollError | b_TooMany | b_NoRatio | b_NoPaper | b_NoSize | sE | tE | dE | uE | uV | y1 | y2 | y3 | y4 | y5 | y6 | y7 | y8 | t_NoRatio | d_NoRatio | u_NoRatio | t_NoPaper | d_NoPaper | u_NoPaper | t_NoSize | d_NoSize | u_NoSize=>k_is
  case xN=>(show PySem.W.excIn _ _ _ _ = true; k_exc)
  case n_NoRatio=>decide
  case n_NoPaper=>decide
  case n_NoSize=>decide
