import PyProof.Rows.All
import KE.IntBitsLaws
import KE.KDictOf
import KE.KDictSum
import KE.KIsAll
import KE.KNest
import KE.KRevIter
import KE.KSortTup
import PySem.Challenge.RW_toll_k18_a_call_by_itself
noncomputable section
set_option Elab.async false
set_option linter.all false
set_option bootstrap.genMatcherCode false
theorem zS0(h:True:=by rfl)(_:True:=by decide):True:=h
def zSr:=zS0._auto_1
def zSd:=zS0._auto_2
def zaa:=@PySem.wpAny_bind
def zab:=@PySem.wpAny_pure
def zac:=@PySem.Heap.get?_push_of_some
def zad:=@PySem.Heap.get?_push_size
def zae:=@PySem.Heap.lt_size
def zaf:=@List.getElem?_eq_getElem
def zag:=@List.getElem?_eq_some_iff
def zah:=@List.mem_map
def zai:=@List.getElem?_map
def zaj:=@Nat.le_refl
def zak:=@Nat.le_trans
def zal:=@List.mem_cons_of_mem
def zam:=@List.mem_cons
def zan:=@List.mem_of_getElem?
def zao:=@List.mem_cons_self
def zap:=@List.size_toArray
def zar:=@Option.map_eq_some_iff
def zas:=@List.mem_append
def zaA:=@trivial
def zaB:=@List.map_cons
def zaC:=@List.getElem?_append_right
def zaD:=@List.mem_append_right
def zaE:=@List.mem_singleton
def zaF:=@List.mem_append_left
def zaG:=@List.getElem?_append_left
def zaH:=@List.length_reverse
def zaI:=@of_eq_true
def zaJ:=@if_neg
def zaK:=@if_pos
def zaL:=@List.zip_cons_cons
def zaM:=@Option.some.inj
def zaN:=@List.getElem?_set_ne
def zaO:=@List.nodup_append
def zaP:=@Nat.le_of_ble_eq_true
def zaQ:=@List.nodup_cons
def zaR:=@Nat.lt_of_lt_of_le
def zaS:=@List.append_assoc
def zaT:=@Nat.ne_of_lt
def zaU:=@Bool.false_ne_true
def zaV:=@List.getElem?_set_self
def zaW:=@List.not_mem_nil
def zaX:=@List.append_nil
def zaY:=@List.length_set
def zaZ:=@List.length_take
def zbA:=@beq_eq_false_iff_ne
def zbB:=@PySem.wpAny_field
def zbC:=@PySem.wpAny_callSpecial?_slot
def zbD:=@Int.toNat_natCast
def zbE:=@List.filterMap_cons
def zbF:=@PySem.wpAny_holding
def zbG:=@List.length_zip
def zbH:=@PySem.sizeLine_eq
def zbI:=@List.map_map
def zbJ:=@Int.fmod_nonneg_of_pos
def zbK:=@PySem.wpAny_call_entry
def zbL:=@PyProof.Rows.callWith_type1
def zbM:=@List.length_range
def zbN:=@of_decide_eq_true
def zbO:=@List.map_nil
def zbP:=@congrArg
def zbQ:=@decide_eq_false
def zbR:=@PySem.wpAny_newObj_type
def zbS:=@List.take_of_length_le
def zbT:=@Nat.lt_irrefl
def zbU:=@List.length_replicate
def zbV:=@List.replicate_succ
def zbW:=@List.getElem?_eq_none
def zbX:=@Nat.sub_self
def zbY:=@Nat.lt_succ_self
def zbZ:=@List.cons_ne_nil
def zcA:=@List.getElem?_replicate
def zcB:=@Nat.zero_le
def zcC:=@Nat.ne_of_gt
def zcD:=@PySem.wpAny_seqItems
def zcE:=@List.length_drop
def zcF:=@Bool.and_eq_true
def zcG:=@List.eq_nil_of_length_eq_zero
def zcH:=@Nat.le_add_right
def zcI:=@PySem.mem_of_lookup
def zcJ:=@PySem.Heap.SameBut.update
def zcK:=@List.nodup_nil
def zcL:=@PySem.wpAny_Call_Name_kw
def zcM:=@PySem.F.plainAttrs_list
def zcN:=@List.getElem?_of_mem
def zcO:=@List.reverse_reverse
def zcP:=@List.lookup_cons
def zcQ:=@Nat.lt_or_ge
def zcR:=@True.intro
def zcS:=@PyProof.Rows.slot_tuple_getitem
def zcT:=@PySem.wpAny_pyIter_list
def zcU:=@List.take_add_one
def zcV:=@List.mem_filter
def zcW:=@PySem.wpAny_setField_rec
def zcX:=@of_decide_eq_false
def zcY:=@List.zip_nil_right
def zcZ:=@List.mem_range
def zdA:=@List.reverse_cons
def zdB:=@PySem.F.slot_zip_next
def zdC:=@PySem.F.slot_tuple_iterator_next
def zdD:=@List.length_singleton
def zdE:=@PySem.wpAny_pyIter_tuple
def zdF:=@Nat.eq_of_beq_eq_true
def zdG:=@PySem.Obj.data_mapFields
def zdH:=@Int.fmod_lt_of_pos
def zdI:=@PySem.builtinLookup_eq_fast
def zdJ:=@Bool.false_eq_true
def zdK:=@List.filterMap_eq_map
def zdL:=@List.concat_eq_append
def zdM:=@PySem.Heap.size_push
def zdN:=@or_false
def zdO:=@PySem.wpAny_truthy_bool
def zdP:=@PySem.wpAny_passesOwn
def zdQ:=@List.flatten_cons
def zdR:=@List.any_cons
def zdS:=@List.take_length
def zdT:=@decide_eq_true
def zdU:=@List.drop_of_length_le
def zdV:=@List.filterMap_map
def zdW:=@Nat.lt_of_le_of_lt
def zdX:=@PySem.W.kia_one
def zdY:=@List.of_mem_zip
def zdZ:=@PySem.Heap.get?_update_self
def zeA:=@List.find?_cons
def zeB:=@List.eq_nil_or_concat
def zeC:=@List.take_sublist
def zeD:=@PySem.wpAny_attempt
def zeE:=@List.getD_eq_getElem?_getD
def zeF:=@PySem.Around.under_plainId
def zeG:=@List.getElem?_eq_none_iff
def zeH:=@List.getElem_mem
def zeI:=@Nat.min_eq_right
def zeJ:=@Array.length_toList
def zeK:=@PySem.wpAny_of_eq
def zeL:=@PySem.F.args_tuple_add_2
def zeM:=@PySem.wpAny_typeOf
def zeN:=@PySem.call_meets
def zeO:=@Nat.lt_trans
def zeP:=@PySem.F.entry_tuple_add
def zeQ:=@List.all_cons
def zeR:=@List.forIn_cons
def zeS:=@List.getElem?_cons_succ
def zeT:=@Nat.min_eq_left
def zeU:=@PySem.typeLookup_type
def zeV:=@Nat.lt_add_of_pos_right
def zeW:=@List.map_take
def zeX:=@Int.eq_ofNat_of_zero_le
def zeY:=@Int.natCast_nonneg
def zeZ:=@PySem.F.slot_tuple_add
def zfA:=@PySem.Calls.callWith_builtin
def zfB:=@PySem.F.args_zip_next_1
def zfC:=@List.Pairwise.map
def zfD:=@List.take_succ
def zfE:=@PySem.wpAny_setField
def zfF:=@Array.getElem?_toList
def zfG:=@List.filterMap_append
def zfH:=@PySem.Obj.isFreed_of_fields
def zfI:=@PySem.wpAny_notOrdered_dict
def zfJ:=@PySem.F.slot_str_join
def zfK:=@List.set_append_right
def zfL:=@List.take_append_drop
def zfM:=@Int.zero_add
def zfN:=@PySem.F.entry_zip_next
def zfO:=@PySem.wpAny_isInstance
def zfP:=@PySem.IntMulOk.of_left
def zfQ:=@PySem.Paired.length
def zfR:=@PySem.wpAny_rule
def zfS:=@Sum.inr.inj
def zfT:=@PySem.wpAny_execs_nil
def zfU:=@PySem.codeAny_builtin
def zfV:=@PySem.wpAny_specialOf
def zfW:=@if_false
def zfX:=@Nat.min_self
def zfY:=@Nat.succ.inj
set_option maxRecDepth 100000
set_option maxHeartbeats 8000000
set_option exponentiation.threshold 5000
set_option compiler.extract_closed false
set_option bootstrap.genMatcherCode false
def zLa.{u} {α:Type u} {a b:List α}:(a++b).length=a.length+b.length:=List.length_append
def zLc.{u} {α:Type u} {x:α} {a:List α}:(x::a).length=a.length+1:=rfl
def zLn.{u} {α:Type u}:([]:List α).length=0:=rfl
def zLm.{u,v} {α:Type u} {d:Type v} {a:List α} (f:α->d):(a.map f).length=a.length:=List.length_map f
def zMa.{u,v} {α:Type u} {a:Type v} {f:α->a} {l₁ l₂:List α}:(l₁++l₂).map f=l₁.map f++l₂.map f:=List.map_append
set_option hygiene false in
local macro_rules | `(tactic| walk_at "t")=>`(tactic| (intro cl C fp s H; first | exact zn (i:=0) (by show ((_:List Str)++_).Nodup; decide +kernel) rfl (by walk_at "o") | exact se (K0:=K) (n:=2) (by rfl) (by rfl) (yd (zn (i:=0) (by show ((_:List Str)++_).Nodup; decide +kernel) rfl (by walk_at "o")) (yd (zn (i:=1) (by show ((_:List Str)++_).Nodup; decide +kernel) rfl (by walk_at "o")) ud))))
set_option hygiene false in
local macro_rules | `(tactic| walk_at "b")=>`(tactic| (refine ve F ds (F.binds fun _ _ _ _ _ _ us hl=>by first | (obtain ⟨_,rfl⟩:=jb hl; rfl) | (obtain ⟨_,_,rfl⟩:=sf hl; rfl) | (obtain ⟨_,_,_,rfl⟩:=Xm hl; rfl) | (obtain ⟨_,_,_,_,rfl⟩:=Pj hl; rfl)) m fun qZ A outer s H xs S M hr hl hT=>?_; have hu:=hr.units))
set_option hygiene false in
local macro_rules | `(tactic| walk_at "p")=>`(tactic| simp only [ρ0,List.map_cons,List.map_nil,List.replicate,List.cons_append,List.nil_append])
local macro_rules | `(tactic| walk_at "o")=>`(tactic| first | exact Or.inl rfl | exact Or.inr rfl | exact Or.inr (Or.inl rfl) | exact Or.inr (Or.inr rfl))
local macro_rules | `(tactic| walk_at "f")=>`(tactic| exact ⟨rfl,rfl,rfl,by decide +kernel,rfl,by decide +kernel,by decide +kernel⟩)
local macro_rules | `(tactic| walk_at "c")=>`(tactic| exact ⟨rfl,by decide +kernel,by decide +kernel,by decide +kernel,by decide +kernel,by decide +kernel⟩)
local macro_rules | `(tactic| walk_at "m")=>`(tactic| exact ⟨by first | lia | (simp; lia),by repeat first | assumption | exact trivial | refine $(Lean.mkIdent `prs1) ?_ ?_⟩)
set_option hygiene false in
local macro_rules | `(tactic| walk_at "k")=>`(tactic| (delta z_V openEnds topFrom; rw [Fast.te14082659384304107361]; kernel_rfl))
def aA{a:Sort _}{p:a->Prop}(x:a)(h:p x):p x:=h
def aB{p:Prop}(h:autoParam p zSd):p:=h
def aD{p:Prop}(h:p:=by lia):p:=h
def aE{p:Prop}(h:p:=by simp):p:=h
def aF{p:Prop}(h:p:=by decide +kernel):p:=h
def aG{p:Prop}(h:p:=by walk_at "o"):p:=h
def aH{p:Prop}(h:p:=by exact rfl):p:=h
set_option hygiene false in
local macro_rules | `(tactic| walk_at "3")=>`(tactic| (intro _ _ _ _ _ _ us hl; first | (obtain ⟨_,rfl⟩:=jb hl; rfl) | (obtain ⟨_,_,rfl⟩:=sf hl; rfl) | (obtain ⟨_,_,_,rfl⟩:=Xm hl; rfl) | (obtain ⟨_,_,_,_,rfl⟩:=Pj hl; rfl)))
namespace ZZ
open PySem PySem.Spec PyProof.Rows
noncomputable def vf(s:Stmt):Arguments:=match s with
 |.FunctionDef _ a _ _ _ _ _ _ _ _=>a
 |_=>{posonlyargs:=[],args:=[],vararg:=none,kwonlyargs:=[],kw_defaults:=[],kwarg:=none,defaults:=[]}
noncomputable def yu(s:Stmt):List Stmt:=match s with
 |.FunctionDef _ _ b _ _ _ _ _ _ _=>b
 |_=>[]
noncomputable def zd(s:Stmt):Scope:=match s with
 |.FunctionDef _ _ _ _ _ _ sc _ _ _=>sc
 |_=>{kind:=.function,names:=[],isGenerator:=false,isCoroutine:=false}
noncomputable def Pr(s:Stmt)(j:Nat):Stmt:=match s with
 |.ClassDef _ _ _ body _ _ _ _ _ _ _=>body.getD j (.Pass ⟨0,0,0,0⟩)
 |_=>.Pass ⟨0,0,0,0⟩
noncomputable def top(i:Nat):Stmt:=PySem.Challenge.pw_toll_k18_a_call_by_itself.main.body.getD i (.Pass ⟨0,0,0,0⟩)
section
open PySem.W PySem.PyData
noncomputable def zE(P:Params)(s:Str)(t:Nat)(v:Value):DictEntry:=⟨keyHash P s,.str s t,v⟩
noncomputable def zG(n q:Str)(s:Stmt)(d c m:Value)(k:Nat):Obj:=⟨.type "function",none,.func (fnOf n q (vf s) (yu s) (zd s) d .none c m none (.ref k) .none),#[]⟩
noncomputable def zF(n:Str)(s:Stmt)(m:Str)(i k:Nat):Obj:=⟨.type "function",none,.func (fnOf n n (vf s) (yu s) (zd s) .none .none .none (.str m i) none (.ref k) .none),#[]⟩
noncomputable def zC(n:Str)(a:Nat)(q:Str)(b c:Nat)(d e f:Int)(g:Nat)(h:Int)(i j k l:Nat)(m o:Int)(p:Nat):Obj:=⟨.type "code",none,.fields #[.str n a,.str q b,.str "/claim/cut.py" c,.int d 0,.int e 0,.int 0 0,.int 0 0,.int f 0,.ref g,.bool true,.int h 0,.ref i,.none,.ref j,.ref k,.ref l,.int m 0,.int o 0,.str "/claim/cut.py" p],#[]⟩
noncomputable def zQA(n q:Str)(a:Nat)(d e:Int)(g m:Nat):Obj:=zC n a q (a+1) (a+2) d e 3 g 181 (g+1) (g+2) (g+3) (g+4) m d (m+1)
noncomputable def zQB(n q:Str)(a:Nat)(d e:Int)(g m:Nat):Obj:=⟨.type "code",none,.fields #[.str n a,.str q (a+1),.str "/claim/cut.py" (a+2),.int d 0,.int e 0,.int 0 0,.int 0 0,.int 3 0,.ref g,.bool true,.int 181 0,.ref (g+1),.none,.none,.none,.ref (g+2),.int m 0,.int d 0,.str "/claim/cut.py" (m+1)],#[]⟩
noncomputable def zQC(n q:Str)(i k:Nat):Obj:=zG n q (Pr (top 17) i) .none .none (.str "toll.runs" 292) k
noncomputable def z_t(x:Array Value):Obj:=⟨.type "tuple",none,.seq x 0,#[]⟩
noncomputable def z_w(n:Str)(a:Nat)(d e:Int)(g m:Nat):Obj:=⟨.type "code",none,.fields #[.str n a,.str n (a+1),.str "/claim/cut.py" (a+2),.int d 0,.int e 0,.int 0 0,.int 0 0,.int 3 0,.ref g,.bool true,.int 181 0,.ref (g+1),.none,.none,.none,.ref (g+2),.int m 0,.int d 0,.str "/claim/cut.py" (m+1)],#[]⟩
noncomputable def z_x(n:Str)(a:Nat)(d e:Int)(g m:Nat):Obj:=zC n a n (a+1) (a+2) d e 3 g 181 (g+1) (g+2) (g+3) (g+4) m d (m+1)
noncomputable def z_a(n:Str)(i c:Nat):Obj:=zF n (top i) "law_toll_k18_a_call_by_itself" 493 c
noncomputable def z_b(n:Str)(i c:Nat):Obj:=zF n (top i) "toll.values" 257 c
noncomputable def z_y(P:Params)(n:Str)(a r:Nat):=zE P n a (.ref r)
noncomputable def zK(P:Params):Frag:=(nat_lit 2,⟨.none,none,(.dict #[] 0),#[]⟩)::
(nat_lit 3,⟨(.type "dict"),none,(.dict #[zE P "__name__" 165 (.str "law_toll_k18_a_call_by_itself" 493),zE P "__doc__" 166 .none,zE P "__package__" 167 .none,zE P "__loader__" 168 (.builtin "__main__.__loader__#opaque"),zE P "__spec__" 169 .none,z_y P "__annotations__" 170 6,z_y P "__builtins__" 171 4,zE P "__file__" 173 (.str "/claim/cut.py" 172),zE P "__cached__" 174 .none,z_y P "TollError" 206 24,z_y P "NoFunction" 222 37,z_y P "NoValue" 238 49,z_y P "is_whole" 247 58,z_y P "function_of" 256 65,z_y P "fits" 264 70,z_y P "is_tree" 273 77,z_y P "size_of" 281 84,z_y P "nodes_of" 291 91,zE P "MOST_CALLS" 295 (.int 20 294),zE P "MOST_SIZE" 297 (.int 100 296),z_y P "trace" 309 99,z_y P "check_args" 315 104,z_y P "Run" 492 234,z_y P "_law_cell_at" 502 245,z_y P "_law_number" 509 252,z_y P "_law_names" 515 257,z_y P "_law_putting" 531 264,z_y P "_law_planting" 548 271,z_y P "_law_head" 554 276,z_y P "_law_take" 561 283,z_y P "_law_expression" 567 288,z_y P "_law_body" 573 293,z_y P "_law_program" 579 298,z_y P "_law_tree" 589 305,z_y P "_law_args" 595 310,z_y P "_law_whole" 602 317,z_y P "_law_plain" 612 324,z_y P "_law_small" 618 329,z_y P "_law_beneath" 628 336,z_y P "_law_due" 634 341,z_y P "_law_by_itself" 640 346,z_y P "law" 655 353] 42),#[]⟩)::
(nat_lit 57,z_x "is_whole" 241 9 1 52 245)::
(nat_lit 58,zF "is_whole" (top 5) "toll.programs" 239 57)::
(nat_lit 64,z_x "function_of" 248 11 2 59 254)::
(nat_lit 65,zF "function_of" (top 6) "toll.programs" 239 64)::
(nat_lit 69,z_w "fits" 259 17 2 66 262)::
(nat_lit 70,z_b "fits" 8 69)::
(nat_lit 76,z_x "is_tree" 265 23 1 71 271)::
(nat_lit 77,z_b "is_tree" 9 76)::
(nat_lit 83,z_x "size_of" 274 33 2 78 279)::
(nat_lit 84,z_b "size_of" 10 83)::
(nat_lit 90,z_x "nodes_of" 282 39 1 85 289)::
(nat_lit 91,z_b "nodes_of" 11 90)::
(nat_lit 92,z_t #[.int 1000 298])::
(nat_lit 98,z_x "trace" 299 51 4 93 307)::
(nat_lit 99,zG "trace" "trace" (top 15) (.ref 92) .none (.str "toll.runs" 292) 98)::
(nat_lit 103,z_w "check_args" 310 57 2 100 313)::
(nat_lit 104,zF "check_args" (top 16) "toll.runs" 292 103)::
(nat_lit 115,zQB "__init__" "Run.__init__" 328 65 3 112 331)::
(nat_lit 116,zQC "__init__" "Run.__init__" 0 115)::
(nat_lit 122,zQA "told" "Run.told" 334 75 1 117 338)::
(nat_lit 123,zQC "told" "Run.told" 1 122)::
(nat_lit 129,zQA "go" "Run.go" 341 80 1 124 346)::
(nat_lit 130,zQC "go" "Run.go" 2 129)::
(nat_lit 136,zQA "step" "Run.step" 349 96 3 131 355)::
(nat_lit 137,zQC "step" "Run.step" 3 136)::
(nat_lit 143,zQA "own_step" "Run.own_step" 358 103 2 138 363)::
(nat_lit 144,zQC "own_step" "Run.own_step" 4 143)::
(nat_lit 150,zQA "standing" "Run.standing" 366 106 2 145 371)::
(nat_lit 151,zQC "standing" "Run.standing" 5 150)::
(nat_lit 157,zQA "stand" "Run.stand" 374 109 3 152 381)::
(nat_lit 158,zQC "stand" "Run.stand" 6 157)::
(nat_lit 164,zQA "taken" "Run.taken" 384 113 2 159 390)::
(nat_lit 165,zQC "taken" "Run.taken" 7 164)::
(nat_lit 169,zQB "behind" "Run.behind" 393 118 3 166 396)::
(nat_lit 170,zQC "behind" "Run.behind" 8 169)::
(nat_lit 176,zQA "begin_body" "Run.begin_body" 399 122 2 171 405)::
(nat_lit 177,zQC "begin_body" "Run.begin_body" 9 176)::
(nat_lit 183,zQA "follow" "Run.follow" 408 133 3 178 415)::
(nat_lit 184,zQC "follow" "Run.follow" 10 183)::
(nat_lit 190,zQA "bring" "Run.bring" 418 141 2 185 423)::
(nat_lit 191,zQC "bring" "Run.bring" 11 190)::
(nat_lit 197,zQA "choose" "Run.choose" 426 146 2 192 432)::
(nat_lit 198,zQC "choose" "Run.choose" 12 197)::
(nat_lit 204,zQA "begin_value" "Run.begin_value" 435 151 2 199 441)::
(nat_lit 205,zQC "begin_value" "Run.begin_value" 13 204)::
(nat_lit 211,zQA "apply" "Run.apply" 444 166 2 206 451)::
(nat_lit 212,zQC "apply" "Run.apply" 14 211)::
(nat_lit 218,zQA "make" "Run.make" 454 179 3 213 460)::
(nat_lit 219,zQC "make" "Run.make" 15 218)::
(nat_lit 223,zQB "enter" "Run.enter" 463 185 3 220 466)::
(nat_lit 224,zQC "enter" "Run.enter" 16 223)::
(nat_lit 230,zQA "leave" "Run.leave" 469 197 1 225 474)::
(nat_lit 231,zQC "leave" "Run.leave" 17 230)::
(nat_lit 232,z_t #[.str "calls" 477,.str "frames" 478,.str "functions" 479,.str "is_cut" 480,.str "most" 481,.str "ready" 482,.str "steps" 483,.str "tasks" 484])::
(nat_lit 233,⟨(.type "dict"),none,(.dict #[zE P "__module__" 323 (.str "toll.runs" 292),zE P "__firstlineno__" 327 (.int 63 326),z_y P "__init__" 333 116,z_y P "told" 340 123,z_y P "go" 348 130,z_y P "step" 357 137,z_y P "own_step" 365 144,z_y P "standing" 373 151,z_y P "stand" 383 158,z_y P "taken" 392 165,z_y P "behind" 398 170,z_y P "begin_body" 407 177,z_y P "follow" 417 184,z_y P "bring" 425 191,z_y P "choose" 434 198,z_y P "begin_value" 443 205,z_y P "apply" 453 212,z_y P "make" 462 219,z_y P "enter" 468 224,z_y P "leave" 476 231,z_y P "__static_attributes__" 485 232,z_y P "__dict__" 487 235,z_y P "__weakref__" 489 236,zE P "__doc__" 490 .none] 4),#[]⟩)::
(nat_lit 234,⟨(.type "type"),none,(.cls ⟨"Run",[(.type "object")],[(.ref 234),(.type "object")],233,"Run",true,[],[],false,none,false⟩),#[none,none,(some (.str "Run" 316)),(some (.str "Run" 324)),(some (.builtin "object.__new__")),(some (.bool true))]⟩)::
(nat_lit 235,⟨(.type "getset_descriptor"),none,(.fields #[(.str "__dict__" 486),(.ref 234),(.builtin "function.__dict__"),(.builtin "function.__dict__#set")]),#[]⟩)::
(nat_lit 236,⟨(.type "getset_descriptor"),none,(.fields #[(.str "__weakref__" 488),(.ref 234),(.builtin "ExceptionGroup.__weakref__"),.none]),#[]⟩)::
(nat_lit 244,z_x "_law_cell_at" 495 201 2 239 500)::
(nat_lit 245,z_a "_law_cell_at" 19 244)::
(nat_lit 251,z_x "_law_number" 503 205 1 246 507)::
(nat_lit 252,z_a "_law_number" 20 251)::
(nat_lit 256,z_w "_law_names" 510 207 2 253 513)::
(nat_lit 257,z_a "_law_names" 21 256)::
(nat_lit 263,z_x "_law_putting" 516 218 2 258 529)::
(nat_lit 264,z_a "_law_putting" 22 263)::
(nat_lit 270,z_x "_law_planting" 532 225 2 265 546)::
(nat_lit 271,z_a "_law_planting" 23 270)::
(nat_lit 275,z_w "_law_head" 549 232 3 272 552)::
(nat_lit 276,z_a "_law_head" 24 275)::
(nat_lit 282,z_x "_law_take" 555 244 1 277 559)::
(nat_lit 283,z_a "_law_take" 25 282)::
(nat_lit 287,z_w "_law_expression" 562 249 4 284 565)::
(nat_lit 288,z_a "_law_expression" 26 287)::
(nat_lit 292,z_w "_law_body" 568 267 4 289 571)::
(nat_lit 293,z_a "_law_body" 27 292)::
(nat_lit 297,z_w "_law_program" 574 290 1 294 577)::
(nat_lit 298,z_a "_law_program" 28 297)::
(nat_lit 304,z_x "_law_tree" 580 300 1 299 587)::
(nat_lit 305,z_a "_law_tree" 29 304)::
(nat_lit 309,z_w "_law_args" 590 306 2 306 593)::
(nat_lit 310,z_a "_law_args" 30 309)::
(nat_lit 316,z_x "_law_whole" 596 317 1 311 600)::
(nat_lit 317,z_a "_law_whole" 31 316)::
(nat_lit 323,z_x "_law_plain" 603 319 1 318 610)::
(nat_lit 324,z_a "_law_plain" 32 323)::
(nat_lit 328,z_w "_law_small" 613 338 1 325 616)::
(nat_lit 329,z_a "_law_small" 33 328)::
(nat_lit 335,z_x "_law_beneath" 619 353 2 330 626)::
(nat_lit 336,z_a "_law_beneath" 34 335)::
(nat_lit 340,z_w "_law_due" 629 359 2 337 632)::
(nat_lit 341,z_a "_law_due" 35 340)::
(nat_lit 345,z_w "_law_by_itself" 635 373 4 342 638)::
(nat_lit 346,z_a "_law_by_itself" 36 345)::
(nat_lit 352,z_x "law" 641 383 1 347 653)::
(nat_lit 353,z_a "law" 37 352)::[]
noncomputable def zA:List Addr:=2::3::57::58::64::65::69::70::76::77::83::84::90::91::92::98::99::103::104::115::116::122::123::129::130::136::137::143::144::150::151::157::158::164::165::169::170::176::177::183::184::190::191::197::198::204::205::211::212::218::219::223::224::230::231::232::233::234::235::236::244::245::251::252::256::257::263::264::270::271::275::276::282::283::287::288::292::293::297::298::304::305::309::310::316::317::323::324::328::329::335::336::340::341::345::346::352::353::[]
def zAK(P:Params):zA=(zK P).map (·.1):=by kernel_rfl
noncomputable def zq:Program:={PySem.Challenge.pw_toll_k18_a_call_by_itself with main:={PySem.Challenge.pw_toll_k18_a_call_by_itself.main with body:=[1,2,3,5,6,8,9,10,11,13,14,16,17,19,20,21,22,23,24,25,26,27,28,29,30,31,32,33,34,35,36,37].filterMap λi=>PySem.Challenge.pw_toll_k18_a_call_by_itself.main.body[i]?}}
abbrev zX(s:Shared):Bool:=xlAt zq [] s&&recOk (RowW.records PySem.Challenge.rw_toll_k18_a_call_by_itself.row.toRowW) s
abbrev z_O(s:Shared):=Fast.tw4187177175401517315 zq ["trace"] (Fast.tw5923862056798008813 PySem.Challenge.pw_toll_k18_a_call_by_itself.main.body) zX true s
abbrev z_G:=openGood zq ["trace"]
abbrev z_V{β:Type}(p:Shared->β)(b:β)(w:World):Prop:=Option.map p (openEnds Fast.tw14364793385576792824 PySem.Challenge.pw_toll_k18_a_call_by_itself w 4622)=some b
abbrev zP(w:World):Prop:=z_V (λs=>(z_O s,zA.map s.heap.get?)) (z_G,(zK w.params).map λp=>some p.2) w
theorem o_m{α β γ:Type}{X:Option α}{f:α->β}{g:α->γ}{a:β}{b:γ}(h:X.map f=some a)(k:X.map g=some b):X.map (λs=>(f s,g s))=some (a,b):=by cases X <;> simp_all
theorem z_0(w:World):z_V (λs=>(z_O s).1) z_G.1 w:=by walk_at "k"
theorem z_1(w:World):z_V (λs=>(z_O s).2) z_G.2 w:=by walk_at "k"
theorem z_4(w:World):z_V (λs=>zA.map s.heap.get?) ((zK w.params).map λp=>some p.2) w:=by walk_at "k"
theorem hl0(w:World):zP w:=o_m (o_m (z_0 w) (z_1 w)) (z_4 w)
def hl1:LeftO PySem.Challenge.pw_toll_k18_a_call_by_itself zq ["trace"] zX (Hook.obs (kHook zK zA zAK)) (Hook.val (kHook zK zA zAK)) 4622:=by
 intro w;rw[Fast.te4187177175401517315,Fast.te5923862056798008813,Fast.te14364793385576792824];exact hl0 w
def said:PySem.Challenge.rw_toll_k18_a_call_by_itself.wellSaid=true:=by kernel_rfl
noncomputable def zD:DefRec:=match top 37 with|.FunctionDef n a b _ _ _ c _ _ p=>⟨n,a,b,c,p⟩|_=>⟨"",⟨[],[],none,[],[],none,[]⟩,[],⟨.function,[],false,false,[]⟩,⟨0,0,0,0⟩⟩
def opened(g:WalkO zq ["trace"] (XL zq []) (Hook.says (kHook zK zA zAK)) PySem.Challenge.rw_toll_k18_a_call_by_itself.row.toRowW zD [] (λf vs=>PySem.call f vs)):PySem.Challenge.rw_toll_k18_a_call_by_itself.Holds:=by
 refine holds_law said λa=>holds_open (q:=zq) (loose:=["trace"]) (Xt:=zX) (XP:=XL zq []) (d:=zD) (kwd:=[]) (Yf:=Hook.obs (kHook zK zA zAK)) (Ya:=Hook.val (kHook zK zA zAK)) (YP:=Hook.says (kHook zK zA zAK)) (N:=4622) hl1 (Hook.of (kHook zK zA zAK)) (Hook.keeps (kHook zK zA zAK)) (λs e=>xl_of s (Bool.and_eq_true_iff.mp e).1) XL.keeps (by kernel_rfl) (by kernel_rfl) (by kernel_rfl) (λs e=>recFacts_of (Bool.and_eq_true_iff.mp e).2) (by kernel_rfl) a (by kernel_rfl) ⟨rfl,rfl,rfl,rfl,rfl,by decide +kernel⟩ ?hw g
 case hw=>w_witness2
end
abbrev Key:=Sum Int Str
noncomputable def V6:Key->Value->Bool
 |.inl k,v=>Value.isInt k v
 |.inr x,v=>Value.isStrOf x v
noncomputable def keyH(w:World):Key->Int
 |.inl k=>hashInt k
 |.inr x=>hashStr w x
def xc:∀{k:Key}{v:Value},V6 k v=true->(∃i t,k=Sum.inl i/\v=Value.int i t)\/(∃x t,k=Sum.inr x/\v=Value.str x t)
 |.inl i,v,h=>by
  obtain⟨t,e⟩:=Value.isInt_shape (k:=i) (v:=v) h;exact .inl ⟨i,t,rfl,e⟩
 |.inr x,v,h=>by
  obtain⟨t,e⟩:=Value.isStrOf_shape (x:=x) (v:=v) h;exact .inr ⟨x,t,rfl,e⟩
def Po(i:Int)(t:Tok):V6 (.inl i) (.int i t)=true:=by simp[V6,Value.isInt]
def Pn(x:Str)(t:Tok):V6 (.inr x) (.str x t)=true:=by simp[V6,Value.isStrOf]
def Bg(a b:Int):decide ((Sum.inl a:Key)=Sum.inl b)=(a==b):=by
 by_cases e:a=b
 ·subst e;simp
 have h:¬ (Sum.inl a:Key)=Sum.inl b:=λq=>e (Sum.inl.inj q);rw[zbQ h];exact(zbA.mpr e).symm
def Bd(a b:Str):decide ((Sum.inr a:Key)=Sum.inr b)=decide (a=b):=by
 by_cases e:a=b
 ·subst e;simp
 have h:¬ (Sum.inr a:Key)=Sum.inr b:=λq=>e (zfS q);rw[zbQ h,zbQ e]
def Bf(a:Int)(b:Str):decide ((Sum.inl a:Key)=Sum.inr b)=false:=zbQ (λq=>nomatch q)
def Be(a:Str)(b:Int):decide ((Sum.inr a:Key)=Sum.inl b)=false:=zbQ (λq=>nomatch q)
noncomputable def yp(prog:Program)(w:World):PySem.KeyKind prog w Key where
 is:=V6
 hash:=keyH w
 inj:=λv a b l g=>by
  rcases xc l with⟨i,t,rfl,rfl⟩|⟨x,t,rfl,rfl⟩
  ·rcases xc g with⟨j,u,rfl,e⟩|⟨y,u,rfl,e⟩
   ·injection e with e1 _;rw[e1]
   exact nomatch e
  rcases xc g with⟨j,u,rfl,e⟩|⟨y,u,rfl,e⟩
  ·exact nomatch e
  injection e with e1 _;rw[e1]
 byValue:=λk v h=>by
  rcases xc h with⟨i,t,rfl,rfl⟩|⟨x,t,rfl,rfl⟩ <;> rfl
 pyHash:=λd h=>by
  rcases xc d with⟨i,t,rfl,rfl⟩|⟨x,t,rfl,rfl⟩
  ·exact wpAny_pyHash_int h
  exact wpAny_pyHash_str h
 eqBool:=λhu d h=>by
  rcases xc hu with⟨i,t,rfl,rfl⟩|⟨x,t,rfl,rfl⟩
  ·rcases xc d with⟨j,u,rfl,rfl⟩|⟨y,u,rfl,rfl⟩
   ·rw[Bg]at h;exact wpAny_eqBool_int h
   rw[Bf]at h;exact SeqAt.EqAt.int_str i t y u _ _ _ _ h
  rcases xc d with⟨j,u,rfl,rfl⟩|⟨y,u,rfl,rfl⟩
  ·rw[Be]at h;exact SeqAt.EqAt.str_int x t j u _ _ _ _ h
  rw[Bd]at h;exact wpAny_eqBool_str h
 «strs»:=λk x t v h=>by
  rcases xc h with⟨i,u,rfl,e⟩|⟨y,u,rfl,e⟩
  ·exact nomatch e
  injection e with e1 _
  subst e1;cases v <;> rfl
def V4(prog:Program)(w:World)(i:Int)(t:Tok):(yp prog w).is (.inl i) (.int i t)=true:=Po i t
def dq(prog:Program)(w:World)(x:Str)(t:Tok):(yp prog w).is (.inr x) (.str x t)=true:=Pn x t
inductive V where
 |non|bl (b:Bool)|int (i:Int)|str (x:Str)|byt (b:Array UInt8)|flt (b:UInt64)|ref (a:Addr)|ty (n:String)
 deriving DecidableEq
def RelV:V->Value->Prop
 |.non,u=>u=Value.none
 |.bl b,u=>u=Value.bool b
 |.int i,u=>∃t,u=Value.int i t
 |.str x,u=>∃t,u=Value.str x t
 |.byt b,u=>∃t,u=Value.bytes b t
 |.flt b,u=>∃t,u=Value.float b t
 |.ref a,u=>u=Value.ref a
 |.ty n,u=>u=Value.type n
abbrev Vals:List V->List Value->Prop:=Paired RelV
theorem Vals.length(r:Vals E us):E.length=us.length:=zfQ r
theorem Vals.get:∀{E:List V}{us:List Value}{i:Nat}{x:V},Vals E us->E[i]?=some x->∃u,us[i]?=some u/\RelV x u
 |_,_,_,_,.nil,e=>by simp at e
 |_,_,0,_,.cons r _,e=>by simp at e;subst e;exact⟨_,rfl,r⟩
 |_,_,i+1,x,.cons _ t,e=>by
  obtain⟨u,h1,h2⟩:=Vals.get (i:=i) (x:=x) t (by simpa using e)
  exact⟨u,by simpa using h1,h2⟩
theorem Vals.set(r:RelV x u):∀{E:List V}{us:List Value}(i:Nat),Vals E us->Vals (E.set i x) (us.set i u)
 |_,_,_,.nil=>.nil
 |_,_,0,.cons _ t=>.cons r t
 |_,_,i+1,.cons q t=>.cons q (Vals.set r i t)
theorem Vals.append:∀{E ys:List V}{us ws:List Value},Vals E us->Vals ys ws->Vals (E++ys) (us++ws)
 |_,_,_,_,.nil,s=>s
 |_,_,_,_,.cons r t,s=>.cons r (Vals.append t s)
theorem Vals.take:∀{E:List V}{us:List Value}(n:Nat),Vals E us->Vals (E.take n) (us.take n)
 |_,_,0,_=>.nil
 |_,_,_+1,.nil=>.nil
 |_,_,n+1,.cons r t=>.cons r (Vals.take n t)
theorem Vals.drop:∀{E:List V}{us:List Value}(n:Nat),Vals E us->Vals (E.drop n) (us.drop n)
 |_,_,0,r=>r
 |_,_,_+1,.nil=>.nil
 |_,_,n+1,.cons _ t=>Vals.drop n t
def Vals.none_of:∀{E:List V}{us:List Value}{i:Nat},Vals E us->E[i]?=none->us[i]?=none:=λ{E us i} r e=>by
 have h1:=r.length;have h2:E.length<=i:=zeG.mp e;exact zeG.mpr aD
def RelO:Option V->Option Value->Prop
 |some v,some u=>RelV v u
 |none,none=>True
 |_,_=>False
def KV{κ:Type}:List (κ×V)->List (κ×Value)->Prop:=Paired λ(p:κ×V)(q:κ×Value)=>p.1=q.1/\RelV p.2 q.2
noncomputable def kV:Key->V
 |.inl i=>.int i
 |.inr x=>.str x
inductive HO where
  |lst (E:List V)
  |tup (E:List V)
  |dK (kvs:List (Key×V))|dT (kvs:List (List Key×V))
  |set (ds:Int->Bool) (n:Nat)
  |ins (C dx:Addr) (fs:List (Str×V))
  |own (x:Addr)
  |xd (fs:List (Str×V))
  |met (f x:Addr)
  |rng (lo hi:Int)
  |frz (o:Obj) (u:HO)
  |tbl (ps:Array Value)
  |ext (M:Heap->Prop)
abbrev Hp:=Addr->Option HO
noncomputable def upd(H:Hp)(a:Addr)(o:HO):Hp:=λb=>if b=a then some o else H b
def zk:upd H a o a=some o:=by unfold upd;rw[zaK rfl]
def zx(h:b≠a):upd H a o b=H b:=by unfold upd;rw[zaJ h]
def Rj:upd (upd H a o) a u=upd H a u:=by
 funext b;unfold upd;split <;> rfl
def z1g{H:Hp}{o u:HO}(h:H a=some o)(h':H b=some u)(d:o≠u):a≠b:=by
 intro e;subst e;rw[h]at h';exact d (zaM h')
def zp{H:Hp}{o:HO}(h:H a=some o)(h':H b=none):a≠b:=by
 intro e;subst e;rw[h]at h';cases h'
section
variable(P:Program)(w:World)
def we(H:Hp)(h:Heap)(a:Addr):HO->Prop
 |.lst E=>E.length<=sizeLine/\∃(its:List Value)(n:Nat),Vals E its/\h.get? a=some {cls:=.type "list",data:=.seq its.toArray n}
 |.tup E=>E.length<=sizeLine/\∃its:List Value,Vals E its/\IsTup h a its.toArray/\∃o,h.get? a=some o/\o.dict=none
 |.dK kvs=>kvs.length<=sizeLine/\(a==sysModules)=false/\∃vs,KV kvs vs/\h.DictOf (yp P w) a vs
 |.dT kvs=>kvs.length<=sizeLine/\(a==sysModules)=false/\∃E:List (List Key×Addr×Value),
   Paired (λ(p:List Key×V)(q:List Key×Addr×Value)=>p.1=q.1/\H q.2.1=some (.tup (p.1.map kV))/\RelV p.2 q.2.2) kvs E /\
   ∃o J ep,h.get? a=some o/\o.ExactDict/\o.data=.dict J ep/\J.toList=E.map (entryOfKey (tupleKind (yp P w)))/\(E.map (·.1)).Nodup
 |.set ds n=>h.SetOf (intKind P w) a ds n
 |.ins C dx fs=>H dx=some (.own a)/\fs.length<=1000/\dx≠a/\h.get? a=some (W.instObj C dx) /\
   ∃mA,h.Ns1 dx mA/\(∀f,RelO (fs.lookup f) (mA f))/\PySem.Within mA (fs.map (·.1))
 |.own _=>∃o,h.get? a=some o
 |.xd fs=>∃mA,h.Ns1 a mA/\∀f,RelO (fs.lookup f) (mA f)
 |.rng lo hi=>∃t u v,h.get? a=some {cls:=.type "range",data:=.fields #[.int lo t,.int hi u,.int 1 v]}
 |.frz o u=>h.get? a=some o/\we H h a u
 | .tbl ps=>∃qs,h.get? a=some (W.tabObj qs)/\(qs=#[]\/∃(l c:Int)(q:Str)(u1 u2 u3:Tok)(c':Addr)(oc:Obj)(vs:Array Value)(t:Tok),ps=#[.int l u1,.int c u2,.str q u3]/\qs=#[.int l 0,.int c 0,.ref c'] /\
   H c'=some (.own a)/\h.get? c'=some oc/\oc.data=.fields vs/\vs[1]?=some (.str q t))
 |.met f x=>h.get? a=some (W.methodObj (.ref f) (.ref x))
 |.ext M=>M h/\(∃o,h.get? a=some o)/\∀h1 h2:Heap,M h1->(∀o,h1.get? a=some o->h2.get? a=some o)->M h2
def HOk(H:Hp)(h:Heap):Prop:=∀a o,H a=some o->we P w H h a o
end
variable{P:Program}{w:World}{H H':Hp}{h h':Heap}{a:Addr}{o:HO}
theorem we.lt(x:we P w H h a o):a<h.objs.size:=by
 cases o with
 |lst E=>obtain⟨_,_,_,_,e⟩:=x;exact zae e
 |tup E=>obtain⟨_,_,_,p⟩:=x;exact p.1.lt
 |dK kvs=>obtain⟨_,_,_,_,o,_,_,e,_⟩:=x;exact zae e
 |dT kvs=>obtain⟨_,_,_,_,o,_,_,e,_⟩:=x;exact zae e
 |set ds n=>obtain⟨o,_,_,_,e,_⟩:=x;exact zae e
 |ins C dx fs=>obtain⟨_,_,_,e,_⟩:=x;exact zae e
 |own y=>obtain⟨_,e⟩:=x;exact zae e
 |xd fs=>obtain⟨_,⟨_,_,_,e,_⟩,_⟩:=x;exact zae e
 |rng lo hi=>obtain⟨_,_,_,e⟩:=x;exact zae e
 |frz ob u=>obtain⟨e,_⟩:=x;exact zae e
 |tbl ps=>obtain⟨_,e,_⟩:=x;exact zae e
 |met f y=>exact zae (show h.get? a=some _ from x)
 |ext M=>obtain⟨_,⟨_,e⟩,_⟩:=x;exact zae e
theorem Paired.mapP{α d:Type}{F G:α->d->Prop}:∀{l₁:List α}{l₂:List d},Paired F l₁ l₂->(∀a b,F a b->G a b)->Paired G l₁ l₂
 |_,_,.nil,_=>.nil
 |_,_,.cons r t,f=>.cons (f _ _ r) (Paired.mapP t f)
def we.stay(x:we P w H h a o)(k:∀ b u,(b=a\/H b=some (.own a))->h.get? b=some u->h'.get? b=some u)(ho:∀ b,H b=some (.own a)->H' b=some (.own a))(I:∀ b E,H b=some (.tup E)->H' b=some (.tup E)):we P w H' h' a o:=by
 induction o with
 |lst E=>obtain⟨z,its,n,r,e⟩:=x;exact⟨z,its,n,r,k _ _ (.inl rfl) e⟩
 |tup E=>obtain⟨z,its,r,⟨g,e,c⟩,j,es,Q⟩:=x;exact⟨z,its,r,⟨g,k _ _ (.inl rfl) e,c⟩,j,k _ _ (.inl rfl) es,Q⟩
 |dK kvs=>obtain⟨z,y,vs,r,g,J,ep,e,c⟩:=x;exact⟨z,y,vs,r,g,J,ep,k _ _ (.inl rfl) e,c⟩
 |dT kvs =>
  obtain⟨z,y,E,r,g,J,ep,e,c⟩:=x;exact⟨z,y,E,Paired.mapP r λp q z=>⟨z.1,I _ _ z.2.1,z.2.2⟩,g,J,ep,k _ _ (.inl rfl) e,c⟩
 |set ds n=>obtain⟨g,J,ep,t,e,c⟩:=x;exact⟨g,J,ep,t,k _ _ (.inl rfl) e,c⟩
 |ins C dx fs =>
  obtain⟨d,z,ne,e,mA,⟨j,J,ep,e2,c⟩,r⟩:=x;exact⟨ho _ d,z,ne,k _ _ (.inl rfl) e,mA,⟨j,J,ep,k _ _ (.inr d) e2,c⟩,r⟩
 |own y=>obtain⟨g,e⟩:=x;exact⟨g,k _ _ (.inl rfl) e⟩
 |xd fs=>obtain⟨mA,⟨j,J,ep,e,c⟩,r⟩:=x;exact⟨mA,⟨j,J,ep,k _ _ (.inl rfl) e,c⟩,r⟩
 |rng lo hi=>obtain⟨t,u,v,e⟩:=x;exact⟨t,u,v,k _ _ (.inl rfl) e⟩
 |frz g u ih=>obtain⟨e,q⟩:=x;exact⟨k _ _ (.inl rfl) e,ih q⟩
 |tbl ps =>
  obtain⟨D,e,r⟩:=x;refine⟨D,k a _ (.inl rfl) e,r.imp id ?_⟩;rintro⟨l,c,q,u1,u2,u3,R,G,vs,t,e1,e2,B,O,N,L⟩;exact⟨l,c,q,u1,u2,u3,R,G,vs,t,e1,e2,ho _ B,k _ _ (.inr B) O,N,L⟩
 |met f y =>
  have e:h.get? a=some (W.methodObj (.ref f) (.ref y)):=x;show h'.get? a=some (W.methodObj (.ref f) (.ref y));exact k a _ (.inl rfl) e
 |ext M=>obtain⟨p,⟨o,e⟩,st⟩:=x;exact⟨st _ _ p λo q=>k _ _ (.inl rfl) q,⟨o,k _ _ (.inl rfl) e⟩,st⟩
theorem HOk.lt(x:HOk P w H h)(e:H a=some o):a<h.objs.size:=(x a o e).lt
def HOk.fresh(x:HOk P w H h)(e:h.objs.size<=a):H a=none:=by
 cases q:H a with
 |none=>rfl
 |some u=>exact absurd (zaR (x.lt q) e) (zbT _)
def HOk.kept(x:HOk P w H h)(k:∀ b u,h.get? b=some u->h'.get? b=some u):HOk P w H h':=λa o e =>
 (x a o e).stay (λb u _ q=>k b u q) aA λ_ _ q=>q
def HOk.laid(x:HOk P w H h)(k:∀ b u,h.get? b=some u->h'.get? b=some u)(g:h.objs.size<=a)(new:we P w (upd H a o) h' a o):HOk P w (upd H a o) h':=λb u e=>by
 have d:=x.fresh g;by_cases hb:b=a
 ·subst hb;rw[zk]at e;cases e;exact new
 rw[zx hb]at e;exact(x b u e).stay (λc v _ q=>k c v q) (λc q=>by rw[zx (zp q d)];exact q) λc E q=>by rw[zx (zp q d)];exact q
def Rd(H:Hp)(a:Addr)(u:HO):Prop:=H a=some u\/∃o,H a=some (.frz o u)
def Rd.ok(r:Rd H a u)(x:HOk P w H h):we P w H h a u:=by
 rcases r with r|⟨o,r⟩
 ·exact x a u r
 obtain⟨_,q⟩:=x a _ r;exact q
def Mut:Option HO->Prop
 |some (.lst _)=>True
 |some (.dK _)=>True
 |some (.dT _)=>True
 |some (.set _ _)=>True
 |some (.ins _ _ _)=>True
 |some (.ext _)=>True
 |_=>False
section
variable{x e:Addr}{o':HO}
def HOk.write(ok:HOk P w H h)(g:Mut (H x))(D:e=x\/H e=some (.own x))(k:∀ b u,b≠e->h.get? b=some u->h'.get? b=some u)(l:∃ u,h'.get? e=some u)(new:we P w (upd H x o') h' x o'):HOk P w (upd H x o') h':=λb u q=>by
 have a:∀c y,H c=some (.own y)->c≠x:=λc y r z=>by subst z;rw[r]at g;exact g
 have d:∀c E,H c=some (.tup E)->c≠x:=λc E r z=>by subst z;rw[r]at g;exact g
 by_cases hb:b=x
 ·subst hb;rw[zk]at q;cases q;exact new
 rw[zx hb]at q;by_cases hbe:b=e
 ·have B:H b=some (.own x):=by
   rcases D with z|z
   ·exact absurd (hbe.trans z) hb
   rw[hbe];exact z
  rw[q]at B;cases B;obtain⟨v,G⟩:=l;exact⟨v,by rw[hbe];exact G⟩
 refine(ok b u q).stay (λc v j r=>k c v ?_ r) (λc r=>by rw[zx (a c b r)];exact r) λc E r=>by rw[zx (d c E r)];exact r
 rcases j with rfl|j
 ·exact hbe
 rintro rfl;rcases D with z|z
 ·exact a c b j z
 rw[j]at z;cases z;exact hb rfl
end
structure Un(fs ex:List Addr)(H H':Hp)(h h':Heap):Prop where
 keep:∀b o,h.get? b=some o->H b=none->b∉fs->b∉ex->h'.get? b=some o
 slot:∀b o,h.get? b=some o->H b=none->b∈fs->b∉ex->∃sl,h'.get? b=some {o with slots:=sl}
 free:∀b o,h.get? b=some o->H b=none->b∉ex->H' b=none
 there:∀b o,h.get? b=some o->b∉ex->∃o',h'.get? b=some o'
 tups:∀b E,H b=some (.tup E)->H' b=some (.tup E)
 frzs:∀b o u,H b=some (.frz o u)->H' b=some (.frz o u)
 tbls:∀b ps,H b=some (.tbl ps)->∃more,H' b=some (.tbl (ps++more))
section
variable{fs ex:List Addr}{H1 H2:Hp}{h1 h2:Heap}{x e:Addr}
def Un.any(u:Un fs ex H H1 h h1)(q:h.get? b=some ob)(n:H b=none)(a:b∉ex):∃sl,h1.get? b=some {ob with slots:=sl}:=by
 by_cases hb:b∈fs
 ·exact u.slot b ob q n hb a
 exact⟨ob.slots,u.keep b ob q n hb a⟩
def Un.kept(k:∀ b u,h.get? b=some u->h'.get? b=some u):Un fs ex H H h h' :=
 ⟨λb a q _ _ _=>k b a q,λb a q _ _ _=>⟨a.slots,k b a q⟩,λ_ _ _ n _=>n,λb a q _=>⟨a,k b a q⟩,λ_ _ q=>q,λ_ _ _ q=>q,λ_ ps q=>⟨#[],by rw[q];simp⟩⟩
def Un.refl:Un fs ex H H h h:=Un.kept λ_ _ q=>q
def Un.laid(k:∀ b u,h.get? b=some u->h'.get? b=some u)(e:h.objs.size<=a)(d:H a=none):Un fs ex H (upd H a o) h h' where
 keep:=λb u q _ _ _=>k b u q
 slot:=λb u q _ _ _=>⟨u.slots,k b u q⟩
 free:=λb u q n _=>by rw[zx (zaT (zaR (zae q) e))];exact n
 there:=λb u q _=>⟨u,k b u q⟩
 tups:=λb E q=>by rw[zx (zp q d)];exact q
 frzs:=λb u E q=>by rw[zx (zp q d)];exact q
 tbls:=λb ps q=>⟨#[],by rw[zx (zp q d),q];simp⟩
def Un.write(a:Mut (H x))(y:e=x\/H e=some (.own x))(k:∀ b u,b≠e->h.get? b=some u->h'.get? b=some u)(g:∃ u,h'.get? e=some u):Un fs ex H (upd H x o) h h':=by
 have j:∀b,H b=none->b≠x:=λb n z=>by subst z;rw[n]at a;exact a
 have l:∀b,H b=none->b≠e:=λb n z=>by
  subst z;rcases y with r|r
  ·exact j b n r
  rw[n]at r;cases r
 have d:∀b u,H b=some u->¬ Mut (some u)->b≠x:=λb u q v z=>by subst z;rw[q]at a;exact v a
 refine⟨λb u q n _ _=>k b u (l b n) q,λb u q n _ _=>⟨u.slots,k b u (l b n) q⟩,λb u q n _=>by rw[zx (j b n)];exact n,λb u q _=>?_,
  λb E q=>by rw[zx (d b _ q λz=>z)];exact q,λb u E q=>by rw[zx (d b _ q λz=>z)];exact q,λb ps q=>⟨#[],by rw[zx (d b _ q λz=>z),q];simp⟩⟩
 by_cases hbe:b=e
 ·subst hbe;exact g
 exact⟨u,k b u hbe q⟩
end
noncomputable def trk(h:Heap)(H:Hp):List Addr:=(List.range h.objs.size).filter λa=>(H a).isSome
noncomputable def hidT(h:Heap)(H:Hp):Heap:=W.hideAll h (trk h H)
def Pu(h:Heap)(H:Hp):(hidT h H).objs.size=h.objs.size:=W.hideAll_size _ _
def Lc{o:Obj}(e:h.get? b=some o)(n:H b=none):(hidT h H).get? b=some o :=
 W.hideAll_get _ e λa=>by
  have q:(H b).isSome=true:=(zcV.mp a).2;rw[n]at q;simp at q
def F1{o:Obj}(e:(hidT h H).get? b=some o):h.get? b=some o/\H b=none:=by
 have a:h.get? b=some o:=W.of_hideAll (trk h H) e;refine⟨a,?_⟩;cases q:H b with
 |none=>rfl
 |some x =>
  have d:b∈trk h H:=zcV.mpr ⟨zcZ.mpr (zae a),by simp[q]⟩
  have z:(hidT h H).get? b=none:=W.hideAll_none (trk h H) d;rw[z]at e;cases e
structure Mod(K:W.Frag)(mg:Str->Option Value)(base:Heap):Prop where
 kin:K.In base
 glob:base.Ns mainGlobals mg
 blt:∃mb,base.Ns builtinsNs mb/\∀x:Str,x≠"__name__"->mb x=bootBuiltins x
 nolimit:base.NoLimit
structure Cx where
 prog:Program
 w:World
 K:W.Frag
 mg:Str->Option Value
 base:Heap
 A:Around
 N:List Str
 s₀:Shared
 H_:Hp
 env:Env
 outer:List Env
 stack:List Env
 ex:List Addr
 fn:Str->Bool
 calm:Bool
 pn:List (Addr×Obj)
 xe:Value->Shared->Prop
noncomputable def frs(l:List Env):List Addr:=l.filterMap (·.frame)
noncomputable abbrev Cx.fs(X:Cx):List Addr:=frs X.outer
def Vis(a:Scope)(x:Str):Prop:=a.names.lookup x=some .local\/a.names.lookup x=some .cell\/a.names.lookup x=some .free
def Loc(a:Scope)(x:Str):Prop:=a.names.lookup x=some .local\/a.names.lookup x=some .cell
def Look(env:Env)(h:Heap)(m:Str->Option Value)(x:Str)(u:Value):Prop :=
 (env.kindOf x=some .local/\m x=some u)\/((env.kindOf x=some .cell\/env.kindOf x=some .free)/\∃c,env.cells.lookup x=some c/\h.IsCell c (some u))
structure Cx.Ok(X:Cx):Prop where
 mod:Mod X.K X.mg X.base
 kind:X.env.scope.kind=.function
 glob:X.env.globals=mainGlobals
 blt:X.env.builtins=builtinsNs
 above:X.s₀.heap.objs.size<=X.env.locals
 inj:∀x y c,X.env.cells.lookup x=some c->X.env.cells.lookup y=some c->x=y
 has:∀x,(X.env.kindOf x=some .cell\/X.env.kindOf x=some .free)->∃c,X.env.cells.lookup x=some c
 cab:∀x c,X.fn x=true->X.env.cells.lookup x=some c->X.s₀.heap.objs.size<=c
 hd:X.calm=true->X.A.handled=none
 frames:X.A.frames=some X.stack
 stk:X.stack=X.outer\/(X.stack=X.env::X.outer/\X.env.frame=some X.env.locals)
 exf:∀b∈X.ex,b≠X.env.locals/\∀x c,X.env.cells.lookup x=some c->c≠b
 bs:∀b o,X.base.get? b=some o->X.s₀.heap.get? b=some o/\X.H_ b=none
 bsz:X.base.objs.size<=X.s₀.heap.objs.size
 noex:∀b o,X.base.get? b=some o->b∉X.ex
 exfs:∀b∈X.ex,b∉X.fs
 funs:X.s₀.heap.FunFrames X.base X.outer
 frf:∀b∈X.fs,X.H_ b=none
structure Inv(X:Cx)(pn:List (Addr×Obj))(Y:List (Option V))(H:Hp)(s:Shared):Prop where
 ok:X.Ok
 os:s.os=X.s₀.os
 bare:AllBare s.gens
 base:Un X.fs X.ex X.H_ H X.s₀.heap s.heap
 loc:∃m,s.heap.Ns X.env.locals m/\∀(i:Nat)(x:Str)(v:V),X.N[i]?=some x->Y[i]?=some (some v)->Vis X.env.scope x->∃u,RelV v u/\Look X.env s.heap m x u
 cell:∀x c,X.env.cells.lookup x=some c->∃v,s.heap.IsCell c v
 free:H X.env.locals=none
 freeC:∀x c,X.env.cells.lookup x=some c->H c=none
 pin:∀p∈X.pn++pn,s.heap.get? p.1=some p.2/\H p.1=none/\p.1≠X.env.locals/\p.1∉X.fs/\∀v,p.2.data≠.cell v
 hok:HOk X.prog X.w H s.heap
 len:Y.length=X.N.length
variable{X:Cx}{pn:List (Addr×Obj)}{Y:List (Option V)}{s:Shared}
def Cx.Ok.nofr(ok:X.Ok){o:Obj}(e:X.base.get? b=some o):b∉X.fs:=λa=>by
 have:=(ok.funs.mem a).1;rw[e]at this;cases this
theorem Inv.bs(I:Inv X pn Y H s):∀b o,X.base.get? b=some o->s.heap.get? b=some o/\H b=none:=λb o e =>
 ⟨I.base.keep b o (I.ok.bs b o e).1 (I.ok.bs b o e).2 (I.ok.nofr e) (I.ok.noex b o e),I.base.free b o (I.ok.bs b o e).1 (I.ok.bs b o e).2 (I.ok.noex b o e)⟩
def Inv.bk(I:Inv X pn Y H s):∀b o,X.base.get? b=some o->s.heap.get? b=some o:=λb o e=>(I.bs b o e).1
theorem Inv.mod(I:Inv X pn Y H s):Mod X.K X.mg X.base:=I.ok.mod
def Inv.kIn(I:Inv X pn Y H s):X.K.In s.heap:=I.ok.mod.kin.keeps I.bk
theorem Inv.lt(I:Inv X pn Y H s):X.env.locals<s.heap.objs.size:=let ⟨_,hn,_⟩:=I.loc;hn.lt
def Inv.sz(I:Inv X pn Y H s):X.s₀.heap.objs.size<=s.heap.objs.size:=zak I.ok.above (Nat.le_of_lt I.lt)
def Inv.nofs(I:Inv X pn Y H s)(h:s.heap.objs.size<=a):a∉X.fs:=λd=>by
 obtain⟨_,o,ho,_⟩:=I.ok.funs.mem d;exact absurd (zaR (zae ho) (zak I.sz h)) (zbT _)
def Inv.cne(I:Inv X pn Y H s):∀x c,X.env.cells.lookup x=some c->c≠X.env.locals:=λx c e z=>by
 obtain⟨v,o,ho,g⟩:=I.cell x c e;obtain⟨m,⟨o',J,ep,a,d,_⟩,_⟩:=I.loc;rw[z,a]at ho;cases ho;rw[d]at g;cases g
theorem Inv.funs(I:Inv X pn Y H s):s.heap.FunFrames X.base X.outer:=by
 have all:∀(l:List Env),(∀b∈frs l,b∈X.fs)->X.s₀.heap.FunFrames X.base l->s.heap.FunFrames X.base l:=by
  intro l
  induction l with
  |nil=>intro _ _;trivial
  |cons env r ih =>
   intro j hl;obtain⟨q,⟨L,o,a,k,ho,u⟩,hr⟩:=hl;have g:L∈X.fs:=j L (by unfold frs;rw[zbE,a];exact zao)
   obtain⟨v,e⟩:=I.base.slot L o ho (I.ok.frf L g) g λz=>I.ok.exfs L z g;exact⟨q,⟨L,_,a,k,e,u⟩,ih (λb d=>j b (by unfold frs;rw[zbE,a];exact zal _ d)) hr⟩
 exact all X.outer aA I.ok.funs
theorem Inv.stack(I:Inv X pn Y H s):s.heap.FunFrames X.base X.stack:=by
 rcases I.ok.stk with e|⟨e,hf⟩
 ·rw[e];exact I.funs
 rw[e];obtain⟨m,a,_⟩:=I.loc;refine .cons (by rw[I.ok.kind];decide) hf a ?_ I.funs
 exact Heap.get?_none_of_le (zak I.ok.bsz I.ok.above)
def Inv.stkSub(I:Inv X pn Y H s):∀b∈frs X.stack,b∈X.env.locals::X.fs:=λb a=>by
 rcases I.ok.stk with e|⟨e,hf⟩
 ·rw[e]at a;exact zal _ a
 rw[e]at a;unfold frs at a;rw[zbE,hf]at a;exact a
def Inv.stkFree(I:Inv X pn Y H s):∀b∈frs X.stack,H b=none:=λb a=>by
 rcases zam.mp (I.stkSub b a) with e|a
 ·rw[e];exact I.free
 obtain⟨_,o,ho,_⟩:=I.ok.funs.mem a;exact I.base.free b o ho (I.ok.frf b a) λz=>I.ok.exfs b z a
def Inv.step{t':Nat}{d':Drawn}{ch:List Addr}(I:Inv X pn Y H s)(j:∀ b∈ch,(b∈X.ex\/X.s₀.heap.objs.size<=b)/\b≠X.env.locals/\(∀ x c,X.env.cells.lookup x=some c->c≠b)/\∀ p∈X.pn++pn,p.1≠b)(keep:∀ b o,b≠X.env.locals->b∉X.fs->b∉ch->s.heap.get? b=some o->H b=none->h'.get? b=some o)(slot:∀ b o,b≠X.env.locals->b∈X.fs->b∉ch->s.heap.get? b=some o->H b=none->∃ L,h'.get? b=some {o with slots:=L})(free:∀ b o,b∉ch->s.heap.get? b=some o->H b=none->H' b=none)(there:∀ b o,b∉ch->s.heap.get? b=some o->∃ o',h'.get? b=some o')(tups:∀ b E,H b=some (.tup E)->H' b=some (.tup E))(frzs:∀ b o u,H b=some (.frz o u)->H' b=some (.frz o u))(tbls:∀ b ps,H b=some (.tbl ps)->∃ more,H' b=some (.tbl (ps++more)))(ns:∀ m,s.heap.Ns X.env.locals m->h'.Ns X.env.locals m)(N:HOk X.prog X.w H' h')(hg:AllBare g') :
  Inv X pn Y H' {s with heap:=h',gens:=g',drawn:=d',toks:=t'}:=by
 have G:∀b o,X.s₀.heap.get? b=some o->b≠X.env.locals:=λb o e=>zaT (zaR (zae e) I.ok.above);have B:∀b o,X.s₀.heap.get? b=some o->b∉X.ex->b∉ch:=λb o e a D=>by
  rcases(j b D).1 with z|z
  ·exact a z
  exact absurd (zaR (zae e) z) (zbT _)
 have y:∀x c,X.env.cells.lookup x=some c->∀v,s.heap.IsCell c v->h'.IsCell c v:=λx c e v Zh=>by
  obtain⟨o,ho,O⟩:=Zh;have g:c∉ch:=λz=>(j c z).2.2.1 x c e rfl;by_cases hc:c∈X.fs
  ·obtain⟨L,q⟩:=slot c o (I.cne x c e) hc g ho (I.freeC x c e);exact⟨_,q,O⟩
  exact⟨o,keep c o (I.cne x c e) hc g ho (I.freeC x c e),O⟩
 refine⟨I.ok,I.os,hg,⟨λb o e n D a=>?_,λb o e n D a=>?_,λb o e n a=>?_,λb o e a=>?_,λb E e=>tups b E (I.base.tups b E e),λb o E e=>frzs b o E (I.base.frzs b o E e),λb ps e=>?_⟩,?_,λx c e=>?_,?_,λx c e=>?_,λp R=>?_,N,I.len⟩
 ·exact keep b o (G b o e) D (B b o e a) (I.base.keep b o e n D a) (I.base.free b o e n a)
 ·obtain⟨L,e1⟩:=I.base.slot b o e n D a;obtain⟨es,e2⟩:=slot b _ (G b o e) D (B b o e a) e1 (I.base.free b o e n a);exact⟨es,e2⟩
 ·obtain⟨o',e1⟩:=I.base.there b o e a;exact free b o' (B b o e a) e1 (I.base.free b o e n a)
 ·obtain⟨o',e1⟩:=I.base.there b o e a;exact there b o' (B b o e a) e1
 ·obtain⟨W,e1⟩:=I.base.tbls b ps e;obtain⟨V,e2⟩:=tbls b _ e1;exact⟨W++V,by rw[e2,Array.append_assoc]⟩
 ·obtain⟨m,Z,hl⟩:=I.loc;refine⟨m,ns m Z,λi x v e1 e2 e3=>?_⟩;obtain⟨u,r,l⟩:=hl i x v e1 e2 e3;refine⟨u,r,?_⟩;rcases l with l|⟨k,c,e,z⟩
  ·exact .inl l
  exact .inr ⟨k,c,e,y x c e _ z⟩
 ·obtain⟨v,z⟩:=I.cell x c e;exact⟨v,y x c e v z⟩
 ·obtain⟨m,⟨o,_,_,ho,_⟩,_⟩:=I.loc;exact free _ o (λz=>(j _ z).2.1 rfl) ho I.free
 ·obtain⟨v,o,ho,O⟩:=I.cell x c e;exact free c o (λz=>(j c z).2.2.1 x c e rfl) ho (I.freeC x c e)
 obtain⟨e,n,ne,Q,d⟩:=I.pin p R;have g:p.1∉ch:=λz=>(j p.1 z).2.2.2 p R rfl;exact⟨keep p.1 p.2 ne Q g e n,free p.1 p.2 g e n,ne,Q,d⟩
def Inv.un{t':Nat}(I:Inv X pn Y H s)(u:Un X.fs [] H H' s.heap h')(d:HOk X.prog X.w H' h'):Inv X pn Y H' {s with heap:=h',toks:=t'}:=by
 obtain⟨m,⟨o,J,ep,ho,r⟩,_⟩:=id I.loc;obtain⟨x,v⟩:=u.any ho I.free aE
 exact I.step (g':=s.gens) (d':=s.drawn) (ch:=[]) (λ_ z=>nomatch z) (λb o _ g _ e n=>u.keep b o e n g aE) (λb o _ g _ e n=>u.slot b o e n g aE) (λb o _ e n=>u.free b o e n aE) (λb o _ e=>u.there b o e aE) u.tups u.frzs u.tbls (λy q=>by
  obtain⟨o',j,k,a,l⟩:=q;rw[ho]at a;cases a;exact⟨_,j,k,v,l⟩) d I.bare
def Inv.call{t':Nat}{d':Drawn}(I:Inv X pn Y H s)(u:Un (frs X.stack) ch H H' s.heap h')(j:HOk X.prog X.w H' h')(B:AllBare g')(g:∀ b∈ch,(b∈X.ex\/X.s₀.heap.objs.size<=b)/\b≠X.env.locals/\(∀ x c,X.env.cells.lookup x=some c->c≠b)/\∀ p∈X.pn++pn,p.1≠b) :
  Inv X pn Y H' {s with heap:=h',gens:=g',drawn:=d',toks:=t'}:=by
 obtain⟨m,⟨o,J,ep,ho,r⟩,_⟩:=id I.loc;obtain⟨G,k⟩:=u.any ho I.free λz=>(g _ z).2.1 rfl;exact I.step (ch:=ch) g (λb o k D a e n=>u.keep b o e n (λz=>(zam.mp (I.stkSub b z)).elim k D) a) (λb o _ _ a e n=>u.any e n a) (λb o a e n=>u.free b o e n a) (λb o a e=>u.there b o e a) u.tups u.frzs u.tbls (λes y=>by
  obtain⟨o',l,q,d,v⟩:=y;rw[ho]at d;cases d;exact⟨_,l,q,k,v⟩) j B
def Inv.turned{t':Nat}{it:Addr}(I:Inv X pn Y H s)(k:∀ b o,b≠it->s.heap.get? b=some o->h'.get? b=some o)(j:H it=none)(g:it≠X.env.locals)(h1:it∈X.ex\/X.s₀.heap.objs.size<=it)(h2:∀ x c,X.env.cells.lookup x=some c->c≠it)(B:∀ p∈X.pn++pn,p.1≠it):Inv X pn Y H {s with heap:=h',toks:=t'}:=by
 have d:∀b u,H b=some u->b≠it:=λb u e z=>by rw[z,j]at e;cases e
 refine I.step (g':=s.gens) (d':=s.drawn) (ch:=[it]) (λb y=>?_) (λb o _ _ a e _=>k b o (λz=>a (by simp[z])) e) (λb o _ _ a e _=>⟨o.slots,k b o (λz=>a (by simp[z])) e⟩) (λ_ _ _ _ n=>n)
  (λb o a e=>⟨o,k b o (λz=>a (by simp[z])) e⟩) (λ_ _ e=>e) (λ_ _ _ e=>e) (λb ps e=>⟨#[],by rw[e];simp⟩) (λm l=>?_) (λb u e=>?_) I.bare
 ·have e:b=it:=by simpa using y
  subst e;exact⟨h1,g,h2,B⟩
 ·obtain⟨o,J,ep,ho,r⟩:=l;exact⟨o,J,ep,k _ o (Ne.symm g) ho,r⟩
 refine(I.hok b u e).stay (λc v a q=>k c v ?_ q) aA λ_ _ q=>q;rcases a with z|z
 ·rw[z];exact d b u e
 exact d c _ z
def Inv.tok(I:Inv X pn Y H s)(t:Nat):Inv X pn Y H {s with toks:=t}:=I.un (h':=s.heap) (t':=t) Un.refl I.hok
theorem Inv.kept(I:Inv X pn Y H s)(k:∀ b u,s.heap.get? b=some u->h'.get? b=some u):Inv X pn Y H {s with heap:=h',toks:=t'}:=I.un (Un.kept k) (I.hok.kept k)
theorem Inv.laid(I:Inv X pn Y H s)(k:∀ b u,s.heap.get? b=some u->h'.get? b=some u)(d:s.heap.objs.size<=a)(new:we X.prog X.w (upd H a o) h' a o) :
  Inv X pn Y (upd H a o) {s with heap:=h',toks:=t'}:=I.un (Un.laid k d (I.hok.fresh d)) (I.hok.laid k d new)
theorem Inv.write(I:Inv X pn Y H s)(d:Mut (H x))(g:e=x\/H e=some (.own x))(k:∀ b u,b≠e->s.heap.get? b=some u->h'.get? b=some u)(a:∃ u,h'.get? e=some u)(new:we X.prog X.w (upd H x o) h' x o):Inv X pn Y (upd H x o) {s with heap:=h',toks:=t'}:=I.un (Un.write d g k a) (I.hok.write d g k a new)
def Inv.weak(I:Inv X pn Y H s)(hl:σ'.length=Y.length)(w:∀ (i:Nat) v,σ'[i]?=some (some v)->Y[i]?=some (some v)):Inv X pn σ' H s :=
 ⟨I.ok,I.os,I.bare,I.base,let ⟨m,hn,hl'⟩:=I.loc;⟨m,hn,λi x v e1 e2 a=>hl' i x v e1 (w i v e2) a⟩,I.cell,I.free,I.freeC,I.pin,I.hok,hl.trans I.len⟩
def Inv.pins_of(I:Inv X pn Y H s)(h:∀ p∈pins',s.heap.get? p.1=some p.2/\H p.1=none/\p.1≠X.env.locals/\p.1∉X.fs/\∀ v,p.2.data≠.cell v):Inv X pins' Y H s :=
 ⟨I.ok,I.os,I.bare,I.base,I.loc,I.cell,I.free,I.freeC,λp a=>(zas.mp a).elim (λz=>I.pin p (zaF _ z)) (h p),I.hok,I.len⟩
def Up{N:List Str}(d:N.Nodup){i j:Nat}{x:Str}(a:N[i]?=some x)(b:N[j]?=some x):i=j:=by
 obtain⟨h1,e1⟩:=zag.mp a;obtain⟨h2,e2⟩:=zag.mp b;exact(List.getElem_inj d).mp (e1.trans e2.symm)
def X3(I:Inv X pn Y H s)(hN:X.N.Nodup)(hi:X.N[i]?=some x)(D:Loc X.env.scope x)(r:RelV v u)(h:∀ s',Inv X pn (Y.set i (some v)) H s'->(∃ a,Heap.SameBut a s.heap s'.heap/\(a=X.env.locals\/X.env.cells.lookup x=some a))->Q () s')(Z:X.fn x=true\/X.env.scope.names.lookup x=some .local:=by first|exact .inl rfl|exact .inr rfl|assumption):wpAny M A (storeName X.env x u) Q xs s:=by
 obtain⟨m,hn,hl⟩:=id I.loc;have L:(X.env.scope.kind==.class || (X.env.scope.kind==.module&&X.env.locals != X.env.globals))=false:=by rw[I.ok.kind];rfl
 have B:i<Y.length:=by rw[I.len];exact(zag.mp hi).1
 have cne:=I.cne;have R:∀{a:Addr}{h':Heap}{t':Nat},Heap.SameBut a s.heap h'->X.s₀.heap.objs.size<=a->H a=none->(∀p∈X.pn++pn,p.1≠a)->(a=X.env.locals\/X.env.cells.lookup x=some a) ->
   (∃m,h'.Ns X.env.locals m/\∀(j:Nat)(y:Str)(G:V),X.N[j]?=some y->(Y.set i (some v))[j]?=some (some G)->Vis X.env.scope y->∃u,RelV G u/\Look X.env h' m y u)->(∀y c,X.env.cells.lookup y=some c->∃w,h'.IsCell c w)->Q () {s with heap:=h',toks:=t'}:=λ{a h' t'} g ab Z hp ha lc cl=>by
  have k:∀b o,X.s₀.heap.get? b=some o->b≠a:=λb o e=>zaT (zaR (zae e) ab);refine h _ ⟨I.ok,I.os,I.bare,⟨λb o e n hb D=>(g.2 b (k b o e)).trans (I.base.keep b o e n hb D),λb o e n hb D=>?_,I.base.free,λb o e D=>?_,I.base.tups,I.base.frzs,I.base.tbls⟩,lc,cl,I.free,I.freeC,λp q=>?_,λb ob e=>?_,by simpa using I.len⟩ ⟨_,g,ha⟩
  ·obtain⟨sl,e1⟩:=I.base.slot b o e n hb D;exact⟨sl,(g.2 b (k b o e)).trans e1⟩
  ·obtain⟨o',e1⟩:=I.base.there b o e D;exact⟨o',(g.2 b (k b o e)).trans e1⟩
  ·obtain⟨e,n,ne,nf,d⟩:=I.pin p q;exact⟨(g.2 p.1 (hp p q)).trans e,n,ne,nf,d⟩
  refine(I.hok b ob e).stay (λc W l q=>(g.2 c ?_).trans q) aA λ_ _ q=>q;rintro rfl;rcases l with rfl|l
  ·rw[Z]at e;cases e
  rw[Z]at l;cases l
 rcases D with hk|hk
 ·refine wpAny_storeName_local hk hn (λh' a4 g=>R g I.ok.above I.free (λp q=>(I.pin p q).2.2.1) (.inl rfl) ⟨_,a4,λj y G e1 e2 e3=>?_⟩ λy c e=>?_) L
  ·by_cases hj:j=i
   ·subst hj;rw[hi]at e1;cases e1;rw[zaV B]at e2;cases e2;exact⟨u,r,.inl ⟨hk,by simp⟩⟩
   rw[zaN (Ne.symm hj)]at e2;obtain⟨u',r',q⟩:=hl j y G e1 e2 e3;refine⟨u',r',?_⟩;rcases q with⟨k,e⟩|⟨k,c,e,z⟩
   ·refine .inl ⟨k,?_⟩;have:y≠x:=λe=>hj (Up hN e1 (e▸hi));simp[this,e]
   exact .inr ⟨k,c,e,z.sameBut g (cne y c e)⟩
  obtain⟨W,z⟩:=I.cell y c e;exact⟨W,z.sameBut g (cne y c e)⟩
 have a5:X.fn x=true:=by
  rcases Z with z|z
  ·exact z
  rw[z]at hk;cases hk
 obtain⟨c,l⟩:=I.ok.has x (.inl hk);obtain⟨W,z⟩:=I.cell x c l;obtain⟨oc,a0,es⟩:=id z;refine wpAny_storeName_cell I.ok.kind hk l z (λh' O g=>R g (I.ok.cab x c a5 l) (I.freeC x c l) (λp q e=>?_) (.inr l) ⟨m,hn.sameBut g (Ne.symm (cne x c l)),λj y G e1 e2 e3=>?_⟩ λy c' e=>?_)
 ·obtain⟨e',_,_,_,d⟩:=I.pin p q;rw[e,a0]at e';exact d W (by rw[<- zaM e'];exact es)
 ·by_cases hj:j=i
  ·subst hj;rw[hi]at e1;cases e1;rw[zaV B]at e2;cases e2;exact⟨u,r,.inr ⟨.inl hk,c,l,O⟩⟩
  rw[zaN (Ne.symm hj)]at e2;obtain⟨u',r',q⟩:=hl j y G e1 e2 e3;refine⟨u',r',?_⟩;rcases q with q|⟨k,c',e,z'⟩
  ·exact .inl q
  refine .inr ⟨k,c',e,z'.sameBut g ?_⟩;rintro rfl;exact hj (Up hN e1 (I.ok.inj _ _ _ e l▸hi))
 by_cases hcc:c'=c
 ·subst hcc;exact⟨_,O⟩
 obtain⟨w2,z2⟩:=I.cell y c' e;exact⟨w2,z2.sameBut g hcc⟩
def Zv(I:Inv X pn Y H s)(e:X.N.Nodup)(hi:X.N[i]?=some x)(a:Loc X.env.scope x)(r:RelV v u)(h:∀ s',Inv X pn (Y.set i (some v)) H s'->Q () s')(d:X.fn x=true\/X.env.scope.names.lookup x=some .local:=by first|exact .inl rfl|exact .inr rfl|assumption):wpAny M A (storeName X.env x u) Q xs s :=
 X3 I e hi a r (λs' g _=>h s' g) d
def Inv.call'(I:Inv X pn Y H s)(ho:s'.os=s.os)(u:Un (frs X.stack) ch H H' s.heap s'.heap)(a:HOk X.prog X.w H' s'.heap)(g:AllBare s'.gens)(d:∀ b∈ch,(b∈X.ex\/X.s₀.heap.objs.size<=b)/\b≠X.env.locals/\(∀ x c,X.env.cells.lookup x=some c->c≠b)/\∀ p∈X.pn++pn,p.1≠b):Inv X pn Y H' s':=by
 obtain⟨h',g',d',t',o'⟩:=s';have e:o'=s.os:=ho;subst e;exact I.call (g':=g') (t':=t') (d':=d') u a g d
abbrev XK:=Value->Option Addr->Hp->Prop
abbrev St:=List (Option V)
abbrev VK:=V->Hp->Prop
abbrev TE:=St->Hp->VK->Prop
abbrev TT:=St->Hp->(Bool->Hp->Prop)->Prop
abbrev TA:=St->Hp->(List V->Hp->Prop)->Prop
structure Ends where
 nx:St->Hp->Prop
 rt:VK
 bk:St->Hp->Prop:=λ_ _=>False
 ct:St->Hp->Prop:=λ_ _=>False
abbrev TS:=Ends->St->Hp->Prop
def EP(X:Cx)(pn:List (Addr×Obj))(Y:St)(Q:VK)(u:Value)(s':Shared):Prop:=∃v H',Inv X pn Y H' s'/\RelV v u/\Q v H'
def TP(X:Cx)(pn:List (Addr×Obj))(Y:St)(Q:Bool->Hp->Prop)(b:Bool)(s':Shared):Prop:=∃H',Inv X pn Y H' s'/\Q b H'
def AP(X:Cx)(pn:List (Addr×Obj))(Y:St)(Q:List V->Hp->Prop)(us:List Value)(s':Shared):Prop:=∃vs H',Inv X pn Y H' s'/\Vals vs us/\Q vs H'
def SP(X:Cx)(pn:List (Addr×Obj))(D:Ends)(f:Flow)(s':Shared):Prop :=
 match f with
 |.next=>∃σ' H',Inv X pn σ' H' s'/\D.nx σ' H'
 |.brk=>∃σ' H',Inv X pn σ' H' s'/\D.bk σ' H'
 |.cont=>∃σ' H',Inv X pn σ' H' s'/\D.ct σ' H'
 |.ret u=>∃v σ' H',Inv X pn σ' H' s'/\RelV v u/\D.rt v H'
def PE(X:Cx)(e:Expr)(t:TE):Prop :=
 ∀(pn:List (Addr×Obj))(s:Shared)(Y:St)(H:Hp)(Q:VK),Inv X pn Y H s->t Y H Q->wpAny (model X.prog X.w) X.A (eval e X.env) (EP X pn Y Q) X.xe s
def PT(X:Cx)(e:Expr)(t:TT):Prop :=
 ∀(pn:List (Addr×Obj))(s:Shared)(Y:St)(H:Hp)(Q:Bool->Hp->Prop),Inv X pn Y H s->t Y H Q->wpAny (model X.prog X.w) X.A (isTrue e X.env (eval e X.env)) (TP X pn Y Q) X.xe s
def PW(X:Cx)(e:Expr)(t:TT):Prop :=
 ∀(whole:Sem Value)(pn:List (Addr×Obj))(s:Shared)(Y:St)(H:Hp)(Q:Bool->Hp->Prop),Inv X pn Y H s->t Y H Q->wpAny (model X.prog X.w) X.A (isTrue e X.env whole) (TP X pn Y Q) X.xe s
def PW.pt(h:PW X e t):PT X e t:=h _
def PA(X:Cx)(J:List Expr)(t:TA):Prop :=
 ∀(pos:Pos)(pn:List (Addr×Obj))(s:Shared)(Y:St)(H:Hp)(Q:List V->Hp->Prop),Inv X pn Y H s->t Y H Q->wpAny (model X.prog X.w) X.A (spliced (backTo pos (starEach J X.env))) (AP X pn Y Q) X.xe s
def PS(X:Cx)(st:Stmt)(t:TS):Prop :=
 ∀(pn:List (Addr×Obj))(s:Shared)(Y:St)(H:Hp)(D:Ends),Inv X pn Y H s->t D Y H->wpAny (model X.prog X.w) X.A (exec st X.env) (SP X pn D) X.xe s
def PSs(X:Cx)(st:List Stmt)(t:TS):Prop :=
 ∀(pn:List (Addr×Obj))(s:Shared)(Y:St)(H:Hp)(D:Ends),Inv X pn Y H s->t D Y H->wpAny (model X.prog X.w) X.A (execs st X.env) (SP X pn D) X.xe s
def thn{α:Type}{t:Sem α}{Q d:α->Shared->Prop}{xs:Value->Shared->Prop}(h:wpAny M A t Q xs s)(e:∀ a s,Q a s->d a s):wpAny M A t d xs s:=wpAny_mono h e λ_ _ x=>x
def tVar(i:Nat):TE:=λY H Q=>∃v,Y[i]?=some (some v)/\Q v H
def tC(v:V):TE:=λ_ H Q=>Q v H
abbrev D_(x:Str):Prop:=(x==("__debug__" : Str))=false
def uv(D:X.N[i]?=some x)(y:Vis X.env.scope x)(j:autoParam (D_ x) zSd)(k:autoParam ((x==("__classdict__" : Str))=false) zSd):PE X (.Name x pos) (tVar i):=by
 intro pn s Y H Q I h;obtain⟨v,e,h⟩:=h;obtain⟨m,z,hl⟩:=I.loc;obtain⟨u,r,l⟩:=hl i x v D e y;have g:EP X pn Y Q u s:=⟨v,H,I,r,h⟩;rcases l with⟨d,B⟩|⟨d,c,q,a⟩
 ·exact wpAny_Name (wpAny_loadName_local I.ok.kind d z B g) j
 rcases d with d|d
 ·exact wpAny_Name (wpAny_loadName_cell I.ok.kind d q a g) j
 exact wpAny_Name (wpAny_loadName_free I.ok.kind d q a g k) j
def uw {i j pos}:PE X (.Constant (.int i) j pos) (tC (.int i)):=λ_ _ _ H _ I h=>wpAny_Constant_int ⟨.int i,H,I.tok _,⟨_,rfl⟩,h⟩
def z1c {b j pos}:PE X (.Constant (.bool b) j pos) (tC (.bl b)):=λ_ _ _ H _ I h=>Constant_bool ⟨.bl b,H,I,rfl,h⟩
def Ce {j pos}:PE X (.Constant .none j pos) (tC .non):=λ_ _ _ H _ I h=>Constant_none ⟨.non,H,I,rfl,h⟩
def Cb {x j pos}:PE X (.Constant (.str x) j pos) (tC (.str x)):=λ_ _ _ H _ I h=>Calls.Constant_str ⟨.str x,H,I.tok _,⟨_,rfl⟩,h⟩
def Gl(X:Cx)(x:Str):Prop:=X.env.kindOf x=some .globalImplicit
def V5{Y:St}(I:Inv X pn Y H s)(d:Gl X x)(a:X.mg x=some u)(h:Q u s)(e:autoParam (D_ x) zSd):wpAny (model X.prog X.w) X.A (eval (.Name x pos) X.env) Q xs s :=
 Calls.Name_function_global I.ok.kind d (Calls.loadGlobal_global (by rw[I.ok.glob];exact I.mod.glob.keeps I.bk) a h) e
def jc{Y:St}(I:Inv X pn Y H s)(g:Gl X x)(e:X.mg x=none)(a:bootBuiltins x=some u)(h:Q u s)(d:autoParam (x≠"__name__") zSd)(j:autoParam (D_ x) zSd):wpAny (model X.prog X.w) X.A (eval (.Name x pos) X.env) Q xs s:=by
 obtain⟨k,h1,h2⟩:=I.mod.blt;exact Calls.Name_function_global I.ok.kind g (Calls.loadGlobal_builtin (by rw[I.ok.glob];exact I.mod.glob.keeps I.bk) e (by rw[I.ok.blt];exact h1.keeps I.bk) ((h2 x d).trans a) h) j
def Gq(d:Gl X x)(a:X.mg x=some u)(r:RelV v u)(e:autoParam (D_ x) zSd):PE X (.Name x pos) (tC v) :=
 λ_ _ _ H _ I h=>V5 I d a ⟨v,H,I,r,h⟩ e
def Gu(g:Gl X x)(e:X.mg x=none)(a:bootBuiltins x=some u)(r:RelV v u)(d:autoParam (x≠"__name__") zSd)(j:autoParam (D_ x) zSd):PE X (.Name x pos) (tC v) :=
 λ_ _ _ H _ I h=>jc I g e a ⟨v,H,I,r,h⟩ d j
section
variable{a b:Expr}{ta tb:TE}{pos:Pos}
def tB(t:TE):TT:=λY H Q=>t Y H λx H1=>∃c,x=.bl c/\Q c H1
def C4{t:TE}(h:PE X e t)(k:∀ whole,isTrue e X.env whole=(do let v <- whole;standAt e.pos;holding [v] (truthy v)):=by intro _;rfl):PT X e (tB t):=by
 intro pn s Y H Q I j;refine isTrue_plain (thn (h pn s Y H _ I j) λv s1 Zh=>?_) (k _);obtain⟨x,H1,l,a,g⟩:=Zh;obtain⟨d,rfl,q⟩:=g;cases a;exact zdO ⟨H1,l,q⟩
variable{tA tB':TT}{rest:List Expr}
def tAnd(t u:TT):TT:=λY H Q=>t Y H λc H1=>if c=true then u Y H1 Q else Q false H1
def tOr(t u:TT):TT:=λY H Q=>t Y H λc H1=>if c=true then Q true H1 else u Y H1 Q
def tNot(t:TT):TT:=λY H Q=>t Y H λc H1=>Q (!c) H1
def Ga(d:PT X a tA):PW X (.BoolOp .And [a] pos) tA:=by
 intro g pn s Y H Q I h;refine isTrue_and (thn (d pn s Y H Q I h) λc s1 e=>?_);cases c with
 |true=>exact isTrue_and_nil e
 |false=>exact e
def Dx(d:PT X a tA):PW X (.BoolOp .Or [a] pos) tA:=by
 intro g pn s Y H Q I h;refine isTrue_or (thn (d pn s Y H Q I h) λc s1 e=>?_);cases c with
 |false=>exact isTrue_or_nil e
 |true=>exact e
def Dy(k:PT X a tA)(j:PW X (.BoolOp .And (b::rest) pos) tB'):PW X (.BoolOp .And (a::b::rest) pos) (tAnd tA tB'):=by
 intro g pn s Y H Q I h;refine isTrue_and (thn (k pn s Y H _ I h) λc s1 Zh=>?_);obtain⟨H1,e,d⟩:=Zh;cases c with
 |true=>exact j g pn s1 Y H1 Q e d
 |false=>exact⟨H1,e,d⟩
def z0y(k:PT X a tA)(j:PW X (.BoolOp .Or (b::rest) pos) tB'):PW X (.BoolOp .Or (a::b::rest) pos) (tOr tA tB'):=by
 intro g pn s Y H Q I h;refine isTrue_or (thn (k pn s Y H _ I h) λc s1 Zh=>?_);obtain⟨H1,e,d⟩:=Zh;cases c with
 |true=>exact⟨H1,e,d⟩
 |false=>exact j g pn s1 Y H1 Q e d
def C5(d:PT X a tA):PT X (.UnaryOp .Not a pos) (tNot tA):=by
 intro pn s Y H Q I h;exact isTrue_not (d pn s Y H (λc H1=>Q (!c) H1) I h)
def z0s(ta tb:TE):TE:=λY H Q=>ta Y H λx H1=>∃c,x=.bl c/\if c=true then tb Y H1 Q else Q (.bl false) H1
def z0l(ta:TE):TE:=λY H Q=>ta Y H λx H1=>∃c,x=.bl c/\Q (.bl (!c)) H1
def Cc {op} (h:PE X a t):PE X (.BoolOp op [a] pos) t:=λpn s Y H Q I d=>BoolOp_one (h pn s Y H Q I d)
def Cf(k:PE X a ta)(j:PE X (.BoolOp .And (b::rest) pos) tb):PE X (.BoolOp .And (a::b::rest) pos) (z0s ta tb):=by
 intro pn s Y H Q I h;refine BoolOp_and (thn (k pn s Y H _ I h) λv s1 Zh=>?_);obtain⟨x,H1,e,g,d⟩:=Zh;obtain⟨c,rfl,d⟩:=d;cases g;refine zdO ?_;cases c with
 |true=>exact j pn s1 Y H1 Q e d
 |false=>exact⟨.bl false,H1,e,rfl,d⟩
def Cd(g:PE X a ta):PE X (.UnaryOp .Not a pos) (z0l ta):=by
 intro pn s Y H Q I h;refine UnaryOp_ (thn (g pn s Y H _ I h) λv s1 Zh=>?_);obtain⟨x,H1,j,e,d⟩:=Zh;obtain⟨c,rfl,d⟩:=d;cases e;exact not_of (zdO ⟨.bl (!c),H1,j,rfl,d⟩)
def tIf(t:TT)(ta tb:TE):TE:=λY H Q=>t Y H λc H1=>if c=true then ta Y H1 Q else tb Y H1 Q
def Mg(j:PT X c tA)(l:PE X a ta)(k:PE X b tb):PE X (.IfExp c a b pos) (tIf tA ta tb):=by
 intro pn s Y H Q I h;refine wpAny_IfExp (thn (j pn s Y H _ I h) λd s1 Zh=>?_);obtain⟨H1,g,e⟩:=Zh;cases d with
 |true=>exact l pn s1 Y H1 Q g e
 |false=>exact k pn s1 Y H1 Q g e
end
def SqL(K:W.Frag)(H:Hp)(a:Addr)(E:List V):Prop :=
 Rd H a (.lst E) \/
  ∃(o:Obj)(its:Array Value)(n:Nat),K.lookup a=some o/\o.cls=.type "list"/\o.dict=none/\o.data=.seq its n/\its.size<=sizeLine/\Vals E its.toList
def SqT(K:W.Frag)(H:Hp)(a:Addr)(E:List V):Prop :=
 Rd H a (.tup E) \/
  ∃(o:Obj)(its:Array Value)(n:Nat),K.lookup a=some o/\o.cls=.type "tuple"/\o.data=.seq its n/\its.size<=sizeLine/\Vals E its.toList
noncomputable def absV:Value->Option V
 |.none=>some .non
 |.bool b=>some (.bl b)
 |.int i _=>some (.int i)
 |.str x _=>some (.str x)
 |.bytes b _=>some (.byt b)
 |.float b _=>some (.flt b)
 |.ref a=>some (.ref a)
 |.type n=>some (.ty n)
 |_=>none
def RelV.abs(r:RelV x u):absV u=some x:=by
 cases x with
 |non=>cases r;rfl
 |bl _=>cases r;rfl
 |int _=>obtain⟨t,rfl⟩:=r;rfl
 |str _=>obtain⟨t,rfl⟩:=r;rfl
 |byt _=>obtain⟨t,rfl⟩:=r;rfl
 |flt _=>obtain⟨t,rfl⟩:=r;rfl
 |ref _=>cases r;rfl
 |ty _=>cases r;rfl
theorem RelV.inj(r:RelV x u)(q:RelV y u):x=y:=zaM (r.abs.symm.trans q.abs)
theorem Vals.inj:∀{E ys:List V}{us:List Value},Vals E us->Vals ys us->E=ys
 |_,_,_,.nil,.nil=>rfl
 |_,_,_,.cons r t,.cons r' t'=>by rw[r.inj r',Vals.inj t t']
variable{Y:St}{E ys:List V}
def SqL.of{K:W.Frag}(h:H a=some (.lst E)):SqL K H a E:=.inl (.inl h)
def SqT.of{K:W.Frag}(h:H a=some (.tup E)):SqT K H a E:=.inl (.inl h)
def Inv.list(I:Inv X pn Y H s)(h:SqL X.K H a E):∃its:List Value,Vals E its/\PlainL s.heap a its.toArray/\E.length<=sizeLine:=by
 rcases h with h|⟨o,its,n,hk,hc,hd,hs,hz,r⟩
 ·obtain⟨z,its,n,r,e⟩:=h.ok I.hok;exact⟨its,r,⟨_,n,e,rfl,rfl,rfl⟩,z⟩
 refine⟨its.toList,r,⟨o,n,I.kIn a o hk,hc,hd,by simpa using hs⟩,?_⟩
 have e:=r.length;simp only[zeJ]at e;lia
def Inv.tuple(I:Inv X pn Y H s)(h:SqT X.K H a E):∃its:List Value,Vals E its/\IsTup s.heap a its.toArray/\E.length<=sizeLine:=by
 rcases h with h|⟨o,its,n,hk,hc,hs,hz,r⟩
 ·obtain⟨z,its,r,p⟩:=h.ok I.hok;exact⟨its,r,p.1,z⟩
 refine⟨its.toList,r,⟨o,I.kIn a o hk,hc,n,by simpa using hs⟩,?_⟩
 have e:=r.length;simp only[zeJ]at e;lia
def Inv.list_inj(I:Inv X pn Y H s)(h:SqL X.K H a E)(h':SqL X.K H a ys):E=ys:=by
 obtain⟨its,r,⟨o,n,e,_,_,d⟩,_⟩:=I.list h;obtain⟨its',j,⟨o',k,g,_,_,d'⟩,_⟩:=I.list h';rw[e]at g;cases g;rw[d]at d'
 injection d' with d1 _
 have:its=its':=by simpa using zbP Array.toList d1
 subst this;exact r.inj j
def Inv.tuple_inj(I:Inv X pn Y H s)(h:SqT X.K H a E)(h':SqT X.K H a ys):E=ys:=by
 obtain⟨its,r,⟨o,e,_,n,d⟩,_⟩:=I.tuple h;obtain⟨its',j,⟨o',g,_,k,d'⟩,_⟩:=I.tuple h';rw[e]at g;cases g;rw[d]at d'
 injection d' with d1 _
 have:its=its':=by simpa using zbP Array.toList d1
 subst this;exact r.inj j
noncomputable abbrev Cx.wish(X:Cx)(xs:Value->Shared->Prop):Cx:={X with xe:=xs}
noncomputable abbrev Cx.nox(X:Cx):Cx:=X.wish λ_ _=>False
theorem Cx.Ok.wish{X:Cx}(ok:X.Ok)(xs:Value->Shared->Prop):(X.wish xs).Ok :=
 ⟨ok.mod,ok.kind,ok.glob,ok.blt,ok.above,ok.inj,ok.has,ok.cab,ok.hd,ok.frames,ok.stk,ok.exf,ok.bs,ok.bsz,ok.noex,ok.exfs,ok.funs,ok.frf⟩
def Cx.Ok.unwish{X:Cx}{xs:Value->Shared->Prop}(ok:(X.wish xs).Ok):X.Ok :=
 ⟨ok.mod,ok.kind,ok.glob,ok.blt,ok.above,ok.inj,ok.has,ok.cab,ok.hd,ok.frames,ok.stk,ok.exf,ok.bs,ok.bsz,ok.noex,ok.exfs,ok.funs,ok.frf⟩
variable{xs:Value->Shared->Prop}
theorem Inv.wish(I:Inv X pn Y H s)(xs:Value->Shared->Prop):Inv (X.wish xs) pn Y H s:=⟨I.ok.wish xs,I.os,I.bare,I.base,I.loc,I.cell,I.free,I.freeC,I.pin,I.hok,I.len⟩
theorem Inv.unwish(I:Inv (X.wish xs) pn Y H s):Inv X pn Y H s:=⟨I.ok.unwish,I.os,I.bare,I.base,I.loc,I.cell,I.free,I.freeC,I.pin,I.hok,I.len⟩
theorem SP.unwish{D:Ends}(h:SP (X.wish xs) pn D f s'):SP X pn D f s':=by
 cases f with
 |next=>obtain⟨a,H',I,q⟩:=h;exact⟨a,H',I.unwish,q⟩
 |brk=>obtain⟨a,H',I,q⟩:=h;exact⟨a,H',I.unwish,q⟩
 |cont=>obtain⟨a,H',I,q⟩:=h;exact⟨a,H',I.unwish,q⟩
 |ret u=>obtain⟨v,a,H',I,r,q⟩:=h;exact⟨v,a,H',I.unwish,r,q⟩
theorem PSs.nox{st:List Stmt}{t:TS}(h:PSs X.nox st t):PSs X st t:=λpn s Y H D I a =>
 wpAny_mono (h pn s Y H D (I.wish _) a) (λ_ _ q=>q.unwish) λ_ _ z=>False.elim z
section
variable{st:Stmt}{rest:List Stmt}{t u:TS}{e:Expr}{te:TE}{pos:Pos}
def z0m:TS:=λD Y H=>D.nx Y H
def tSeq(t u:TS):TS:=λD Y H=>t {D with nx:=u D} Y H
def Y4:PSs X [] z0m:=λ_ _ Y H _ I h=>zfT ⟨Y,H,I,h⟩
def vh(h1:PS X st t)(h2:PSs X rest u):PSs X (st::rest) (tSeq t u):=by
 intro pn s Y H D I h;refine wpAny_execs_cons (thn (h1 pn s Y H {D with nx:=u D} I h) λf s1 q=>?_);cases f with
 |next =>
  obtain⟨a,H',d,q⟩:=q;exact h2 pn s1 a H' D d q
 |ret v=>exact q
 |brk=>exact q
 |cont=>exact q
def qt(h1:PS X st t):PSs X [st] t:=by
 intro pn s Y H D I h;refine wpAny_execs_cons (thn (h1 pn s Y H D I h) λf s1 q=>?_);cases f with
 |next=>exact zfT q
 |ret v=>exact q
 |brk=>exact q
 |cont=>exact q
def z0q:TS:=λD Y H=>D.ct Y H
def Wy:PS X (.Continue pos) z0q:=λ_ _ Y H _ I h=>wpAny_Continue ⟨Y,H,I,h⟩
def Inv.quiet(I:Inv X pn Y H s):interactive X.env=false:=by simp[interactive,I.ok.kind]
def Tv(te:TE):TS:=λD Y H=>te Y H λ_ H1=>D.nx Y H1
def qu(g:PE X e te)(d:autoParam (swapsWith e none pos.line X.env=pure false) zSr):PS X (.Expr e pos) (Tv te):=by
 intro pn s Y H D I h;exact wpAny_Expr_any (thn (g pn s Y H _ I h) λv s1 ⟨x,H1,j,k,a⟩=>⟨Y,H1,j,a⟩) I.quiet d
def tRet(te:TE):TS:=λD Y H=>te Y H D.rt
def Z9(g:PE X e te):PS X (.Return (some e) pos) (tRet te):=by
 intro pn s Y H D I h;exact wpAny_Return_some (thn (g pn s Y H _ I h) λv s1 ⟨x,H1,j,a,d⟩=>⟨x,Y,H1,j,a,d⟩)
def z0h:TS:=λD _ H=>D.rt .non H
def Gc:PS X (.Return none pos) z0h:=λ_ _ Y H _ I h=>wpAny_Return_none ⟨.non,Y,H,I,rfl,h⟩
def tIfS(c:TT)(t u:TS):TS:=λD Y H=>c Y H λb H1=>if b=true then t D Y H1 else u D Y H1
def Mc{a b:List Stmt}{tc:TT}(j:PT X c tc)(l:PSs X a t)(k:PSs X b u):PS X (.If c a b pos) (tIfS tc t u):=by
 intro pn s Y H D I h;refine wpAny_If (thn (j pn s Y H _ I h) λd s1 Zh=>?_);obtain⟨H1,g,e⟩:=Zh;cases d with
 |true=>exact l pn s1 Y H1 D g e
 |false=>exact k pn s1 Y H1 D g e
def Eu:TS:=λ_ _ _=>False
def Mb:PS X st Eu:=λ_ _ _ _ _ _ h=>h.elim
end
abbrev TG:=V->St->Hp->(St->Hp->Prop)->Prop
abbrev TGs:=List V->St->Hp->(St->Hp->Prop)->Prop
def PG(X:Cx)(a:Expr)(t:TG):Prop :=
 ∀(pn:List (Addr×Obj))(s:Shared)(Y:St)(H:Hp)(v:V)(u:Value)(Q:St->Hp->Prop),Inv X pn Y H s->RelV v u->t v Y H Q ->
  wpAny (model X.prog X.w) X.A (assign a X.env u) (λ_ s'=>∃σ' H',Inv X pn σ' H' s'/\Q σ' H') X.xe s
def PGs(X:Cx)(ts:List Expr)(t:TGs):Prop :=
 ∀(pn:List (Addr×Obj))(s:Shared)(Y:St)(H:Hp)(vs:List V)(us:List Value)(Q:St->Hp->Prop),Inv X pn Y H s->Vals vs us->t vs Y H Q ->
  wpAny (model X.prog X.w) X.A (assignInOrder ((assignEach ts X.env).map (·.2)) us) (λ_ s'=>∃σ' H',Inv X pn σ' H' s'/\Q σ' H') X.xe s
abbrev TSet:=V->V->V->Hp->(Hp->Prop)->Prop
def PSet(X:Cx)(t:TSet):Prop :=
 ∀(pn:List (Addr×Obj))(s:Shared)(Y:St)(H:Hp)(o i v:V)(ov iv u:Value)(Q:Hp->Prop),Inv X pn Y H s->RelV o ov->RelV i iv->RelV v u->t o i v H Q ->
  wpAny (model X.prog X.w) X.A (setItem ov iv u) (λ_ s'=>∃H',Inv X pn Y H' s'/\Q H') X.xe s
abbrev TIp:=V->V->Hp->VK->Prop
def PIp(X:Cx)(a:Operator)(t:TIp):Prop :=
 ∀(pn:List (Addr×Obj))(s:Shared)(Y:St)(H:Hp)(x y:V)(v u:Value)(Q:VK),Inv X pn Y H s->RelV x v->RelV y u->t x y H Q ->
  wpAny (model X.prog X.w) X.A (inplaceOp a v u) (EP X pn Y Q) X.xe s
section
variable{pos:Pos}
def u9(i:Nat):TG:=λv Y H Q=>Q (Y.set i (some v)) H
def zn(e:X.N.Nodup)(hi:X.N[i]?=some x)(a:Loc X.env.scope x)(d:X.fn x=true\/X.env.scope.names.lookup x=some .local:=by first|exact .inl rfl|exact .inr rfl|assumption):PG X (.Name x pos) (u9 i):=by
 intro pn s Y H v u Q I r h;exact wpAny_assign_Name (Zv I e hi a r (λs' g=>⟨_,H,g,h⟩) d)
def gNil:TGs:=λvs Y H Q=>vs=[]/\Q Y H
def uz(t:TG)(u:TGs):TGs:=λvs Y H Q=>∃v r,vs=v::r/\t v Y H λa H'=>u r a H' Q
def ud:PGs X [] gNil:=by
 intro pn s Y H vs us Q I r h;obtain⟨e,h⟩:=h;subst e;cases r;exact assignInOrder_nil ⟨Y,H,I,h⟩
def yd(h1:PG X e t)(h2:PGs X J u)(g:autoParam ((assignEach (e::J) X.env).map (·.2)=assign e X.env::(assignEach J X.env).map (·.2)) zSr):PGs X (e::J) (uz t u):=by
 intro pn s Y H vs us Q I r h;obtain⟨v,vr,e1,h⟩:=h;subst e1;cases r with
 |cons r rr =>
  rw[g];refine assignInOrder_cons (thn (h1 pn s Y H _ _ _ I r h) λ_ s1 Zh=>?_);obtain⟨a,H1,j,d⟩:=Zh;exact h2 pn s1 a H1 _ _ Q j rr d
def gTup(K:W.Frag)(n:Nat)(t:TGs):TG:=λv Y H Q=>∃a E,v=.ref a/\SqT K H a E/\E.length=n/\t E Y H Q
def Ca(z:X.calm=true)(h:PGs X J t)(y:autoParam ((assignEach J X.env).length=n) zSr)(g:autoParam ((assignEach J X.env).findIdx? (·.1)=none) zSr):PG X (.Tuple J k pos) (gTup X.K n t):=by
 intro pn s Y H v u Q I r d;obtain⟨a,E,e1,x,hl,d⟩:=d;subst e1;cases r;obtain⟨its,j,q,D⟩:=I.tuple x;refine assign_Tuple_tuple (I.ok.hd z) q (by simp[y,<- hl,j.length]) g λh' l=>?_
 have B:Inv X pn Y H {s with heap:=h'}:=I.kept (t':=s.toks) λb o e=>l b o (zaT (zae e)) e;exact h pn _ Y H E _ Q B (by simpa using j) d
def gSub(to ti:TE)(t:TSet):TG:=λv Y H Q=>to Y H λo H1=>ti Y H1 λi H2=>t o i v H2 λa=>Q Y a
def Qq{o i:Expr}{to ti:TE}(ho:PE X o to)(hi:PE X i ti)(q:PSet X t)(z:∀ v,assign (.Subscript o i pos) X.env v=(do
   let a <- holding [v] (eval o X.env)
   let d <- holding [v,a] (eval i X.env)
   standAt pos
   holding [v,a,d] (setItem a d v)
   release [v,a,d] []):=by intro _;rfl):PG X (.Subscript o i pos) (gSub to ti t):=by
 intro pn s Y H v u Q I r h;rw[z];refine zaa (zbF (thn (ho pn s Y H _ I h) λa s1 Zh=>?_));obtain⟨x,H1,G,g,l⟩:=Zh;refine zaa (zbF (thn (hi pn s1 Y H1 _ G l) λd s2 Zh=>?_));obtain⟨y,H2,D,e,k⟩:=Zh;refine zaa (wpAny_standAt (zaa (zbF (thn (q pn s2 Y H2 x y v a d u _ D g e r k) λ_ L Zh=>?_))));obtain⟨es,B,j⟩:=Zh;exact wpAny_release ⟨Y,es,B,j⟩
def tAsg(te:TE)(g:TG):TS:=λD Y H=>te Y H λx H1=>g x Y H1 D.nx
def Xe{tg e:Expr}{te:TE}(r:PE X e te)(l:PG X tg g)(k:autoParam (swapsWithSole [tg] e pos.line X.env=pure false) zSr)(j:autoParam (swappedStores [tg] e X.env=pure none) zSr)(h1:autoParam ((assignEach [tg] X.env).map (·.2)=[assign tg X.env]) zSr):PS X (.Assign [tg] e pos) (tAsg te g):=by
 intro pn s Y H D I h;refine wpAny_Assign_stores (thn (r pn s Y H _ I h) λv s1 Zh=>?_) k j;obtain⟨x,H1,u,a,d⟩:=Zh;rw[h1];exact thn (l pn s1 Y H1 x v _ u a d) λ_ s2 q=>q
def gf{i:Nat}{x:Str}{te:TE}(q:X.N.Nodup)(hi:X.N[i]?=some x)(g:Loc X.env.scope x)(l:PE X e te)(j:autoParam (swapsWith e (some (.Name x pos')) pos.line X.env=pure false) zSr)(k:X.fn x=true\/X.env.scope.names.lookup x=some .local:=by first|exact .inl rfl|exact .inr rfl|assumption) :
  PS X (.Assign [.Name x pos'] e pos) (tAsg te (u9 i)):=by
 intro pn s Y H D I h;refine wpAny_Assign_Name (thn (l pn s Y H _ I h) λv s1 Zh=>?_) j;obtain⟨y,H1,u,a,d⟩:=Zh;exact Zv u q hi g a (λs2 r=>⟨_,H1,r,d⟩) k
def tAug(i:Nat)(te:TE)(ti:TIp):TS:=λD Y H=>∃x,Y[i]?=some (some x)/\te Y H λy H1=>ti x y H1 λz H2=>D.nx (Y.set i (some z)) H2
def C7{i:Nat}{x:Str}{te:TE}(hN:X.N.Nodup)(hi:X.N[i]?=some x)(B:Loc X.env.scope x)(W:PE X e te)(ho:PIp X op ti)(V:X.fn x=true\/X.env.scope.names.lookup x=some .local:=by first|exact .inl rfl|exact .inr rfl|assumption) :
  PS X (.AugAssign (.Name x pos') op e pos) (tAug i te ti):=by
 intro pn s Y H D I h;obtain⟨v,e1,h⟩:=h;obtain⟨m,Q,hl⟩:=I.loc;have q:Vis X.env.scope x:=by rcases B with k|k;exact .inl k;exact .inr (.inl k)
 obtain⟨u,r,l⟩:=hl i x v hi e1 q;refine wpAny_AugAssign_Name ?_;have go:wpAny (model X.prog X.w) X.A (eval e X.env) (λw j=>wpAny (model X.prog X.w) X.A (inplaceOp op u w) (λr g=>wpAny (model X.prog X.w) X.A (storeName X.env x r) (λ_=>SP X pn D .next) X.xe g) X.xe j) X.xe s:=by
  refine thn (W pn s Y H _ I h) λw s1 Zh=>?_;obtain⟨y,H1,I1,es,O⟩:=Zh;refine thn (ho pn s1 Y H1 v y u w _ I1 r es O) λz s2 Zh=>?_;obtain⟨zv,H2,I2,G,L⟩:=Zh;exact Zv I2 hN hi B G (λs3 I3=>⟨_,H2,I3,L⟩) V
 rcases l with⟨a,R⟩|⟨a,c,Z,d⟩
 ·exact wpAny_loadName_local I.ok.kind a Q R go
 rcases a with a|a
 ·exact wpAny_loadName_cell I.ok.kind a Z d go
 rcases B with k|k
 ·have:X.env.scope.names.lookup x=some .free:=a;rw[k]at this;cases this
 have:X.env.scope.names.lookup x=some .free:=a;rw[k]at this;cases this
def ipI(f:Int->Int->Int):TIp:=λx y H Q=>∃i j,x=.int i/\y=.int j/\Q (.int (f i j)) H
def Br:PIp X .Add (ipI λi j=>i+j):=by
 intro pn s Y H x y v u Q I d a h;obtain⟨i,j,e1,e2,q⟩:=h;subst e1;subst e2;obtain⟨t,rfl⟩:=d;obtain⟨t',rfl⟩:=a;exact iadd_int ⟨.int _,H,I.tok _,⟨_,rfl⟩,q⟩
def En(c:TT)(tb:TS):TS:=λD Y H=>∃W:Nat->St->Hp->Prop,(∃m,W m Y H)/\∀m Y H,W m Y H ->
 c Y H λb H1=>if b=true then ∃N:St->Hp->Prop,(∀σ' H',N σ' H'->∃m',m'<m/\W m' σ' H')/\tb {D with nx:=N,ct:=N,bk:=D.nx} Y H1 else D.nx Y H1
def Ui{tc:TT}{tb:TS}(y:PassesOwn (model X.prog X.w) X.A X.env X.xe)(L:PT X c tc)(O:PSs X body tb):PS X (.While c body [] pos) (En tc tb):=by
 intro pn s Y H D I h;obtain⟨W,⟨es,G⟩,e⟩:=h;refine wpAny_While (codeAny_whileLoop (λn s'=>∃σ' H',Inv X pn σ' H' s'/\W n σ' H') ?_ es ⟨Y,H,I,G⟩);rintro n s1 ⟨d,H1,Q,w1⟩;refine zdP y (thn (L pn s1 d H1 _ Q (e n d H1 w1)) λb s2 Zh=>?_);obtain⟨H2,B,k⟩:=Zh;cases b with
 |true =>
  obtain⟨N,z,k⟩:=k;rw[zaK rfl];refine zdP y (thn (O pn s2 d H2 _ B k) λf R j=>?_);cases f with
  |next =>
   obtain⟨a,g,x,q⟩:=j;obtain⟨r,u,l⟩:=z a g q;exact⟨r,u,a,g,x,l⟩
  |cont =>
   obtain⟨a,g,x,q⟩:=j;obtain⟨r,u,l⟩:=z a g q;exact⟨r,u,a,g,x,l⟩
  |brk=>exact j
  |ret v=>exact j
 |false =>
  rw[zaJ zaU];exact zfT ⟨d,H2,B,k⟩
end
structure It where
 go:Nat->Hp->Prop
 yld:Nat->Hp->V->Hp->Prop
 stop:Nat->Hp->Prop
def FpOk(X:Cx)(pn:List (Addr×Obj))(H:Hp)(b:Addr):Prop :=
 H b=none/\b≠X.env.locals/\b∉X.fs/\(b∈X.ex\/X.s₀.heap.objs.size<=b)/\(∀x c,X.env.cells.lookup x=some c->c≠b)/\∀p∈X.pn++pn,p.1≠b
def Inv.fpOk(I:Inv X pn Y H s)(a:s.heap.objs.size<=b)(g:H' b=none):FpOk X pn H' b:=by
 refine⟨g,zcC (zaR I.lt a),I.nofs a,.inr (zak I.sz a),λx c e z=>?_,λp d z=>?_⟩
 ·obtain⟨v,q⟩:=I.cell x c e;exact absurd (zaR q.lt (by rw[z];exact a)) (zbT _)
 exact absurd (zaR (zae (I.pin p d).1) (by rw[z];exact a)) (zbT _)
structure Turn(P:Program)(w:World)(K:W.Frag)(tg:Expr)(es:It)(fp:List Addr)(it:Addr)(tn:Nat->Heap->Prop):Prop where
 mem:it∈fp
 obj:∀i h,tn i h->∀b∈fp,∃o,h.get? b=some o/\∀v,o.data≠.cell v
 keep:∀i h h',tn i h->(∀b∈fp,∀o,h.get? b=some o->h'.get? b=some o)->tn i h'
 item:∀(X:Cx),X.prog=P->X.w=w->X.K=K->X.calm=true->∀(i:Nat)(pn:List (Addr×Obj))(s:Shared)(Y:St)(H:Hp)(xs:Value->Shared->Prop),Inv X pn Y H s->(∀b∈fp,FpOk X pn H b)->tn i s.heap->es.go i H ->
  wpAny (model P w) X.A (pyNext (.ref it)) (λr s1=>∃u,r=some u /\
   wpAny (model P w) X.A (letOwnedTupleGo tg (.ref it) u) (λ_ s2=>∃x H',Inv X pn Y H' s2/\RelV x u/\es.yld i H x H'/\tn (i+1) s2.heap/\∀b∈fp,H' b=none) xs s1) xs s
 done:∀(X:Cx),X.prog=P->X.w=w->X.K=K->X.calm=true->∀(i:Nat)(pn:List (Addr×Obj))(s:Shared)(Y:St)(H:Hp)(xs:Value->Shared->Prop),Inv X pn Y H s->(∀b∈fp,FpOk X pn H b)->tn i s.heap->es.stop i H ->
  wpAny (model P w) X.A (pyNext (.ref it)) (λr s1=>r=none/\Inv X pn Y H s1) xs s
 self:∀(A:Around)(i:Nat)(s:Shared)(Q:Value->Shared->Prop)(xs:Value->Shared->Prop),tn i s.heap->Q (.ref it) s->wpAny (model P w) A (pyIter (.ref it)) Q xs s
abbrev TI:=St->Hp->(It->Hp->Prop)->Prop
def PIE(X:Cx)(pn:List (Addr×Obj))(Y:St)(tg:Expr)(R:It->Hp->Prop)(a:Value)(s2:Shared):Prop :=
 ∃(it:Addr)(fp:List Addr)(tn:Nat->Heap->Prop)(es:It)(H':Hp),a=.ref it/\Inv X pn Y H' s2/\Turn X.prog X.w X.K tg es fp it tn/\tn 0 s2.heap/\(∀b∈fp,FpOk X pn H' b)/\R es H'
def PI(X:Cx)(tg iter:Expr)(a:TI):Prop :=
 ∀(pn:List (Addr×Obj))(s:Shared)(Y:St)(H:Hp)(R:It->Hp->Prop),Inv X pn Y H s->a Y H R ->
  wpAny (model X.prog X.w) X.A (eval iter X.env) (λv s1=>wpAny (model X.prog X.w) X.A (pyIter v) (PIE X pn Y tg R) X.xe s1) X.xe s
def Pw{tg:Expr}{o:Obj}(ho:s.heap.get? it=some o)(g:o.cls=.type n)(e:o.data=.fields vs)(d:["enumerate","zip","dict_itemiterator","dict_reverseitemiterator","odict_iterator","itertools.zip_longest","itertools.pairwise"].contains n=false)(a:Q () s):wpAny M A (letOwnedTupleGo tg (.ref it) u) Q xs s:=by
 unfold letOwnedTupleGo;cases tg <;> first
  |exact zab a
  | (cases u <;> first
    |exact zab a
    | (refine zaa (wpAny_load ho ?_)
       rw[g,e];show wpAny M A (if (["enumerate","zip","dict_itemiterator","dict_reverseitemiterator","odict_iterator","itertools.zip_longest","itertools.pairwise"].contains n&&vs[0]?==some (rawInt _))=true then _ else _) Q xs s
       rw[zaJ (by intro h;rw[d,Bool.false_and]at h;cases h)]
       exact zab a))
noncomputable def Itl(K:W.Frag)(a:Addr):It :=
 ⟨λi H=>∃E x,SqL K H a E/\E[i]?=some x,λi H x H'=>H'=H/\∀E,SqL K H a E->E[i]?=some x,λi H=>∃E,SqL K H a E/\E.length<=i⟩
noncomputable def Itt(K:W.Frag)(a:Addr):It :=
 ⟨λi H=>∃E x,SqT K H a E/\E[i]?=some x,λi H x H'=>H'=H/\∀E,SqT K H a E->E[i]?=some x,λi H=>∃E,SqT K H a E/\E.length<=i⟩
noncomputable def Itr(lo:Int)(n:Nat):It:=⟨λi _=>i<n,λi H x H'=>H'=H/\x=.int (lo+i),λi _=>n<=i⟩
def Rl{P:Program}{w:World}{K:W.Frag}{tg:Expr}(a it:Addr):Turn P w K tg (Itl K a) [it] it (λi h=>h.IsListIter it a i) where
 mem:=by simp
 obj:=λi h st b g=>by
  have e:b=it:=by simpa using g
  subst e;obtain⟨o,e,c,d⟩:=st;exact⟨o,e,λv z=>by rw[d]at z;cases z⟩
 keep:=λi h h' st k=>st.at λo e=>k it aE o e
 item:=by
  intro X G B es V i pn s Y H xs I q st D;subst G B es;obtain⟨E,x,l,y⟩:=D;obtain⟨its,r,p,hz⟩:=I.list l;obtain⟨u,hu,ru⟩:=r.get y;obtain⟨R,Q,f2,O,N,L⟩:=q it aE
  refine wpAny_pyNext_list_item st p.isList (x:=u) (by simpa using hu) λh' j Z=>?_
  have I1:Inv X pn Y H {s with heap:=h'}:=I.turned (t':=s.toks) (λb o g e=>(Z.2 b g).trans e) R Q O N L;obtain⟨o,e,c,d⟩:=id j;exact⟨u,rfl,Pw (s:={s with heap:=h'}) e c d aB ⟨x,H,I1,ru,⟨rfl,λys hy=>by rw[I.list_inj hy l];exact y⟩,j,λb g=>(q b g).1⟩⟩
 done:=by
  intro X G B es V i pn s Y H xs I q st D;subst G B es;obtain⟨E,l,y⟩:=D;obtain⟨its,r,p,hz⟩:=I.list l;obtain⟨R,Q,f2,O,N,L⟩:=q it aE
  have hl:=r.length;exact wpAny_pyNext_list_end (I.ok.hd V) st p.isList (by simp;lia) λh' eb=>⟨rfl,I.turned (t':=s.toks) (λb o g e=>eb b o g e) R Q O N L⟩
 self:=λ_ _ _ _ _ st h=>wpAny_pyIter_listiter st h
def Tq{P:Program}{w:World}{K:W.Frag}{tg:Expr}(a it:Addr):Turn P w K tg (Itt K a) [it] it (λi h=>h.IsTupleIter it a i) where
 mem:=by simp
 obj:=λi h st b g=>by
  have e:b=it:=by simpa using g
  subst e;obtain⟨o,e,c,d⟩:=st;exact⟨o,e,λv z=>by rw[d]at z;cases z⟩
 keep:=λi h h' st k=>st.at λo e=>k it aE o e
 item:=by
  intro X G B es V i pn s Y H xs I q st D;subst G B es;obtain⟨E,x,l,y⟩:=D;obtain⟨its,r,p,hz⟩:=I.tuple l;obtain⟨u,hu,ru⟩:=r.get y;obtain⟨R,Q,f2,O,N,L⟩:=q it aE
  refine wpAny_pyNext_tuple_item st (show s.heap.IsTuple a its.toArray from p) (x:=u) (by simpa using hu) λh' j Z=>?_
  have I1:Inv X pn Y H {s with heap:=h'}:=I.turned (t':=s.toks) (λb o g e=>(Z.2 b g).trans e) R Q O N L;obtain⟨o,e,c,d⟩:=id j;exact⟨u,rfl,Pw (s:={s with heap:=h'}) e c d aB ⟨x,H,I1,ru,⟨rfl,λys hy=>by rw[I.tuple_inj hy l];exact y⟩,j,λb g=>(q b g).1⟩⟩
 done:=by
  intro X G B es V i pn s Y H xs I q st D;subst G B es;obtain⟨E,l,y⟩:=D;obtain⟨its,r,p,hz⟩:=I.tuple l;obtain⟨R,Q,f2,O,N,L⟩:=q it aE
  have hl:=r.length;exact wpAny_pyNext_tuple_end (I.ok.hd V) st (show s.heap.IsTuple a its.toArray from p) (by simp;lia) λh' eb=>⟨rfl,I.turned (t':=s.toks) (λb o g e=>eb b o g e) R Q O N L⟩
 self:=λ_ _ _ _ _ st h=>wpAny_pyIter_tupleiter st h
def Ts{P:Program}{w:World}{K:W.Frag}{tg:Expr}(it:Addr)(lo:Int)(n:Nat):Turn P w K tg (Itr lo n) [it] it (λi h=>IsRangeIter h it (lo+(i:Nat)*1) ((n:Int)-(i:Nat)) 1) where
 mem:=by simp
 obj:=λi h st b a=>by
  have e:b=it:=by simpa using a
  subst e;exact⟨_,st,λv z=>by
   have es:Data.fields _=Data.cell v:=z;cases es⟩
 keep:=λi h h' st k=>k it aE _ st
 item:=by
  intro X r j u q i pn s Y H xs I g st l;subst r j u;obtain⟨G,D,O,B,y,x⟩:=g it aE
  have W:=Walks.range (prog:=X.prog) (w:=X.w) (I.ok.hd q) it lo 1 n;refine W.item i s _ _ l st λv h' tk N d L=>?_;obtain⟨t,rfl⟩:=N;have R:Inv X pn Y H {s with heap:=h',toks:=tk}:=I.turned (λb o a e=>L b o (by simpa using a) e) G D B y x
  refine⟨_,rfl,Pw (s:={s with heap:=h',toks:=tk}) (n:="range_iterator") d rfl rfl aB ⟨.int (lo+i),H,R,⟨t,?_⟩,⟨rfl,rfl⟩,d,λb a=>(g b a).1⟩⟩
  rw[Int.mul_one]
 done:=by
  intro X r j u q i pn s Y H xs I g st l;subst r j u;obtain⟨G,D,O,B,y,x⟩:=g it aE
  exact wpAny_pyNext_range_end (I.ok.hd q) st (by have:n<=i:=l;lia) λh' Q=>⟨rfl,I.turned (t':=s.toks) (λb o a e=>Q b o a e) G D B y x⟩
 self:=λ_ _ _ _ _ st h=>wpAny_pyIter_rangeiter st h
section
variable{tg:Expr}
def Ub{H:Hp}{R:It->Hp->Prop}{xs:Value->Shared->Prop}{lo hi:Int}{tk:Nat}(I:Inv X pn Y H s)(h1:-(2 ^ 62)<=lo)(h2:lo<2 ^ 62)(j:-(2 ^ 62)<=hi)(g:hi<2 ^ 62)(q:R (Itr lo (hi-lo).toNat) H):wpAny (model X.prog X.w) X.A (pyIter (.ref s.heap.objs.size)) (PIE X pn Y tg R) xs {s with heap:=s.heap.push {cls:=.type "range",data:=.fields #[.int lo t,.int hi u,.int 1 v]},toks:=tk}:=by
 refine wpAny_pyIter_range (IsRange.new ..) (small_one h1 h2 j g) ?_;have a:Inv X pn Y H {s with heap:=s.heap.push {cls:=.type "range",data:=.fields #[.int lo t,.int hi u,.int 1 v]},toks:=tk}:=I.kept λb o e=>zac _ e;refine⟨(s.heap.push {cls:=.type "range",data:=.fields #[.int lo t,.int hi u,.int 1 v]}).objs.size,[(s.heap.push {cls:=.type "range",data:=.fields #[.int lo t,.int hi u,.int 1 v]}).objs.size],_,_,H,rfl,
  a.kept (t':=tk) λb o e=>zac _ e,Ts _ lo (hi-lo).toNat,?_,λb d=>?_,q⟩
 ·have e1:lo+((0:Nat):Int)*1=lo:=by simp
  have e2:(((hi-lo).toNat:Nat):Int)-((0:Nat):Int)=Builtin.Range.rangeSize lo hi 1:=by rw[rangeSize_one];split <;> lia
  show IsRangeIter _ _ (lo+((0:Nat):Int)*1) ((((hi-lo).toNat:Nat):Int)-((0:Nat):Int)) 1;rw[e1,e2];exact zad _ rfl
 have e:b=(s.heap.push {cls:=.type "range",data:=.fields #[.int lo t,.int hi u,.int 1 v]}).objs.size:=by simpa using d
 subst e;exact a.fpOk (zaj _) (a.hok.fresh (zaj _))
def z1r(ta:TA):TI:=λY H R=>ta Y H λvs H1=>∃j:Int,vs=[.int j]/\-(2 ^ 62)<=j/\j<2 ^ 62/\R (Itr 0 j.toNat) H1
def z1q(ta:TA):TI:=λY H R=>ta Y H λvs H1=>∃i j:Int,vs=[.int i,.int j]/\(-(2 ^ 62)<=i/\i<2 ^ 62/\-(2 ^ 62)<=j/\j<2 ^ 62)/\R (Itr i (j-i).toNat) H1
def Qo{a:Expr}{ta:TA}{p pos:Pos}(v:Gl X "range")(u:X.mg "range" = none)(x:PA X [a] ta)(l:autoParam (starEach [a] X.env=[(false,eval a X.env)]) zSr):PI X tg (.Call (.Name "range" p) [a] [] pos) (z1r ta):=by
 intro pn s Y H R I h;refine Call_ (jc I v u boot_range (zbL (thn (x pos pn s Y H _ I h) λus s1 Zh=>?_) l rfl));obtain⟨vs,H1,y,g,d⟩:=Zh;obtain⟨j,e,d,k,q⟩:=d;subst e;cases g with
 |cons r rr =>
  cases rr
  obtain⟨t,rfl⟩:=r;exact call_range_1 (Ub y aD aD d k (by simpa using q))
def Qn{a b:Expr}{ta:TA}{p pos:Pos}(z:Gl X "range")(y:X.mg "range" = none)(B:PA X [a,b] ta)(x:autoParam (starEach [a,b] X.env=[(false,eval a X.env),(false,eval b X.env)]) zSr)(d:autoParam (starEach [b] X.env=[(false,eval b X.env)]) zSr) :
  PI X tg (.Call (.Name "range" p) [a,b] [] pos) (z1q ta):=by
 intro pn s Y H R I h;refine Call_ (jc I z y boot_range (zbL (thn (B pos pn s Y H _ I h) λus s1 Zh=>?_) (by rw[x,d]) (by rw[d];rfl)))
 obtain⟨vs,H1,D,k,g⟩:=Zh;obtain⟨i,j,e,⟨g,v,u,l⟩,q⟩:=g;subst e;cases k with
 |cons r rr =>
  cases rr with
  |cons r' rr =>
   cases rr
   obtain⟨t,rfl⟩:=r;obtain⟨t',rfl⟩:=r';exact call_range_2 (Ub D g v u l q)
def tFor(d:TI)(g:TG)(tb:TS):TS:=λD Y H=>d Y H λes H1=>∃W:Nat->Nat->St->Hp->Prop,(∃m,W 0 m Y H1)/\∀i m Y H,W i m Y H ->
 (es.stop i H/\D.nx Y H)\/(es.go i H/\∃N:St->Hp->Prop,(∀σ' H',N σ' H'->∃m',m'<m/\W (i+1) m' σ' H')/\∀x H',es.yld i H x H'->g x Y H' λa H2=>tb {D with nx:=N,ct:=N,bk:=D.nx} a H2)
noncomputable def Xf(fp:List Addr)(h:Heap):List (Addr×Obj):=fp.filterMap λb=>(h.get? b).map λo=>(b,o)
def rz{o:Obj}(a:b∈fp)(e:h.get? b=some o):(b,o)∈Xf fp h:=List.mem_filterMap.mpr ⟨b,a,by rw[e];rfl⟩
def P6(a:p∈Xf fp h):p.1∈fp/\h.get? p.1=some p.2:=by
 obtain⟨b,d,e⟩:=List.mem_filterMap.mp a;cases q:h.get? b with
 |none=>rw[q]at e;cases e
 |some o =>
  rw[q]at e;have g:(b,o)=p:=zaM e;subst g;exact⟨d,q⟩
def Inv.pinned(I:Inv X pn Y H s)(k:∀ b∈fp,FpOk X pn H b)(ho:∀ b∈fp,∃ o,s.heap.get? b=some o/\∀ v,o.data≠.cell v):Inv X (pn++Xf fp s.heap) Y H s :=
 I.pins_of λp j=>(zas.mp j).elim (λz=>I.pin p (zaD _ z)) λz=>by
  obtain⟨a,e⟩:=P6 z;obtain⟨r,q,l,_⟩:=k p.1 a;obtain⟨o,g,d⟩:=ho p.1 a;rw[e]at g;cases g;exact⟨e,r,q,l,d⟩
def Inv.unpinned(I:Inv X (pn++pl) Y H s):Inv X pn Y H s:=I.pins_of λp a=>I.pin p (zaD _ (zaF _ a))
def C6{wi:TI}{tb:TS}(V:PassesOwn (model X.prog X.w) X.A X.env X.xe)(hc:X.calm=true)(hi:PI X tg iter wi)(hg:PG X tg g)(l:PSs X body tb)(hs:∀ x,foldedSetIterable iter X.env x=pure x:=by intro _;rfl):PS X (.For tg iter body [] pos) (tFor wi g tb):=by
 intro pn s Y H D I h;refine wpAny_For (thn (hi pn s Y H _ I h) λv s1 h1=>thn h1 λa7 s2 h2=>?_) hs;obtain⟨it,fp,tn,es,H2,e,I2,T,a4,f2,W,⟨m0,w0⟩,L⟩:=h2;subst e;have k:∀{H':Hp},(∀b∈fp,H' b=none)->∀b∈fp,FpOk X pn H' b:=λhn b l=>⟨hn b l,(f2 b l).2⟩;refine codeAny_forLoop_any (λn s'=>∃i σ' H',Inv X pn σ' H' s'/\tn i s'.heap/\(∀b∈fp,H' b=none)/\W i n σ' H') ?_ m0 ⟨0,Y,H2,I2,a4,λb l=>(f2 b l).1,w0⟩;rintro n s3 ⟨i,j,H3,I3,Q,Z,w3⟩;rcases L i n j H3 w3 with⟨O,qn⟩|⟨go,N,hN,step⟩
 ·refine zdP V (thn (T.done X rfl rfl rfl hc i pn s3 j H3 X.xe I3 (k Z) Q O) λr s4 ⟨hr,I4⟩=>?_);subst hr;exact zfT ⟨j,H3,I4,qn⟩
 refine zdP V (thn (T.item X rfl rfl rfl hc i pn s3 j H3 X.xe I3 (k Z) Q go) λr s4 Zh=>?_);obtain⟨u,hr,h4⟩:=Zh;subst hr;refine zdP V (thn h4 λ_ s5 Zh=>?_);obtain⟨x,H5,I5,r5,y5,G,a5⟩:=Zh;have a6:=I5.pinned (k a5) (T.obj _ _ G);refine zdP V (thn (hg _ s5 j H5 x u _ a6 r5 (step x H5 y5)) λ_ s6 Zh=>?_);obtain⟨a0,H6,I6,q6⟩:=Zh;refine zdP V (thn (l _ s6 a0 H6 _ I6 q6) λf s7 B=>?_);have q:∀{a:St}{z:Hp},Inv X (pn++Xf fp s5.heap) a z s7->N a z->∃m,m<n/\∃i σ' H',Inv X pn σ' H' s7/\tn i s7.heap/\(∀b∈fp,H' b=none)/\W i m σ' H':=λ{a z} y R=>by
  obtain⟨m',hm,w7⟩:=hN a z R;refine⟨m',hm,i+1,a,z,y.unpinned,T.keep _ _ _ G λb l o e=>(y.pin (b,o) (zaD _ (zaD _ (rz l e)))).1,λb l=>?_,w7⟩;obtain⟨o,e,d⟩:=T.obj _ _ G b l;exact(y.pin (b,o) (zaD _ (zaD _ (rz l e)))).2.1
 cases f with
 |next=>obtain⟨a,z,y,R⟩:=B;exact q y R
 |cont=>obtain⟨a,z,y,R⟩:=B;exact q y R
 |brk=>obtain⟨a,z,y,B⟩:=B;exact⟨a,z,y.unpinned,B⟩
 |ret v=>obtain⟨x7,a,z,y,r7,B⟩:=B;exact⟨x7,a,z,y.unpinned,r7,B⟩
end
abbrev R2:=V->V->Hp->VK->Prop
def OpR(X:Cx)(f:Value->Value->Sem Value)(r:R2):Prop :=
 ∀(pn:List (Addr×Obj))(s:Shared)(Y:St)(H:Hp)(x y:V)(v u:Value)(Q:VK),Inv X pn Y H s->RelV x v->RelV y u->r x y H Q ->
  wpAny (model X.prog X.w) X.A (f v u) (EP X pn Y Q) X.xe s
def UnR(X:Cx)(f:Value->Sem Value)(r:V->Hp->VK->Prop):Prop :=
 ∀(pn:List (Addr×Obj))(s:Shared)(Y:St)(H:Hp)(x:V)(v:Value)(Q:VK),Inv X pn Y H s->RelV x v->r x H Q ->
  wpAny (model X.prog X.w) X.A (f v) (EP X pn Y Q) X.xe s
def t8(X:Cx)(f:Value)(r:List V->Hp->VK->Prop):Prop :=
 ∀(pn:List (Addr×Obj))(s:Shared)(Y:St)(H:Hp)(E:List V)(us:List Value)(Q:VK),Inv X pn Y H s->Vals E us->r E H Q ->
  wpAny (model X.prog X.w) X.A (call f us) (EP X pn Y Q) X.xe s
def TruR(X:Cx)(r:V->Hp->(Bool->Hp->Prop)->Prop):Prop :=
 ∀(pn:List (Addr×Obj))(s:Shared)(Y:St)(H:Hp)(x:V)(v:Value)(Q:Bool->Hp->Prop),Inv X pn Y H s->RelV x v->r x H Q ->
  wpAny (model X.prog X.w) X.A (truthy v) (TP X pn Y Q) X.xe s
def tOp(r:R2)(ta tb:TE):TE:=λY H Q=>ta Y H λx H1=>tb Y H1 λy H2=>r x y H2 Q
def tUn(r:V->Hp->VK->Prop)(ta:TE):TE:=λY H Q=>ta Y H λx H1=>r x H1 Q
def rI(C:Int->Int->Prop)(g:Int->Int->V):R2:=λx y H Q=>∃i j,x=.int i/\y=.int j/\C i j/\Q (g i j) H
def rI0(g:Int->Int->V):R2:=λx y H Q=>∃i j,x=.int i/\y=.int j/\Q (g i j) H
def rU(g:Int->V):V->Hp->VK->Prop:=λx H Q=>∃i,x=.int i/\Q (g i) H
section
variable{a b:Expr}{ta tb:TE}{pos:Pos}
def binT(z:PE X a ta)(r:PE X b tb){H:Hp}{R:V->V->Hp->Prop}(I:Inv X pn Y H s)(h:ta Y H λx H1=>tb Y H1 λy H2=>R x y H2){Q:Value->Shared->Prop}{f:Value->Value->Sem Value}(q:∀ v u s2 x y H2,Inv X pn Y H2 s2->RelV x v->RelV y u->R x y H2->wpAny (model X.prog X.w) X.A (f v u) Q X.xe s2) :
  wpAny (model X.prog X.w) X.A (eval a X.env) (λv e=>wpAny (model X.prog X.w) X.A (eval b X.env) (λu d=>wpAny (model X.prog X.w) X.A (f v u) Q X.xe d) X.xe e) X.xe s:=by
 refine thn (z pn s Y H _ I h) λv s1 Zh=>?_;obtain⟨x,H1,D,j,l⟩:=Zh;refine thn (r pn s1 Y H1 _ D l) λu s2 Zh=>?_;obtain⟨y,H2,B,g,k⟩:=Zh;exact q v u s2 x y H2 B j g k
def S7(ho:OpR X (binaryOp op) r)(j:PE X a ta)(g:PE X b tb):PE X (.BinOp a op b pos) (tOp r ta tb):=by
 intro pn s Y H Q I h;exact wpAny_BinOp (binT j g I h λv u s2 x y H2 k e d q=>ho pn s2 Y H2 x y v u Q k e d q)
def z1b{r:V->Hp->VK->Prop}(ho:UnR X (unaryOp op) r)(g:PE X a ta):PE X (.UnaryOp op a pos) (tUn r ta):=by
 intro pn s Y H Q I h;exact UnaryOp_ (thn (g pn s Y H _ I h) λv s1 ⟨x,H1,j,d,e⟩=>ho pn s1 Y H1 x v Q j d e)
def opI{f:Value->Value->Sem Value}{C:Int->Int->Prop}{g:Int->Int->Int}(a:∀ (i j:Int) (t u:Tok) (s:Shared) (Q:Value->Shared->Prop) (xs:Value->Shared->Prop),C i j->Q (.int (g i j) s.toks) {s with toks:=s.toks+1}->wpAny (model X.prog X.w) X.A (f (.int i t) (.int j u)) Q xs s) :
  OpR X f (rI C λi j=>.int (g i j)):=by
 intro pn s Y H x y v u Q I e d h;obtain⟨i,j,rfl,rfl,k,q⟩:=h;obtain⟨t,rfl⟩:=e;obtain⟨t',rfl⟩:=d;exact a i j t t' s _ _ k ⟨.int (g i j),H,I.tok _,⟨_,rfl⟩,q⟩
def opI0{f:Value->Value->Sem Value}{g:Int->Int->Int}(a:∀ (i j:Int) (t u:Tok) (s:Shared) (Q:Value->Shared->Prop) (xs:Value->Shared->Prop),Q (.int (g i j) s.toks) {s with toks:=s.toks+1}->wpAny (model X.prog X.w) X.A (f (.int i t) (.int j u)) Q xs s) :
  OpR X f (rI0 λi j=>.int (g i j)):=by
 intro pn s Y H x y v u Q I e d h;obtain⟨i,j,rfl,rfl,q⟩:=h;obtain⟨t,rfl⟩:=e;obtain⟨t',rfl⟩:=d;exact a i j t t' s _ _ ⟨.int (g i j),H,I.tok _,⟨_,rfl⟩,q⟩
def opB0{f:Value->Value->Sem Value}{g:Int->Int->Bool}(a:∀ (i j:Int) (t u:Tok) (s:Shared) (Q:Value->Shared->Prop) (xs:Value->Shared->Prop),Q (.bool (g i j)) s->wpAny (model X.prog X.w) X.A (f (.int i t) (.int j u)) Q xs s) :
  OpR X f (rI0 λi j=>.bl (g i j)):=by
 intro pn s Y H x y v u Q I e d h;obtain⟨i,j,rfl,rfl,q⟩:=h;obtain⟨t,rfl⟩:=e;obtain⟨t',rfl⟩:=d;exact a i j t t' s _ _ ⟨.bl (g i j),H,I,rfl,q⟩
def CPow(i j:Int):Prop:=0<=j/\j<=1000000/\i.natAbs<2 ^ 64
def Kz:OpR X (binaryOp .Add) (rI0 λi j=>.int (i+j)):=opI0 λ_ _ _ _ _ _ _ q=>add_int q
def Ku:OpR X (binaryOp .Sub) (rI0 λi j=>.int (i-j)):=opI0 λ_ _ _ _ _ _ _ q=>sub_int q
def Qz:OpR X (binaryOp .Mod) (rI (λ_ j=>j≠0) λi j=>.int (i.fmod j)):=opI λ_ _ _ _ _ _ _ a q=>mod_int' a q
def Kv:OpR X (binaryOp .Pow) (rI CPow λi j=>.int (i ^ j.toNat)):=opI λ_ _ _ _ _ _ _ a q=>pow_int_small a.1 a.2.1 a.2.2 q
def unI{f:Value->Sem Value}{g:Int->Int}(a:∀ (i:Int) (t:Tok) (s:Shared) (Q:Value->Shared->Prop) (xs:Value->Shared->Prop),Q (.int (g i) s.toks) {s with toks:=s.toks+1}->wpAny (model X.prog X.w) X.A (f (.int i t)) Q xs s) :
  UnR X f (rU λi=>.int (g i)):=by
 intro pn s Y H x v Q I d h;obtain⟨i,rfl,q⟩:=h;obtain⟨t,rfl⟩:=d;exact a i t s _ _ ⟨.int (g i),H,I.tok _,⟨_,rfl⟩,q⟩
def Ej:UnR X (unaryOp .USub) (rU λi=>.int (-i)):=unI λ_ _ _ _ _ q=>neg_int q
def Ob(I:Inv X pn Y H s)(q:Q (.bl k) H)(e:k=k'):EP X pn Y Q (.bool k') s:=by
 subst e;exact⟨.bl k,H,I,rfl,q⟩
def Cj:OpR X (compareOp .Lt) (rI0 λi j=>.bl (decide (i<j))):=opB0 λ_ _ _ _ _ _ _ q=>lt_int q
def Ck:OpR X (compareOp .LtE) (rI0 λi j=>.bl (decide (i<=j))):=opB0 λ_ _ _ _ _ _ _ q=>le_int q
def Cp:OpR X (compareOp .Gt) (rI0 λi j=>.bl (decide (j<i))):=opB0 λ_ _ _ _ _ _ _ q=>gt_int q
def z1e:OpR X (compareOp .GtE) (rI0 λi j=>.bl (decide (j<=i))):=opB0 λ_ _ _ _ _ _ _ q=>ge_int q
def P1:OpR X (compareOp .In) (λx y H Q=>∃i j,x=.str i/\y=.str j/\Q (.bl (!(Builtin.Str.occurrences j i 0 j.length 1).isEmpty)) H):=by
 intro pn s Y H x y v u Q I d a h;obtain⟨i,j,rfl,rfl,q⟩:=h;obtain⟨t,rfl⟩:=d;obtain⟨t',rfl⟩:=a;exact in_str (Ob I q rfl)
def Cm:OpR X (compareOp .Is) (λx y H Q=>y=.non/\Q (.bl (decide (x=.non))) H):=by
 intro pn s Y H x y v u Q I a d h;obtain⟨rfl,q⟩:=h;cases d;refine is_none_gen (Ob I q ?_);cases x <;> first
  |(cases a;rfl)
  |(obtain⟨t,rfl⟩:=a;rfl)
def Gw:OpR X (compareOp .IsNot) (λx y H Q=>y=.non/\Q (.bl (!decide (x=.non))) H):=by
 intro pn s Y H x y v u Q I a d h;obtain⟨rfl,q⟩:=h;cases d;refine isnot_none_gen (Ob I q ?_);cases x <;> first
  |(cases a;rfl)
  |(obtain⟨t,rfl⟩:=a;rfl)
def OpR.or(h:OpR X f r)(h':OpR X f r'):OpR X f (λx y H Q=>r x y H Q\/r' x y H Q):=by
 intro pn s Y H x y v u Q I d a q;rcases q with q|q
 ·exact h pn s Y H x y v u Q I d a q
 exact h' pn s Y H x y v u Q I d a q
def ug(b:Expr)(h:autoParam (op≠.In) zSd)(h2:autoParam (op≠.NotIn) zSd):behindInMarks op b=false:=by
 have e1:(op==CmpOp.In)=false:=by cases op <;> first|rfl|exact absurd rfl h
 have e2:(op==CmpOp.NotIn)=false:=by cases op <;> first|rfl|exact absurd rfl h2
 cases b <;> simp[behindInMarks,e1,e2]
def Gs(ho:OpR X (compareOp op) r)(k:PE X a ta)(j:PE X b tb)(g:behindInMarks op b=false):PE X (.Compare a [op] [b] pos) (tOp r ta tb):=by
 intro pn s Y H Q I h;exact wpAny_Compare1 (binT k j I h λv u s2 x y H2 l e d q=>ho pn s2 Y H2 x y v u Q l e d q) g
def z0f(t:TE):TT:=λY H Q=>t Y H λx H'=>∃k,x=.bl k/\Q k H'
def Qk(ho:OpR X (compareOp op) r)(es:PE X a ta)(G:PE X b tb)(D:behindInMarks op b=false):PT X (.Compare a [op] [b] pos) (z0f (tOp r ta tb)):=by
 intro pn s Y H Q I h;refine wpAny_isTrue_Compare1 (thn (es pn s Y H _ I h) λv s1 ⟨x,H1,O,j,B⟩=>thn (G pn s1 Y H1 _ O B) λu s2 ⟨y,H2,N,g,q⟩ =>
  thn (ho pn s2 Y H2 x y v u _ N j g q) λc V ⟨z,R,L,d,k,e,l⟩=>?_) D
 subst e;cases d;exact zdO ⟨R,L,l⟩
def TruV(K:W.Frag)(x:V)(H:Hp)(k:Bool):Prop :=
 match x with
 |.non=>k=false
 |.bl b=>k=b
 |.int i=>k=(i != 0)
 |.str y=>y.length<=sizeLine/\k=((y.length:Int) != 0)
 |.byt y=>y.size<=sizeLine/\k=((y.size:Int) != 0)
 |.ref p=>(∃E,SqL K H p E/\k=!E.isEmpty)\/(∃E,SqT K H p E/\k=!E.isEmpty)\/∃kvs,H p=some (.dK kvs)/\k=!kvs.isEmpty
 |_=>False
def So{κ:Type}{kvs:List (κ×V)}{vs:List (κ×Value)}(r:KV kvs vs):(!vs.isEmpty)=!kvs.isEmpty:=by
 cases r <;> rfl
def Zf{E:List V}{its:List Value}(r:Vals E its):(!its.toArray.isEmpty)=!E.isEmpty:=by
 cases r <;> simp
def kz:(sizeLine:Nat)<2 ^ 63:=by rw[zbH];decide
def Ek:TruR X (λx H Q=>∃k,TruV X.K x H k/\Q k H):=by
 intro pn s Y H x v Q I g h;obtain⟨k,e,q⟩:=h;have hl:=kz;have B:sizeLine=16777216:=zbH;cases x with
 |non =>
  cases g
  have a:k=false:=e;subst a;exact truthy_none ⟨H,I,q⟩
 |bl b =>
  cases g
  have a:k=b:=e;subst a;exact zdO ⟨H,I,q⟩
 |int i =>
  obtain⟨t,rfl⟩:=g;have a:k=(i != 0):=e;subst a;exact PySem.P.truthy_int ⟨H,I,q⟩
 |str y =>
  obtain⟨t,rfl⟩:=g;obtain⟨u,a⟩:y.length<=sizeLine/\k=((y.length:Int) != 0):=e;subst a;exact PySem.P.truthy_str aD ⟨H,I.tok _,q⟩
 |byt y =>
  obtain⟨t,rfl⟩:=g;obtain⟨u,a⟩:y.size<=sizeLine/\k=((y.size:Int) != 0):=e;subst a;exact W.truthy_bytes aD ⟨H,I.tok _,q⟩
 |ref p =>
  cases g
  have a:(∃E,SqL X.K H p E/\k=!E.isEmpty)\/(∃E,SqT X.K H p E/\k=!E.isEmpty)\/∃kvs,H p=some (.dK kvs)/\k=!kvs.isEmpty:=e;rcases a with⟨E,j,a⟩|⟨E,j,a⟩|⟨kvs,j,a⟩
  ·subst a;obtain⟨its,r,pl,l⟩:=I.list j;have d:=r.length;exact wpAny_truthy_list pl.isList (by simp only[zap];lia) ⟨H,I.tok _,by rw[Zf r];exact q⟩
  ·subst a;obtain⟨its,r,pl,l⟩:=I.tuple j;have d:=r.length;exact truthy_tuple pl (by simp only[zap];lia) ⟨H,I.tok _,by rw[Zf r];exact q⟩
  subst a;obtain⟨l,z,vs,r,m⟩:kvs.length<=sizeLine/\(p==sysModules)=false/\∃vs,KV kvs vs/\s.heap.DictOf (yp X.prog X.w) p vs:=I.hok p _ j;have d:kvs.length=vs.length:=zfQ r;exact wpAny_truthy_dict z m aD ⟨H,I.tok _,by rw[So r];exact q⟩
 |_=>exact(show False from e).elim
def M9(j:PE X a ta)(g:∀ whole,isTrue a X.env whole=(do let v <- whole;standAt a.pos;holding [v] (truthy v))) :
  PT X a (λY H Q=>ta Y H λx H'=>∃k,TruV X.K x H' k/\Q k H'):=by
 intro pn s Y H Q I h;exact isTrue_plain (thn (j pn s Y H _ I h) λv s1 ⟨x,H1,l,d,e⟩=>Ek pn s1 Y H1 x v Q l d e) (g _)
def S9:OpR X (binaryOp .Add) (λx y H Q=>∃i j,x=.str i/\y=.str j/\i.length+j.length<=sizeLine/\Q (.str (i++j)) H):=by
 intro pn s Y H x y v u Q I d a h;obtain⟨i,j,rfl,rfl,e,q⟩:=h;obtain⟨t,rfl⟩:=d;obtain⟨t',rfl⟩:=a;exact add_str (λt' tk=>⟨.str (i++j),H,I.tok _,⟨_,rfl⟩,q⟩) e
def kg{x:V}{us:List Value}(r:Vals [x] us):∃u,us=[u]/\RelV x u:=by
 cases r with
 |cons r1 r2=>cases r2;exact⟨_,rfl,r1⟩
def Jz(r:Vals [x,y] us):∃u w',us=[u,w']/\RelV x u/\RelV y w':=by
 cases r with
 |cons r1 r2 =>
  cases r2 with
  |cons r3 r4=>cases r4;exact⟨_,_,rfl,r1,r3⟩
def K5:t8 X (.builtin "abs") (λE H Q=>∃i,E=[.int i]/\Q (.int (if i<0 then -i else i)) H):=by
 intro pn s Y H E us Q I r h;obtain⟨i,rfl,q⟩:=h;obtain⟨u,rfl,t,rfl⟩:=kg r;exact call_abs_int λu tk=>⟨.int (if i<0 then -i else i),H,I.tok _,⟨_,rfl⟩,q⟩
def N2:t8 X (.type "int") (λE H Q=>(∃i,E=[.int i]/\Q (.int i) H)\/∃k,E=[.bl k]/\Q (.int (if k then 1 else 0)) H):=by
 intro pn s Y H E us Q I r h;rcases h with⟨i,rfl,q⟩|⟨k,rfl,q⟩
 ·obtain⟨u,rfl,t,rfl⟩:=kg r;exact call_int_int ⟨.int i,H,I,⟨_,rfl⟩,q⟩
 obtain⟨u,rfl,a⟩:=kg r;cases a;exact call_int_bool ⟨.int (if k then 1 else 0),H,I.tok _,⟨_,rfl⟩,q⟩
end
structure ObjM(h:Heap)(x dx C:Addr)(mA:Str->Option Value):Prop where
 obj:h.get? x=some (W.instObj C dx)
 ns:h.Ns1 dx mA
 ne:dx≠x
def Pd{h:Heap}{mA:Str->Option Value}(n:h.Ns1 dx mA):∃od,h.get? dx=some od/\∀name,W.lookIn name od=some (mA name):=by
 obtain⟨o,J,ep,ho,l,k,_,j⟩:=n;refine⟨o,ho,λname=>?_⟩;have e:=j name;unfold nsFind findBy at e;rw[<- Array.find?_toList]at e;unfold W.lookIn;rw[l]
 dsimp only
 split
 ·rename_i y q;rw[q]at e;exact zbP some e
 rename_i q;rw[q]at e;have a:J.toList.any (·.refKey)=false:=by
  rw[List.any_eq_false];intro y g;obtain⟨z,t,d⟩:=k y (Array.mem_toList_iff.mp g);simp[DictEntry.refKey,d]
 have a':¬ J.toList.any (·.refKey)=true:=by rw[a];exact zaU
 rw[zaJ a'];exact zbP some e
def ObjM.look(I:ObjM h x dx C mA):∃od,W.InstAt h x (W.instObj C dx) C (some od)/\∀name,W.lookIn name od=some (mA name) :=
 let ⟨od,ho,hl⟩:=Pd I.ns
 ⟨od,⟨I.obj,rfl,rfl,ho⟩,hl⟩
variable{prog:Program}{A:Around}{K:W.Frag}{x dx C f:Addr}{mA:Str->Option Value}{name:Str}{v:Value}
def Fm(X:K.In s.heap)(I:ObjM s.heap x dx C mA)(g:W.plainGet K C name=true)(e:W.hasDictIn K C=true)(j:W.findIn K (.ref C) name=some none)(d:mA name=some v)(a:W.handedIn v=true)(h:Q v {s with toks:=s.toks+1}) :
  wpAny (model prog w) A (getAttr (.ref x) name expr) Q xs s:=by
 obtain⟨k,es,hl⟩:=I.look;exact W.get_value X es (W.plainGet_of g).1 (W.findObj_own e j rfl (by rw[hl,d])) a h
def Ld(X:K.In s.heap)(I:ObjM s.heap x dx C mA)(a:W.plainGet K C name=true)(j:W.findIn K (.ref C) name=some (some (.ref f)))(g:W.isFn K (.ref f)=true)(e:mA name=none)(h:Q (.ref f,[.ref x]) s) :
  wpAny (model prog w) A (getMethod (.ref x) name pl) Q xs s:=by
 obtain⟨d,es,hl⟩:=I.look;exact W.method_fn X es (W.plainGet_of a).1 (W.plainGet_of a).2 j (beq_iff_eq.mp g) (by show(W.lookIn name d).map (·.isSome)=some false;rw[hl,e];rfl) h
def Ht(X:K.In s.heap)(I:ObjM s.heap x dx C mA)(z:W.findIn K (.ref C) "__setattr__" = some (some (.builtin "object.__setattr__")))(B:W.plainOver K C=true)(u:W.takerIn K C name=some none)(D:W.hasDictIn K C=true)(q:PySem.Within mA ns)(hsz:ns.length<=sizeLine)(h:∀ h',ObjM h' x dx C (λy=>if y=name then some v else mA y)->Heap.SameBut dx s.heap h'->Q () {s with heap:=h',toks:=s.toks+2}) :
  wpAny (model prog w) A (setAttr (.ref x) name v) Q xs s:=by
 obtain⟨O,es,hl⟩:=I.look;refine W.set_plain X es z (W.osa_open (s:={s with toks:=s.toks+1}) (r:=none) X es B u λb=>?_);obtain⟨V,G,j⟩:=W.any_some D;have l:s.heap.get? x=some ⟨.ref C,some dx,.plain,#[]⟩:=I.obj;refine zaa (zab (zaa (zaa (wpAny_loadPart l (zaa (W.Looks.here (s:={s with toks:=s.toks+1}) (W.looks_clsIn X G) ?_))))));rw[j];refine zab (a:=some dx) (zaa (zab (zaa ?_)));refine wpAny_nsSet1 (s:={s with toks:=s.toks+1}) I.ns λh' e d=>?_;obtain⟨R,L,N,g,hdD,k⟩:=e.count (PySem.Within.cons name v q);refine zaa (wpAny_lookBehind g (by rw[hdD];exact pastItsLine_dict (zak k (by rw[zLc];lia))) ?_)
 exact zab (h _ ⟨(d.2 _ (Ne.symm I.ne)).trans I.obj,e,I.ne⟩ d)
def Mq(X:K.In s.heap)(e:W.makesIn K C=true)(hi:W.findIn K (.ref C) "__init__" = some (some (.ref f)))(j:W.typeIn K (.ref f)=some (.type "function"))(h:codeAny (model prog w) (A.under (.builtin "type.__call__" ⟨.ref C::vs,kw⟩)) (.call (.ref f) ⟨.ref (s.heap.objs.size+1)::vs,kw⟩) (W.InitBack (s.heap.objs.size+1) R)
   {s with heap:=(s.heap.push W.emptyDict).push (W.instObj C s.heap.objs.size)}) :
  codeAny (model prog w) A (.call (.ref C) ⟨vs,kw⟩) R s:=by
 obtain⟨l,g,d,t,k⟩:=s;exact W.make_core (W.makes_of X e) (W.looks_findIn X hi) (λa=>W.bind_fn X a j) (.inl rfl) h
noncomputable def putF(f:Str)(v:V):List (Str×V)->List (Str×V)
 |[]=>[(f,v)]
 |(g,x)::r=>if g=f then(g,v)::r else(g,x)::putF f v r
theorem dr(f g:Str)(v:V):∀fs:List (Str×V),(putF f v fs).lookup g=if g=f then some v else fs.lookup g
 |[]=>by
  show List.lookup g [(f,v)]=_;by_cases h:g=f
  ·have a:(g==f)=true:=beq_iff_eq.mpr h;simp only[List.lookup,a,zaK h]
  have a:(g==f)=false:=zbA.mpr h;simp only[List.lookup,a,zaJ h]
 |(k,x)::r=>by
  have d:=dr f g v r;rw[show putF f v ((k,x)::r)=(if k=f then(k,v)::r else(k,x)::putF f v r) from rfl]
  by_cases hk:k=f
  ·rw[zaK hk];by_cases h:g=k
   ·have a:(g==k)=true:=beq_iff_eq.mpr h;simp only[List.lookup,a,zaK (h.trans hk)]
   have a:(g==k)=false:=zbA.mpr h;simp only[List.lookup,a,zaJ (λe:g=f=>h (e.trans hk.symm))]
  rw[zaJ hk];by_cases h:g=k
  ·have a:(g==k)=true:=beq_iff_eq.mpr h;simp only[List.lookup,a,zaJ (λe:g=f=>hk (h.symm.trans e))]
  have a:(g==k)=false:=zbA.mpr h;simp only[List.lookup,a];exact d
theorem dz(f:Str)(v:V):∀fs:List (Str×V),f∈(putF f v fs).map (·.1)/\∀g,g∈fs.map (·.1)->g∈(putF f v fs).map (·.1)
 |[]=>⟨by simp[putF],λg h=>by simp at h⟩
 |(k,x)::r=>by
  obtain⟨i1,i2⟩:=dz f v r;rw[show putF f v ((k,x)::r)=(if k=f then(k,v)::r else(k,x)::putF f v r) from rfl]
  by_cases hk:k=f
  ·rw[zaK hk];subst hk;exact⟨by simp,λg h=>by simpa using h⟩
  rw[zaJ hk];refine⟨?_,λg h=>?_⟩
  ·rw[zaB];exact zal _ i1
  rw[zaB]at h ⊢;rcases zam.mp h with e|e
  ·exact zam.mpr (.inl e)
  exact zal _ (i2 g e)
theorem du(f:Str)(v:V):∀fs:List (Str×V),(putF f v fs).length<=fs.length+1
 |[]=>by simp[putF]
 |(k,x)::r=>by
  have a:=du f v r;rw[show putF f v ((k,x)::r)=(if k=f then(k,v)::r else(k,x)::putF f v r) from rfl]
  by_cases hk:k=f
  ·rw[zaK hk,zLc,zLc];lia
  rw[zaJ hk,zLc,zLc];lia
def RelO.some_of{v:V}{o:Option Value}(r:RelO (some v) o):∃u,o=some u/\RelV v u:=by
 cases o with
 |none=>exact(show False from r).elim
 |some u=>exact⟨u,rfl,r⟩
def RelO.none_of{o:Option Value}(r:RelO none o):o=none:=by
 cases o with
 |none=>rfl
 |some u=>exact(show False from r).elim
def Pv{v:V}(r:RelV v u):W.handedIn u=true:=by
 cases v with
 |non=>cases (show u=Value.none from r);rfl
 |bl b=>cases (show u=Value.bool b from r);rfl
 |int i=>obtain⟨t,e⟩:=(show ∃t,u=Value.int i t from r);cases e;rfl
 |str x=>obtain⟨t,e⟩:=(show ∃t,u=Value.str x t from r);cases e;rfl
 |byt b=>obtain⟨t,e⟩:=(show ∃t,u=Value.bytes b t from r);cases e;rfl
 |flt b=>obtain⟨t,e⟩:=(show ∃t,u=Value.float b t from r);cases e;rfl
 |ref a=>cases (show u=Value.ref a from r);rfl
 |ty n=>cases (show u=Value.type n from r);rfl
variable{fs:List (Str×V)}
def Yg(g:HOk P w H h)(e:H a=some (.ins C dx fs)):∃mA,ObjM h a dx C mA/\(∀f,RelO (fs.lookup f) (mA f))/\PySem.Within mA (fs.map (·.1))/\fs.length<=1000/\H dx=some (.own a):=by
 obtain⟨d,z,ne,j,mA,n,r,q⟩:=(show we P w H h a (.ins C dx fs) from g a _ e);exact⟨mA,⟨j,n,ne⟩,r,q,z,d⟩
structure Cls(K:W.Frag)(C:Addr):Prop where
 pg:W.plainGet K C Str.empty=true
 hd:W.hasDictIn K C=true
 po:W.plainOver K C=true
 sa:W.findIn K (.ref C) "__setattr__" = some (some (.builtin "object.__setattr__"))
def Cls.get{K:W.Frag}{C:Addr}(c:Cls K C)(f:Str):W.plainGet K C f=true:=c.pg
def gp(K:W.Frag)(C:Addr)(f:Str):Prop:=W.findIn K (.ref C) f=some none
def gp.taker{K:W.Frag}{C:Addr}{f:Str}(n:gp K C f):W.takerIn K C f=some none:=by
 unfold W.takerIn;rw[show W.findIn K (.ref C) f=some none from n];rfl
structure Meth(K:W.Frag)(C:Addr)(m:Str)(f:Addr):Prop where
 at_:W.findIn K (.ref C) m=some (some (.ref f))
 fn:W.isFn K (.ref f)=true
 kp:W.keepIn K (.ref f)=true
variable{f:Str}{v:V}
def Sq(I:Inv X pn Y H s)(e:H a=some (.ins C dx fs))(c:Cls X.K C)(n:gp X.K C f)(l:fs.lookup f=some v)(h:∀ u s',Inv X pn Y H s'->RelV v u->Q u s'):wpAny (model X.prog X.w) A (getAttr (.ref a) f b) Q xs s:=by
 obtain⟨mA,O,r,_,_,_⟩:=Yg I.hok e;obtain⟨u,hu,d⟩:=RelO.some_of (v:=v) (o:=mA f) (by rw[<- l];exact r f)
 exact Fm I.kIn O (c.get f) c.hd n hu (Pv d) (h u _ (I.tok _) d)
def Zg(I:Inv X pn Y H s)(e:H a=some (.ins C dx fs))(c:Cls X.K C)(k:Meth X.K C m g)(l:fs.lookup m=none)(h:Q (.ref g,[.ref a]) s):wpAny (model X.prog X.w) A (getMethod (.ref a) m pl) Q xs s:=by
 obtain⟨mA,O,r,_,_,_⟩:=Yg I.hok e;have d:mA m=none:=RelO.none_of (by rw[<- l];exact r m)
 exact Ld I.kIn O (c.get m) k.at_ k.fn d h
def Tw(I:Inv X pn Y H s)(e:H a=some (.ins C dx fs))(c:Cls X.K C)(n:gp X.K C f)(hl:fs.length<1000)(k:RelV y u)(h:∀ s',Inv X pn Y (upd H a (.ins C dx (putF f y fs))) s'->Q () s'):wpAny (model X.prog X.w) A (setAttr (.ref a) f u) Q xs s:=by
 obtain⟨mA,O,r,d,_,ho⟩:=Yg I.hok e;have l:(fs.map (·.1)).length<=sizeLine:=by rw[zLm,zbH];lia
 refine Ht I.kIn O c.sa c.po n.taker c.hd d l λh' O' j=>h _ ?_;have hd:∃o,h'.get? dx=some o:=let ⟨o,_,_,e',_⟩:=O'.ns;⟨o,e'⟩
 refine I.write (x:=a) (e:=dx) (by rw[e];exact zcR) (.inr ho) (λb q B z=>(j.2 b B).trans z) hd ?_
 refine⟨by rw[zx O.ne];exact ho,?_,O.ne,O'.obj,_,O'.ns,λg=>?_,λg v=>?_⟩
 ·have:=du f y fs;lia
 ·show RelO ((putF f y fs).lookup g) (if g=f then some u else mA g)
  rw[dr];by_cases q:g=f
  ·rw[zaK q,zaK q];exact k
  rw[zaJ q,zaJ q];exact r g
 by_cases q:g=f
 ·rw[q];exact(dz f y fs).1
 refine(dz f y fs).2 g (d g λz=>v ?_);show(if g=f then some u else mA g)=none
 rw[zaJ q];exact z
def Inv.made(I:Inv X pn Y H s):Inv X pn Y (upd (upd H s.heap.objs.size (.own (s.heap.objs.size+1))) (s.heap.objs.size+1) (.ins C s.heap.objs.size []))
  {s with heap:=(s.heap.push W.emptyDict).push (W.instObj C s.heap.objs.size)}:=by
 have e1:(s.heap.push W.emptyDict).get? s.heap.objs.size=some W.emptyDict:=zad s.heap rfl;have e2:((s.heap.push W.emptyDict).push (W.instObj C s.heap.objs.size)).get? (s.heap.objs.size+1)=some (W.instObj C s.heap.objs.size):=by
  have:=zad (s.heap.push W.emptyDict) (o:=W.instObj C s.heap.objs.size) rfl
  rwa [zdM]at this
 have j:(s.heap.push W.emptyDict).Ns s.heap.objs.size (λ_=>none):=⟨W.emptyDict,#[],_,e1,rfl,(λe g=>absurd g aE),λ_=>rfl⟩
 have k:=I.laid (a:=s.heap.objs.size) (o:=.own (s.heap.objs.size+1)) (h':=s.heap.push W.emptyDict) (t':=s.toks) (λb u q=>zac _ q) (zaj _) ⟨_,e1⟩;refine k.laid (a:=s.heap.objs.size+1) (o:=.ins C s.heap.objs.size []) (t':=s.toks) (λb u q=>zac _ q) (Nat.le_of_eq (zdM _ _)) ?_;have ne:s.heap.objs.size≠s.heap.objs.size+1:=zaT (zbY _);refine⟨by rw[zx ne,zk],zcB _,ne,e2,λ_=>none,(Heap.Ns1.of_empty j).at λo q=>zac _ q,λ_=>zcR,λy d=>absurd rfl d⟩
def E8(d:attributeBase e f env (eval e env)=eval e env)(h:wpAny (model prog w) A (eval e env) (λo a=>wpAny (model prog w) A (getAttr o f true) Q xs a) xs s):wpAny (model prog w) A (eval (.Attribute e f pos) env) Q xs s :=
 Attribute_any_ h (by rw[arm_eval_Attribute,d])
def tFld(K:W.Frag)(ta:TE)(f:Str):TE:=λY H Q=>ta Y H λx H1=>∃a C dx fs v,x=.ref a/\H1 a=some (.ins C dx fs)/\Cls K C/\gp K C f/\fs.lookup f=some v/\Q v H1
def sFld(K:W.Frag)(ta tv:TE)(f:Str):TS:=λD Y H=>tv Y H λy H1=>ta Y H1 λx H2=>∃a C dx fs,x=.ref a/\H2 a=some (.ins C dx fs)/\Cls K C/\gp K C f/\fs.length<1000 /\
 D.nx Y (upd H2 a (.ins C dx (putF f y fs)))
section
variable{o e value:Expr}{pos pos':Pos}{ta tv:TE}
def Ks(j:PE X e ta)(k:attributeBase e f X.env (eval e X.env)=eval e X.env):PE X (.Attribute e f pos) (tFld X.K ta f):=by
 intro pn s Y H Q I h;refine E8 k (thn (j pn s Y H _ I h) λu s1 Zh=>?_);obtain⟨x,H1,z,d,a,C,dx,fs,v,ex,r,c,n,l,q⟩:=Zh;subst ex;obtain rfl:u=Value.ref a:=d;exact Sq z r c n l λB s2 y g=>⟨v,H1,y,g,q⟩
def Kq(v:PE X o ta)(k:PE X value tv)(r:swapsWith value (some (.Attribute o f pos')) pos.line X.env=pure false):PS X (.Assign [.Attribute o f pos'] value pos) (sFld X.K ta tv f):=by
 intro pn s Y H D I h;refine plainObj_wpAny_Assign_Attribute (thn (k pn s Y H _ I h) λu s1 ⟨y,H1,es,d,q⟩=>thn (v pn s1 Y H1 _ es q) λj s2 Zh=>?_) r;obtain⟨x,H2,G,e,a,C,dx,fs,ex,z,c,n,l,g⟩:=Zh;subst ex;obtain rfl:j=Value.ref a:=e;exact Tw G z c n l d λL B=>⟨Y,_,B,g⟩
end
variable{Q:Value->Shared->Prop}{c:Value}{b:Bool}
inductive TyOf(K:W.Frag)(H:Hp):V->Value->Prop where
 |non:TyOf K H .non (.type "NoneType")
 |bl (x:Bool):TyOf K H (.bl x) (.type "bool")
 |int (i:Int):TyOf K H (.int i) (.type "int")
 |str (x:Str):TyOf K H (.str x) (.type "str")
 |flt (x:UInt64):TyOf K H (.flt x) (.type "float")
 |lst {a:Addr} {E:List V} (e:H a=some (.lst E)):TyOf K H (.ref a) (.type "list")
 |frz {a:Addr} {o:Obj} {E:List V} (e:H a=some (.frz o (.lst E))):TyOf K H (.ref a) (.type "list")
 |tup {a:Addr} {E:List V} (e:H a=some (.tup E)):TyOf K H (.ref a) (.type "tuple")
 |dK {a:Addr} {kvs:List (Key×V)} (e:H a=some (.dK kvs)):TyOf K H (.ref a) (.type "dict")
 |dT {a:Addr} {kvs:List (List Key×V)} (e:H a=some (.dT kvs)):TyOf K H (.ref a) (.type "dict")
 |ins {a C dx:Addr} {fs:List (Str×V)} (e:H a=some (.ins C dx fs)) (cl:Cls K C) (ha:W.findIn K (.ref C) "__class__" = some (some (.builtin "object.__class__")))
   (hn:W.specialIn K (.builtin "object.__class__") "__get__" = some (some (.builtin "getset_descriptor.__get__"))) (htk:W.takesIn K (.builtin "object.__class__")=some true)
   (hm:W.mroIn K C (.type "object")=some true):TyOf K H (.ref a) (.ref C)
def uy{x:V}(I:Inv X pn Y H s)(d:RelV x u)(ty:TyOf X.K H x t)(e:W.kitOne X.K t c=some b)(h:∀ tk,Q (.bool b) {s with toks:=tk}) :
  wpAny (model X.prog X.w) A (call (.builtin "isinstance") [u,c]) Q xs s:=by
 cases ty with
 |non=>cases (show u=Value.none from d);exact zdX W.kitx_none I.kIn zcR e nofun h
 |bl y=>cases (show u=Value.bool y from d);exact zdX W.kitx_bool I.kIn zcR e nofun h
 |int i=>obtain⟨t,q⟩:=(show ∃t,u=Value.int i t from d);cases q;exact zdX W.kitx_int I.kIn zcR e nofun h
 |str y=>obtain⟨t,q⟩:=(show ∃t,u=Value.str y t from d);cases q;exact zdX W.kitx_str I.kIn zcR e nofun h
 |flt y=>obtain⟨t,q⟩:=(show ∃t,u=Value.float y t from d);cases q;exact zdX W.kitx_float I.kIn zcR e nofun h
 |@lst a E ea =>
  cases (show u=Value.ref a from d)
  obtain⟨_,_,n,_,h1⟩:=(show we X.prog X.w H s.heap a (.lst E) from I.hok a _ ea);exact zdX W.kitx_list I.kIn ⟨_,h1,rfl⟩ e nofun h
 |@frz a ob E ea =>
  cases (show u=Value.ref a from d)
  obtain⟨_,_,_,n,_,h1⟩:=(show we X.prog X.w H s.heap a (.frz ob (.lst E)) from I.hok a _ ea);exact zdX W.kitx_list I.kIn ⟨_,h1,rfl⟩ e nofun h
 |@tup a E ea =>
  cases (show u=Value.ref a from d)
  obtain⟨_,_,_,p⟩:=(show we X.prog X.w H s.heap a (.tup E) from I.hok a _ ea);obtain⟨o,h1,h2,_⟩:=p.1;exact zdX W.kitx_tuple I.kIn ⟨o,h1,h2⟩ e nofun h
 |@dK a kvs ea =>
  cases (show u=Value.ref a from d)
  obtain⟨_,_,vs,_,p⟩:=(show we X.prog X.w H s.heap a (.dK kvs) from I.hok a _ ea);obtain⟨o,J,ep,h1,h2,_⟩:=p;exact zdX W.kitx_dict I.kIn ⟨o,h1,h2.1⟩ e nofun h
 |@dT a kvs ea =>
  cases (show u=Value.ref a from d)
  obtain⟨_,_,E,_,o,J,ep,h1,h2,_⟩:=(show we X.prog X.w H s.heap a (.dT kvs) from I.hok a _ ea);exact zdX W.kitx_dict I.kIn ⟨o,h1,h2.1⟩ e nofun h
 |@ins a C dx fs ea cl ha hn htk hm =>
  cases (show u=Value.ref a from d)
  obtain⟨mA,O,_⟩:=Yg I.hok ea;obtain⟨g,es,_⟩:=O.look;exact zdX (W.kitx_own (cl.get _) cl.hd ha hn htk hm) I.kIn es e nofun h
structure Room(k:Nat)(A:Around):Prop where
 hd:A.handled=none
 dp:A.depth+3*k+5<recursionLimit
 un:A.units+16*k+200<cLine
def Room.mono{j k:Nat}{A:Around}(r:Room k A)(h:j<=k):Room j A:=⟨r.hd,by have:=r.dp;lia,by have:=r.un;lia⟩
theorem Room.d{k k2:Nat}{A:Around}(h:Room k2 A)(e:k<=k2:=by lia):Room k A:=h.mono e
theorem Room.e{k a:Nat}{A:Around}(h:Room a A)(e:Nat.ble k a=true):Room k A:=h.mono (zaP e)
theorem Room.deeper{k:Nat}{A:Around}(r:Room (k+1) A)(env:Env):Room k (A.deeper env) :=
 ⟨r.hd,by have:=r.dp;show A.depth+1+3*k+5<_;lia,by have:=r.un;show A.units+3+16*k+200<_;lia⟩
def Sg{A:Around}{us:List Value}{a:List (Str×Value)}:(A.under (.builtin "type.__call__" ⟨.ref C::us,a⟩)).depth=A.depth+1:=by
 first|rfl|simp[Around.under,Code.weight,Code.isCreation,Code.isGuard,Code.isCaller,Code.frames,Code.isFrame,guardIds]
def Sf{A:Around}{us:List Value}{a:List (Str×Value)}:(A.under (.builtin "type.__call__" ⟨.ref C::us,a⟩)).units=A.units+1:=by
 first|rfl|simp[Around.under,Code.cUnits,Code.frames,Code.isFrame]
def Room.make{k:Nat}{A:Around}(r:Room (k+1) A)(C:Addr)(us:List Value)(a:List (Str×Value)):Room k (A.under (.builtin "type.__call__" ⟨.ref C::us,a⟩)) :=
 ⟨r.hd,by have:=r.dp;rw[Sg];lia,by have:=r.un;rw[Sf];lia⟩
theorem Room.depth{k:Nat}{A:Around}(r:Room k A):A.depth<recursionLimit:=by have:=r.dp;lia
theorem Room.units{k:Nat}{A:Around}(r:Room k A):A.units+64<cLine:=by have:=r.un;lia
def tNil:TA:=λ_ H Q=>Q [] H
def Rr(ta:TE)(a:TA):TA:=λY H Q=>ta Y H λx H1=>a Y H1 λE H2=>Q (x::E) H2
section
variable{e:Expr}{J:List Expr}{te:TE}{t:TA}{pos:Pos}
def su:PA X [] tNil:=λ_ _ _ _ H Q I h=>Calls.spliced_nil ⟨[],H,I,.nil,h⟩
abbrev S_(X:Cx)(e:Expr)(J:List Expr):Prop:=starEach (e::J) X.env=(false,eval e X.env)::starEach J X.env
abbrev B_(X:Cx)(J:List Expr)(p:Pos):Prop:=(backTo p (starEach J X.env)).any (·.1)=false
def vz(l:PE X e te)(hr:PA X J t)(k:autoParam (S_ X e J) zSr):PA X (e::J) (Rr te t):=by
 intro pos pn s Y H Q I h;rw[k];show wpAny _ _ (spliced ((false,eval e X.env)::backTo pos (starEach J X.env))) _ _ s;refine Calls.spliced_cons (thn (l pn s Y H _ I h) λu s1 Zh=>?_);obtain⟨x,H1,r,d,j⟩:=Zh;exact thn (hr pos pn s1 Y H1 _ r j) λus s2 ⟨E,H2,q,a,g⟩=>⟨x::E,H2,q,.cons d a,g⟩
def tTup(t:TA):TE:=λY H Q=>t Y H λE H1=>E.length<=sizeLine/\∀p,H1 p=none->Q (.ref p) (upd H1 p (.tup E))
def tLst(t:TA):TE:=λY H Q=>t Y H λE H1=>E.length<=sizeLine/\∀p,H1 p=none->Q (.ref p) (upd H1 p (.lst E))
def Qs {x1} (h:PA X J t):PE X (.Tuple J x1 pos) (tTup t):=by
 intro pn s Y H Q I d;refine wpAny_Tuple_spliced (thn (h pos pn s Y H _ I d) λus s1 ⟨E,H1,a,r,z,q⟩=>⟨by rw[<- r.length];exact z,?_⟩)
 have g:H1 s1.heap.objs.size=none:=a.hok.fresh (zaj _);refine⟨.ref s1.heap.objs.size,upd H1 s1.heap.objs.size (.tup E),a.laid (t':=s1.toks) (λb u e=>zac _ e) (zaj _) ?_,rfl,q _ g⟩;exact⟨z,us,r,⟨_,zad _ rfl,rfl,_,rfl⟩,_,zad _ rfl,rfl⟩
def Kr(h:PA X J t):PE X (.List J pos) (tLst t):=by
 intro pn s Y H Q I d;refine wpAny_List_spliced (thn (h pos pn s Y H _ I d) λus s1 ⟨E,H1,a,r,z,q⟩=>⟨by rw[<- r.length];exact z,?_⟩)
 have g:H1 s1.heap.objs.size=none:=a.hok.fresh (zaj _);refine⟨.ref s1.heap.objs.size,upd H1 s1.heap.objs.size (.lst E),a.laid (t':=s1.toks) (λb u e=>zac _ e) (zaj _) ?_,rfl,q _ g⟩;exact⟨z,us,0,r,zad _ rfl⟩
end
abbrev Sp:=List V->Hp->VK->XK->Prop
abbrev CXT:=List Env->Hp->Shared->XK->Value->Shared->Prop
structure Env0(P:Program)(w:World)(K:W.Frag)(mg:Str->Option Value)(base:Heap)(A:Around)(outer:List Env)(s:Shared)(H:Hp):Prop where
 frames:A.frames=some outer
 mod:Mod K mg base
 bs:∀b o,base.get? b=some o->s.heap.get? b=some o/\H b=none
 bsz:base.objs.size<=s.heap.objs.size
 funs:s.heap.FunFrames base outer
 frf:∀b∈frs outer,H b=none
 hok:HOk P w H s.heap
 bare:AllBare s.gens
def CE(outer:List Env)(P:Program)(w:World)(H:Hp)(s:Shared)(Q:VK)(u:Value)(s':Shared):Prop :=
 ∃v H',s'.os=s.os/\AllBare s'.gens/\Un (frs outer) [] H H' s.heap s'.heap/\HOk P w H' s'.heap/\RelV v u/\Q v H'
def CR(CX:CXT)(outer:List Env)(P:Program)(w:World)(H:Hp)(s:Shared)(Q:VK)(xs:XK)(r:Result)(s':Shared):Prop :=
 match r with
 |.ok (.ret u)=>CE outer P w H s Q u s'
 |.ok _=>False
 |.error e=>CX outer H s xs e s'
structure FnOk(P:Program)(w:World)(K:W.Frag)(mg:Str->Option Value)(base:Heap)(CX:CXT)(k:Nat)(f:Addr)(fd:FuncData)(ps:List Str)(sp:Sp):Prop where
 len:∀vs H Q xs,sp vs H Q xs->vs.length=ps.length
 run:∀(A:Around)(outer:List Env)(s:Shared)(H:Hp)(args:Args)(us:List Value)(vs:List V)(Q:VK)(xs:XK),Room k A->Env0 P w K mg base A outer s H->BindsTo s fd args (ps.zip us)->Vals vs us->sp vs H Q xs ->
  codeAny (model P w) A (.call (.ref f) args) (CR CX outer P w H s Q xs) s
def Env0.make{P:Program}{w:World}{K:W.Frag}{mg:Str->Option Value}{base:Heap}{A:Around}{outer:List Env}{s:Shared}{H:Hp}(e:Env0 P w K mg base A outer s H)(C:Addr)(us:List Value)(a:List (Str×Value)) :
  Env0 P w K mg base (A.under (.builtin "type.__call__" ⟨.ref C::us,a⟩)) outer s H:=⟨by first|exact e.frames|(simpa [Around.under,Code.envs,Code.isFrame,pushEnvs] using e.frames),e.mod,e.bs,e.bsz,e.funs,e.frf,e.hok,e.bare⟩
variable{s':Shared}
def Inv.env0(I:Inv X pn Y H s):Env0 X.prog X.w X.K X.mg X.base X.A X.stack s H :=
 ⟨I.ok.frames,I.ok.mod,I.bs,zak I.ok.bsz I.sz,I.stack,I.stkFree,I.hok,I.bare⟩
def Inv.after{Q:VK}(I:Inv X pn Y H s)(h:CE X.stack X.prog X.w H s Q u s'):EP X pn Y Q u s':=by
 obtain⟨v,H',os,a,un,j,r,q⟩:=h;obtain⟨k,g,d,t,e⟩:=s';obtain rfl:e=s.os:=os;exact⟨v,H',I.call (h':=k) (g':=g) (d':=d) (t':=t) (ch:=[]) un j a (λb z=>absurd z aE),r,q⟩
def D5(sp:Sp)(dvs:List V)(xs:XK)(t:TA):TE:=λY H Q=>t Y H λvs H1=>sp (vs++dvs) H1 Q xs
def Nj(C:Addr)(m:Str)(sp:Sp)(dvs:List V)(xs:XK)(ta:TE)(t:TA):TE:=λY H Q=>ta Y H λx H1=>∃a dx fs,x=.ref a/\H1 a=some (.ins C dx fs)/\fs.lookup m=none /\
 t Y H1 λvs H2=>sp (x::(vs++dvs)) H2 Q xs
def Zs(C:Addr)(sp:Sp)(dvs:List V)(xs:XK)(t:TA):TE:=λY H Q=>t Y H λvs H1=>∀x dx,H1 x=none->H1 dx=none->dx≠x ->
 sp (.ref x::(vs++dvs)) (upd (upd H1 dx (.own x)) x (.ins C dx [])) (λv H2=>v=.non/\Q (.ref x) H2) xs
def um(K:W.Frag)(fd:FuncData)(ps:List Str)(S:List Value):Prop :=
 ∀(s:Shared)(us:List Value),K.In s.heap->(us++S).length=ps.length->BindsTo s fd ⟨us,[]⟩ (ps.zip (us++S))
def um.all{K:W.Frag}{fd:FuncData}{ps:List Str}(h:∀ us:List Value,us.length=ps.length->bindArgs fd ⟨us,[]⟩=pure (ps.zip us)):um K fd ps []:=λs us _ hl=>by
 rw[zaX]at hl ⊢;exact .of_eq (h us hl)
def b5(CX:CXT)(X:Cx)(xs:XK):Prop:=∀(pn:List (Addr×Obj))(Y:St)(H:Hp)(s:Shared)(e:Value)(s':Shared),Inv X pn Y H s->CX X.stack H s xs e s'->X.xe e s'
section
variable{CX:CXT}{k:Nat}{f:Addr}{fd:FuncData}{ps:List Str}{sp:Sp}{dvs:List V}{S:List Value}{xs:XK}{x m:Str}{p pos apos:Pos}{e o:Expr}{J:List Expr}{ta:TE}{t:TA}
def Q6{Q:VK}(F:FnOk X.prog X.w X.K X.mg X.base CX k f fd ps sp)(hr:Room k X.A)(l:um X.K fd ps S)(j:Vals dvs S)(g:b5 CX X xs)(I:Inv X pn Y H s)(r:Vals vs us)(h:sp (vs++dvs) H Q xs):wpAny (model X.prog X.w) X.A (call (.ref f) us) (EP X pn Y Q) X.xe s:=by
 have d:Vals (vs++dvs) (us++S):=r.append j;have hl:(us++S).length=ps.length:=by rw[<- d.length];exact F.len _ _ _ _ h
 refine wpAny_call (codeAny_mono (F.run X.A X.stack s H ⟨us,[]⟩ (us++S) (vs++dvs) Q xs hr I.env0 (l s us I.kIn hl) d h) λr s' a=>?_);cases r with
 |error e=>exact g pn Y H s e s' I a
 |ok fl =>
  cases fl with
  |ret u=>exact I.after a
  |next=>exact False.elim a
  |brk=>exact False.elim a
  |cont=>exact False.elim a
def V1(F:FnOk X.prog X.w X.K X.mg X.base CX k f fd ps sp)(hr:Room k X.A)(v:Gl X x)(l:X.mg x=some (.ref f))(u:W.keepIn X.K (.ref f)=true)(B:um X.K fd ps S)(z:Vals dvs S)(j:b5 CX X xs)(D:PA X (e::J) t)(d:autoParam (D_ x) zSd)(y:autoParam (S_ X e J) zSr)(a:autoParam (B_ X J pos) zSr) :
  PE X (.Call (.Name x p) (e::J) [] pos) (D5 sp dvs xs t):=by
 intro pn s Y H Q I h;refine zcL (V5 I v l ?_ d);refine W.callWith_K (h₀:=X.base) I.ok.mod.kin u (thn (D pos pn s Y H _ I h) λus s1 ⟨vs,H1,g,r,q⟩=>⟨g.kIn,?_⟩) y a;exact Q6 F hr B z j g r q
def Qt{pl:Sem Bool}(L:PE X o ta)(c:Cls X.K C)(v:Meth X.K C m f)(F:FnOk X.prog X.w X.K X.mg X.base CX k f fd ps sp)(hr:Room k X.A)(O:um X.K fd ps S)(N:Vals dvs S)(G:b5 CX X xs)(R:PA X (e::J) t)(d:autoParam (S_ X e J) zSr)(g:autoParam (B_ X J pos) zSr)(es:autoParam (eval (.Call (.Attribute o m apos) (e::J) [] pos) X.env=(do
   let j <- eval o X.env
   standAt apos.atName
   let (f,first) <- holding [j] (getMethod j m pl)
   callWith pos f first (backTo pos (starEach (e::J) X.env)) (backToKw pos (keywordEach [] X.env)))) zSr) :
  PE X (.Call (.Attribute o m apos) (e::J) [] pos) (Nj C m sp dvs xs ta t):=by
 intro pn s Y H Q I h;refine W.methodCall_KW (pl:=pl) (thn (L pn s Y H _ I h) λu s1 Zh=>?_) es;obtain⟨x,H1,z,B,a,dx,fs,ex,V,l,q⟩:=Zh;subst ex;obtain rfl:u=Value.ref a:=B;refine Zg z V c v l ?_;refine W.callWith_K (first:=[.ref a]) (h₀:=X.base) I.ok.mod.kin v.kp (thn (R pos pn s1 Y H1 _ z q) λus s2 ⟨vs,H2,y,r,D⟩=>⟨y.kIn,?_⟩) d g
 exact Q6 (us:=.ref a::us) (vs:=.ref a::vs) F hr O N G y (.cons rfl r) D
def Um{pl:Sem Bool}(y:PE X o ta)(c:Cls X.K C)(g:Meth X.K C m f)(F:FnOk X.prog X.w X.K X.mg X.base CX k f fd ps sp)(hr:Room k X.A)(B:um X.K fd ps S)(z:Vals dvs S)(r:b5 CX X xs)(v:autoParam (eval (.Call (.Attribute o m apos) [] [] pos) X.env=(do
   let e <- eval o X.env
   standAt apos.atName
   let (f,first) <- holding [e] (getMethod e m pl)
   callWith pos f first (backTo pos (starEach [] X.env)) (backToKw pos (keywordEach [] X.env)))) zSr) :
  PE X (.Call (.Attribute o m apos) [] [] pos) (Nj C m sp dvs xs ta tNil):=by
 intro pn s Y H Q I h;refine W.methodCall_KW (pl:=pl) (thn (y pn s Y H _ I h) λu s1 Zh=>?_) v;obtain⟨x,H1,d,j,a,dx,fs,ex,D,l,q⟩:=Zh;subst ex;obtain rfl:u=Value.ref a:=j;refine Zg d D c g l ?_;exact W.callWith_K0 (first:=[.ref a]) d.kIn g.kp (Q6 (us:=[.ref a]) (vs:=[.ref a]) F hr B z r d (.cons rfl .nil) q)
structure Mk(K:W.Frag)(C f:Addr):Prop where
 makes:W.makesIn K C=true
 init:W.findIn K (.ref C) "__init__" = some (some (.ref f))
 fn:W.isFn K (.ref f)=true
 kp:W.keepIn K (.ref C)=true
def Nu{Q:VK}(M:Mk X.K C f)(F:FnOk X.prog X.w X.K X.mg X.base CX k f fd ps sp)(hr:Room (k+1) X.A)(B:um X.K fd ps S)(z:Vals dvs S)(y:b5 CX X xs)(I:Inv X pn Y H s)(r:Vals vs us)(h:∀ x dx,H x=none->H dx=none->dx≠x->sp (.ref x::(vs++dvs)) (upd (upd H dx (.own x)) x (.ins C dx [])) (λv H2=>v=.non/\Q (.ref x) H2) xs) :
  wpAny (model X.prog X.w) X.A (call (.ref C) us) (EP X pn Y Q) X.xe s:=by
 have j:=h (s.heap.objs.size+1) s.heap.objs.size (I.hok.fresh (Nat.le_succ _)) (I.hok.fresh (zaj _)) (zaT (zbY _));have d:=Inv.made (C:=C) I;have g:Vals (V.ref (s.heap.objs.size+1)::(vs++dvs)) (Value.ref (s.heap.objs.size+1)::(us++S)):=.cons rfl (r.append z);have hl:(Value.ref (s.heap.objs.size+1)::us++S).length=ps.length:=by
  have e:=g.length;rw[F.len _ _ _ _ j]at e;exact e.symm
 refine wpAny_call (Mq (f:=f) I.kIn M.makes M.init (beq_iff_eq.mp M.fn) (codeAny_mono (F.run _ X.stack _ _ ⟨Value.ref (s.heap.objs.size+1)::us,[]⟩ (Value.ref (s.heap.objs.size+1)::(us++S)) _ _ xs (hr.make C us [])
  (d.env0.make C us []) (B _ (Value.ref (s.heap.objs.size+1)::us) d.kIn hl) g j) λr s' a=>?_))
 cases r with
 |error e=>exact y pn Y _ _ e s' d a
 |ok fl =>
  cases fl with
  |ret u =>
   obtain⟨v,H',G,l,D,q⟩:=d.after a;subst D;exact⟨l,⟨V.ref (s.heap.objs.size+1),H',G,rfl,q⟩⟩
  |next=>exact False.elim a
  |brk=>exact False.elim a
  |cont=>exact False.elim a
def Gp(M:Mk X.K C f)(F:FnOk X.prog X.w X.K X.mg X.base CX k f fd ps sp)(hr:Room (k+1) X.A)(u:Gl X x)(l:X.mg x=some (.ref C))(z:um X.K fd ps S)(y:Vals dvs S)(j:b5 CX X xs)(B:PA X (e::J) t)(d:autoParam (D_ x) zSd)(v:autoParam (S_ X e J) zSr)(a:autoParam (B_ X J pos) zSr) :
  PE X (.Call (.Name x p) (e::J) [] pos) (Zs C sp dvs xs t):=by
 intro pn s Y H Q I h;refine zcL (V5 I u l ?_ d);refine W.callWith_K (h₀:=X.base) I.ok.mod.kin M.kp (thn (B pos pn s Y H _ I h) λus s1 ⟨vs,H1,g,r,q⟩=>⟨g.kIn,?_⟩) v a;exact Nu M F hr z y j g r q
end
structure zo(N P:List Str)(sc:Scope):Prop where
 kind:sc.kind=.function
 co:sc.isCoroutine=false
 gen:sc.isGenerator=false
 nd:N.Nodup
 pre:N.take P.length=P
 par:∀x∈P,sc.names.lookup x=some .local\/sc.names.lookup x=some .cell
 nofree:∀y∈sc.names,y.2≠.free
theorem Wh{a:Str->Option NameKind}{x:Str}:∀{binds:List (Str×Value)}{m:Str->Option Value},(∀v,(x,v)∉binds)->bindL a binds m x=m x
 |[],_,_=>rfl
 |(n,v)::r,m,h=>by
  unfold bindL;rw[Wh λw d=>h w (zal _ d)];split
  ·have:x≠n:=by rintro rfl;exact h v zao
   simp[this]
  rfl
theorem Wj{a:Str->Option NameKind}{x:Str}:∀{binds:List (Str×Value)}{m:Str->Option Value},(∀v,(x,v)∉binds)->bindC a binds m x=m x
 |[],_,_=>rfl
 |(n,v)::r,m,h=>by
  unfold bindC;rw[Wj λw d=>h w (zal _ d)];split
  ·rfl
  have:x≠n:=by rintro rfl;exact h v zao
  simp[this]
theorem Wi{a:Str->Option NameKind}{x:Str}{v:Value}:∀{P:List Str}{vs:List Value}{i:Nat}{m:Str->Option Value},P.Nodup->P[i]?=some x->vs[i]?=some v->a x=some .local ->
  bindL a (P.zip vs) m x=some v
 |[],_,_,_,_,h,_,_=>by simp at h
 |_::_,[],_,_,_,_,h,_=>by simp at h
 |p::P,w::vs,0,m,nd,h1,h2,hk=>by
  simp at h1 h2;subst h1;subst h2;show bindL a ((p,w)::P.zip vs) m p=_;unfold bindL;rw[Wh λv d=>(zaQ.mp nd).1 (zdY d).1,zaK hk];simp
 |p::P,w::vs,i+1,m,nd,h1,h2,hk=>by
  show bindL a ((p,w)::P.zip vs) m x=_;unfold bindL;exact Wi (i:=i) (zaQ.mp nd).2 (by simpa using h1) (by simpa using h2) hk
theorem Wk{a:Str->Option NameKind}{x:Str}{v:Value}:∀{P:List Str}{vs:List Value}{i:Nat}{m:Str->Option Value},P.Nodup->P[i]?=some x->vs[i]?=some v->a x≠some .local ->
  bindC a (P.zip vs) m x=some v
 |[],_,_,_,_,h,_,_=>by simp at h
 |_::_,[],_,_,_,_,h,_=>by simp at h
 |p::P,w::vs,0,m,nd,h1,h2,hk=>by
  simp at h1 h2;subst h1;subst h2;show bindC a ((p,w)::P.zip vs) m p=_;unfold bindC;rw[Wj λv d=>(zaQ.mp nd).1 (zdY d).1,zaJ hk];simp
 |p::P,w::vs,i+1,m,nd,h1,h2,hk=>by
  show bindC a ((p,w)::P.zip vs) m x=_;unfold bindC;exact Wk (i:=i) (zaQ.mp nd).2 (by simpa using h1) (by simpa using h2) hk
noncomputable def start(N:List Str)(vs:List V):St:=vs.map some++List.replicate (N.length-vs.length) none
noncomputable def cxOf(CX:CXT)(P:Program)(w:World)(K:W.Frag)(mg:Str->Option Value)(base:Heap)(N:List Str)(a:Str)(scope:Scope)(f:Addr)(g:Value)(A:Around)(outer:List Env)(s:Shared)(H:Hp)(xs:XK):Cx where
 prog:=P
 w:=w
 K:=K
 mg:=mg
 base:=base
 A:=A.deeper (envOfC a scope s.heap.objs.size f g)
 N:=N
 s₀:=s
 H_:=H
 env:=envOfC a scope s.heap.objs.size f g
 outer:=outer
 stack:=envOfC a scope s.heap.objs.size f g::outer
 ex:=[]
 calm:=true
 fn:=λ_=>true
 pn:=[]
 xe:=λe s'=>wpAny (model P w) (A.deeper (envOfC a scope s.heap.objs.size f g)) (leaving (envOfC a scope s.heap.objs.size f g) e) (λ_ d=>CX outer H s xs e d) (λj d=>CX outer H s xs j d) s'
def Tg{a:Scope}{n:Nat}{x:Str}(h:a.names.lookup x=some .cell):∃c,(cellsFrom n a.names []).lookup x=some c:=by
 have q:=W.cellsFrom_some a.names n [] (.inl h);exact Option.isSome_iff_exists.mp q
def Pp{CX:CXT}{P:Program}{w:World}{K:W.Frag}{mg:Str->Option Value}{base:Heap}{N ps:List Str}{d:Str}{scope:Scope}{f:Addr}{D:Value}{A:Around}{outer:List Env}{s s1:Shared}{H:Hp}{xs:XK}{us:List Value}{vs:List V}(ds:zo N ps scope)(L:A.handled=none)(e0:Env0 P w K mg base A outer s H)(hl:vs.length=ps.length)(r:Vals vs us)(x:InCallC s s.heap.objs.size (bindL (envOfC d scope s.heap.objs.size f D).kindOf (ps.zip us) λ_=>none) (cellsFrom (s.heap.objs.size+1) scope.names []) (bindC (envOfC d scope s.heap.objs.size f D).kindOf (ps.zip us) λ_=>none) s1) :
  Inv (cxOf CX P w K mg base N d scope f D A outer s H xs) [] (start N vs) H s1:=by
 have es:ps.length<=N.length:=by have:=zbP List.length ds.pre;rw[zaZ]at this;lia
 obtain⟨h1,tk,rfl,G⟩:=x.done;have g:∀b:Addr,b∉(cxOf CX P w K mg base N d scope f D A outer s H xs).ex:=λb z=>absurd (show b∈([]:List Addr) from z) aE
 refine⟨⟨e0.mod,ds.kind,rfl,rfl,zaj _,λy z c h1 h2=>?_,λy j=>?_,λy c _ h=>?_,λ_=>L,Around.frames_deeper e0.frames,.inr ⟨rfl,rfl⟩,λb z=>absurd z (g b),e0.bs,e0.bsz,λb _ _=>g b,λb z=>absurd z (g b),e0.funs,e0.frf⟩,
  rfl,e0.bare,Un.kept G,⟨_,x.toInCall.ns,λi y v h1 h2 Q=>?_⟩,λy c h=>⟨_,x.cell y c h⟩,e0.hok.fresh (zaj _),λy c h=>?_,λp B=>absurd (show p∈([]:List (Addr×Obj)) from B) aE,e0.hok.kept G,?_⟩
 ·exact name_of_addr x.apart (zcI h1) (zcI h2)
 ·have j:scope.names.lookup y=some .cell\/scope.names.lookup y=some .free:=j;rcases j with j|j
  ·exact Tg j
  exact absurd rfl (ds.nofree _ (zcI j))
 ·exact Nat.le_of_lt (x.above y c (zcI h))
 ·have hi:i<vs.length:=by
   unfold start at h2;by_cases hi:i<vs.length
   ·exact hi
   rw[zaC (by simpa using hi)]at h2
   rw[zcA]at h2;split at h2 <;> cases h2
  have O:vs[i]?=some v:=by
   unfold start at h2;rw[zaG (by simpa using hi),zai]at h2
   cases e:vs[i]? with
   |none=>rw[e]at h2;cases h2
   |some a=>rw[e]at h2;cases h2;rfl
  obtain⟨u,hu,I⟩:=r.get O;have B:ps[i]?=some y:=by
   rw[<- ds.pre,List.getElem?_take_of_lt aD];exact h1
  have l:ps.Nodup:=by rw[<- ds.pre];exact ds.nd.sublist (zeC _ _)
  refine⟨u,I,?_⟩;rcases ds.par y (zan B) with k|k
  ·exact .inl ⟨k,Wi l B hu k⟩
  obtain⟨c,e⟩:=Tg (n:=s.heap.objs.size+1) k;refine .inr ⟨.inl k,c,e,?_⟩;have q:=x.cell y c e;rw[Wk l B hu (by show scope.names.lookup y≠_;rw[k];decide)]at q
  exact q
 ·exact e0.hok.fresh (Nat.le_of_lt (x.above y c (zcI h)))
 unfold start;show _=N.length;rw[zLa,zLm,zbU];lia
def Bz{K:W.Frag}{mg:Str->Option Value}{k:Nat}{f:Addr}{R kV z O qZ Y oc:Value}{an od:Option Addr}{D:Array (Option Value)}{sp:Sp}(lk:K.lookup f=some ⟨oc,od,.func (W.fnOf name qual params body scope R kV z O an qZ Y),D⟩)(L:W.codeIn K qZ qual=true)(ds:zo N ps scope)(len:∀ vs H Q xs,sp vs H Q xs->vs.length=ps.length)(qY:∀ (A:Around) (outer:List Env) (s:Shared) (H:Hp) (vs:List V) (Q:VK) (xs:XK),Room k (A.deeper (envOfC qual scope s.heap.objs.size f qZ))->sp vs H Q xs ->
   ∃ t,PSs (cxOf CX P w K mg base N qual scope f qZ A outer s H xs) body t/\t {nx:=λ_ H'=>Q .non H',rt:=Q} (start N vs) H) :
  FnOk P w K mg base CX (k+1) f (W.fnOf name qual params body scope R kV z O an qZ Y) ps sp:=by
 refine⟨len,λA outer s H Z us vs Q xs hr e0 hb r j=>?_⟩;have hl:=len _ _ _ _ j;have KX:K.In s.heap:=e0.mod.kin.keeps λb o e=>(e0.bs b o e).1;have G:s.heap.NoLimit:=e0.mod.nolimit.keeps λb o e=>(e0.bs b o e).1;have d:∀y∈ps.zip us,scope.names.lookup y.1=some .local\/(scope.names.lookup y.1=some .cell/\((cellsFrom (s.heap.objs.size+1) scope.names []).lookup y.1).isSome=true):=λ⟨n,v⟩ hy=>by
  rcases ds.par n (zdY hy).1 with q|q
  ·exact .inl q
  exact .inr ⟨q,W.cellsFrom_some _ _ _ (.inl q)⟩
 refine codeAny_call_function hr.depth (KX _ _ lk) rfl ds.co ds.gen rfl (W.codeRec_of KX L) (hb _ _ _ _ ?_);refine wpAny_newFunctionEnv_cells ds.kind d λenv he s1 x=>?_;subst he;refine⟨G.keeps x.toInCall.keep,codeAny_func ?_⟩;obtain⟨t,ht,hq⟩:=qY A outer s H vs Q xs (hr.deeper _) j;have I:Inv (cxOf CX P w K mg base N qual scope f qZ A outer s H xs) [] (start N vs) H s1:=Pp ds hr.hd e0 hl r x;refine wpAny_mono (ht [] s1 (start N vs) H _ I hq) (λfl s' g=>?_) λe s' g=>g;have l:∀{a:St}{H':Hp}{v:V}{u:Value},Inv (cxOf CX P w K mg base N qual scope f qZ A outer s H xs) [] a H' s'->RelV v u->Q v H'->CE outer P w H s Q u s' :=
  λ{a H' v u} es B q=>⟨v,H',es.os,es.bare,es.base,es.hok,B,q⟩
 cases fl with
 |ret u =>
  obtain⟨v,a,H',es,B,q⟩:=g;exact l es B q
 |next =>
  obtain⟨a,H',es,q⟩:=g;exact l (v:=V.non) (u:=Value.none) es rfl q
 |brk =>
  obtain⟨_,_,_,q⟩:=g;exact False.elim q
 |cont =>
  obtain⟨_,_,_,q⟩:=g;exact False.elim q
section
variable{x:Str}{p pos:Pos}{e:Expr}{J:List Expr}{t:TA}{id T:String}{r:List V->Hp->VK->Prop}
def tCB(r:List V->Hp->VK->Prop)(t:TA):TE:=λY H Q=>t Y H λvs H1=>r vs H1 Q
def Y5(y:t8 X (.builtin id) r)(u:Gl X x)(q:X.mg x=none)(k:bootBuiltins x=some (.builtin id))(z:PA X (e::J) t)(l:autoParam (x≠"__name__") zSd)(d:autoParam (D_ x) zSd)(v:autoParam (S_ X e J) zSr)(a:autoParam (B_ X J pos) zSr):PE X (.Call (.Name x p) (e::J) [] pos) (tCB r t):=by
 intro pn s Y H Q I h;refine zcL (jc I u q k ?_ l d);exact PyProof.Rows.callWith_builtin1 (thn (z pos pn s Y H _ I h) λus s1 ⟨vs,H1,B,g,j⟩=>y pn s1 Y H1 vs us Q B g j) v a
def Qv(y:t8 X (.type T) r)(u:Gl X x)(q:X.mg x=none)(k:bootBuiltins x=some (.type T))(z:PA X (e::J) t)(l:autoParam (x≠"__name__") zSd)(d:autoParam (D_ x) zSd)(v:autoParam (S_ X e J) zSr)(a:autoParam (B_ X J pos) zSr):PE X (.Call (.Name x p) (e::J) [] pos) (tCB r t):=by
 intro pn s Y H Q I h;refine zcL (jc I u q k ?_ l d);exact zbL (thn (z pos pn s Y H _ I h) λus s1 ⟨vs,H1,B,g,j⟩=>y pn s1 Y H1 vs us Q B g j) v a
end
section
open PySem.SeqAt
open PySem.AutoSeq1 (wpAny_loadPart')
open PySem.MeetsSeq PySem.MeetsSeq2 PySem.MeetsSeq3
end
def cat_tup{t b:Addr}(z:IsTup s.heap t vs.toArray)(B:IsTup s.heap b ws.toArray)(u:vs≠[])(h1:ws=[]->Q (.ref t) s)(h2:ws≠[]->Q (.ref s.heap.objs.size) {s with heap:=s.heap.push {cls:=.type "tuple",data:=.seq (vs++ws).toArray}})(hsz:vs.length+ws.length<=sizeLine):wpAny (model prog w) A (binaryOp .Add (.ref t) (.ref b)) Q xs s:=by
 obtain⟨⟨cls,dd,data,q⟩,ho,x,n,v⟩:=id z;obtain⟨⟨y,k,l,d⟩,a,j,r,g⟩:=id B;simp only at x v j g;subst x v j g;have e:vs.toArray++ws.toArray=(vs++ws).toArray:=by simp
 by_cases hw:ws=[]
 ·exact concat_meets ⟨_,ho,rfl⟩ ⟨_,a,rfl⟩ noFill_tuple_add seq_tuple_add zeZ zeP (zeL _ _)
   (tuple_addW1 t b vs.toArray ws.toArray n r dd k q d (by simpa using u) (by simp[hw])) ⟨ho,a,h1 hw⟩
 refine concat_meets ⟨_,ho,rfl⟩ ⟨_,a,rfl⟩ noFill_tuple_add seq_tuple_add zeZ zeP (zeL _ _)
  (tuple_addW2 t b vs.toArray ws.toArray n r dd k q d (by simpa using u) (by simpa using hw) (by rw[zap,zap];exact hsz)) ⟨ho,a,?_⟩
 rw[e];exact h2 hw
noncomputable def sIx(n d:Nat):Option Int->Nat
 |none=>d
 |some v=>if v<0 then(v+(n:Int)).toNat else min v.toNat n
def sIx_none(n d:Nat):sIx n d none=d:=rfl
def sIx_nat(n d k:Nat):sIx n d (some (k:Int))=min k n:=by
 show(if (k:Int)<0 then((k:Int)+(n:Int)).toNat else min (k:Int).toNat n)=min k n
 rw[zaJ aD,zbD]
def De(n d:Nat)(a:d<=n)(o:Option Int):sIx n d o<=n:=by
 cases o with
 |none=>exact a
 |some v =>
  show(if v<0 then(v+(n:Int)).toNat else min v.toNat n)<=n
  by_cases hv:v<0
  ·rw[zaK hv];lia
  rw[zaJ hv];exact Nat.min_le_right _ _
def Oz(v:Int)(n d:Nat):(if v<0 then max (v+(n:Int)) 0 else min v (n:Int))=((sIx n d (some v):Nat):Int):=by
 show(if v<0 then max (v+(n:Int)) 0 else min v (n:Int))=(((if v<0 then(v+(n:Int)).toNat else min v.toNat n):Nat):Int)
 by_cases hv:v<0
 ·simp only[zaK hv];lia
 simp only[zaJ hv];lia
def Rb(lo hi:Option Int)(n:Nat):Builtin.Slice.sliceAdjust lo hi 1 (n:Int)=(((sIx n 0 lo:Nat):Int),((sIx n n hi:Nat):Int)):=by
 have h1:¬ ((1:Int)<0):=by lia
 unfold Builtin.Slice.sliceAdjust;simp only[h1,zfW];refine Prod.ext ?_ ?_
 ·cases lo with
  |none=>rfl
  |some v=>exact Oz v n 0
 cases hi with
 |none=>rfl
 |some v=>exact Oz v n n
def Tz(i j:Nat):Builtin.Slice.slicePlaces (i:Int) (j:Int) 1=j-i:=by
 unfold Builtin.Slice.slicePlaces;have h1:(1:Int) > 0:=by lia
 simp only[h1,if_true,Int.ediv_one];split <;> lia
def bz{v:Value}{o:Option Int}{Q:Option Int->Shared->Prop}(p:IsPart v o)(h:Q o s):wpAny (model prog w) A (Builtin.Slice.slicePartIndex v) Q xs s:=by
 cases p with
 |none=>exact slicePart_none h
 |int i t=>exact slicePart_int h
def sn{j:Addr}{g e:Value}{lo hi:Option Int}{n:Nat}{Q:Int×Int×Nat->Shared->Prop}(l:s.heap.IsSliceOf j g e .none)(pl:IsPart g lo)(k:IsPart e hi)(h:Q (((sIx n 0 lo:Nat):Int),1,sIx n n hi-sIx n 0 lo) s):wpAny (model prog w) A (Builtin.Slice.sliceApplied (.ref j) (pure (n:Int))) Q xs s:=by
 obtain⟨r,a,q,d⟩:=id l;unfold Builtin.Slice.sliceApplied Builtin.Slice.sliceFields;refine zaa (zaa (zbB a d (x:=g) rfl (zaa (zbB a d (x:=e) rfl (zaa (zbB a d (x:=.none) rfl (zab ?_)))))));refine zaa (slicePart_none ?_);show wpAny _ _ (if ((1:Int)==0)=true then _ else _) _ _ s
 rw[zaJ aB]
 refine zaa (bz pl (zaa (bz k (zaa (zab ?_)))));show wpAny _ _ (match Builtin.Slice.sliceAdjust lo hi 1 (n:Int) with|(lo,hi)=>pure (lo,(1:Int),Builtin.Slice.slicePlaces lo hi 1)) _ _ s
 rw[Rb lo hi n];show wpAny _ _ (pure (((sIx n 0 lo:Nat):Int),(1:Int),Builtin.Slice.slicePlaces ((sIx n 0 lo:Nat):Int) ((sIx n n hi:Nat):Int) 1)) _ _ s;rw[Tz];exact zab h
def Me(E:Array Value)(i k:Nat):((List.range k).filterMap λ(m:Nat)=>E[((i:Int)+(m:Int)*1).toNat]?).toArray=((E.toList.drop i).take k).toArray:=by
 have e:(λ(m:Nat)=>E[((i:Int)+(m:Int)*1).toNat]?)=λm=>E[i+m]?:=by
  funext m
  have:((i:Int)+(m:Int)*1).toNat=i+m:=by lia
  rw[this]
 rw[e];have:=pick_run E i k;rw[zdV]at this;have e2:((λx=>E[x]?) ∘ λx=>i+x)=λm=>E[i+m]?:=rfl;rw[e2]at this;rw[this]
def getItem_tuple_cut{t e:Addr}{items:Array Value}{u r:Value}{lo hi:Option Int}{Q:Value->Shared->Prop}(d:IsTup s.heap t items)(v:s.heap.IsSliceOf e u r .none)(pl:IsPart u lo)(x:IsPart r hi)(z:¬ (sIx items.size 0 lo=0/\sIx items.size items.size hi=items.size))(h:Q (.ref s.heap.objs.size) {s with heap:=s.heap.push {cls:=.type "tuple",data:=.seq ((items.toList.drop (sIx items.size 0 lo)).take (sIx items.size items.size hi-sIx items.size 0 lo)).toArray}})(hsz:items.size<=sizeLine):wpAny (model prog w) A (getItem (.ref t) (.ref e)) Q xs s:=by
 have a:sizeOk (.seq ((items.toList.drop (sIx items.size 0 lo)).take (sIx items.size items.size hi-sIx items.size 0 lo)).toArray):=by
  show((items.toList.drop (sIx items.size 0 lo)).take (sIx items.size items.size hi-sIx items.size 0 lo)).toArray.size<=sizeLine;rw[zap,zaZ,zcE,zeJ];omega
 have I:sIx items.size items.size hi<=items.size:=De _ _ (zaj _) hi;obtain⟨y,g,k,B⟩:=id v;have l:s.TypeIs (.ref e) "slice":=⟨y,g,k⟩;unfold getItem
 try with_reducible refine zbF ?_
 first|refine zaa (zab ?_)|skip
 refine zaa (wpAny_sequenceKey d.typeIs aB ?_)
 refine zaa (zbC (name:=Str.ofString "__getitem__") d.typeIs zcS
  (zbK zcS d.typeIs entry_tuple_getitem ?_ (args_tuple_getitem _ _)))
 show wpAny _ _ (Builtin.Tuple.tupleItemsOf (.ref t) >>= _) _ _ s;refine zaa (tupleItemsOf_ d ?_);refine zaa (zeM l ?_);rw[zaK aB]
 refine zaa (sn v pl x ?_);have j:¬ ((((sIx items.size 0 lo:Nat):Int)==0&&(1:Int)==1&&(sIx items.size items.size hi-sIx items.size 0 lo)==items.size)=true):=by
  intro q;rw[zcF,zcF]at q;have G:((sIx items.size 0 lo:Nat):Int)=0:=eq_of_beq q.1.1;have D:sIx items.size items.size hi-sIx items.size 0 lo=items.size:=eq_of_beq q.2;exact z ⟨by omega,by omega⟩
 show wpAny _ _ (if (((sIx items.size 0 lo:Nat):Int)==0&&(1:Int)==1&&(sIx items.size items.size hi-sIx items.size 0 lo)==items.size)=true then _ else _) _ _ s
 rw[zaJ j,Me]
 first
  |exact zaa (m:=Builtin.Tuple.tupleExact _) (zbR (zab ⟨_,rfl,zab h⟩) a)
  |exact zaa (m:=Builtin.Tuple.tupleExact _) (zbR (zaa (zab (zab ⟨_,rfl,zab h⟩))) a)
  |exact zaa (zaa (m:=Builtin.Tuple.tupleExact _) (zbR (zab (zab ⟨_,rfl,zab h⟩)) a))
  |exact zaa (zaa (m:=Builtin.Tuple.tupleExact _) (zbR (zab ⟨_,rfl,zab h⟩) a))
abbrev TO:=St->Hp->(Option Int->Hp->Prop)->Prop
def PO(X:Cx)(e:Option Expr)(t:TO):Prop :=
 ∀(pn:List (Addr×Obj))(s:Shared)(Y:St)(H:Hp)(Q:Option Int->Hp->Prop),Inv X pn Y H s->t Y H Q ->
  wpAny (model X.prog X.w) X.A (evalPart e X.env) (λu s'=>∃o H',Inv X pn Y H' s'/\IsPart u o/\Q o H') X.xe s
def Hi:TO:=λ_ H Q=>Q none H
def z0j(t:TE):TO:=λY H Q=>t Y H λx H1=>∃i,x=.int i/\Q (some i) H1
section
variable{e:Expr}{te:TE}{lo hi:Option Expr}{tl th:TO}{pos p2:Pos}
def Gh:PO X none Hi:=by
 intro pn s Y H Q I h;rw[evalPart_none];exact zab ⟨none,H,I,.none,h⟩
def Gg(h:PE X e te):PO X (some e) (z0j te):=by
 intro pn s Y H Q I g;rw[evalPart_some];refine thn (h pn s Y H _ I g) λu s1 Zh=>?_;obtain⟨x,H1,j,a,d⟩:=Zh;obtain⟨i,rfl,q⟩:=d;obtain⟨t,rfl⟩:=a;exact⟨some i,H1,j,.int i t,q⟩
def SlR(X:Cx)(r:V->Option Int->Option Int->Hp->VK->Prop):Prop :=
 ∀(pn:List (Addr×Obj))(s:Shared)(Y:St)(H:Hp)(x:V)(v vl vu:Value)(lo hi:Option Int)(sl:Addr)(Q:VK),Inv X pn Y H s->RelV x v->s.heap.IsSliceOf sl vl vu .none->IsPart vl lo->IsPart vu hi->r x lo hi H Q ->
  ∃T id,typeLookup (.type T) "__getitem__" = pure (some (.builtin id))/\s.TypeIs v T/\wpAny (model X.prog X.w) X.A (getItem v (.ref sl)) (EP X pn Y Q) X.xe s
def SlR.or(h:SlR X r)(h':SlR X r'):SlR X (λx lo hi H Q=>r x lo hi H Q\/r' x lo hi H Q):=by
 intro pn s Y H x v d a lo hi e Q I g k pl j q;rcases q with q|q
 ·exact h pn s Y H x v d a lo hi e Q I g k pl j q
 exact h' pn s Y H x v d a lo hi e Q I g k pl j q
def tSl(r:V->Option Int->Option Int->Hp->VK->Prop)(te:TE)(tl th:TO):TE:=λY H Q=>te Y H λx H1=>tl Y H1 λl H2=>th Y H2 λu a=>r x l u a Q
def Ul{r:V->Option Int->Option Int->Hp->VK->Prop}(hr:SlR X r)(L:PE X e te)(hl:PO X lo tl)(hu:PO X hi th):PE X (.Subscript e (.Slice lo hi none p2) pos) (tSl r te tl th):=by
 intro pn s Y H Q I h;refine Subscript_ (thn (L pn s Y H _ I h) λv s1 Zh=>?_);obtain⟨x,H1,W,k,B⟩:=Zh;refine wpAny_Slice (thn (hl pn s1 Y H1 _ W B) λg s2 ⟨l,H2,R,pl,z⟩=>thn (hu pn s2 Y H2 _ R z) λd a Zh=>?_);obtain⟨u,j,O,D,y⟩:=Zh;rw[evalPart_none];refine zab ?_;have N:Inv X pn Y j {a with heap:=a.heap.push {cls:=.type "slice",data:=.fields #[g,d,.none]}}:=O.kept (t':=a.toks) λb Z q=>zac _ q;obtain⟨T,id,hT,G,es⟩:=hr pn {a with heap:=a.heap.push {cls:=.type "slice",data:=.fields #[g,d,.none]}} Y j x v g d l u a.heap.objs.size Q N k (Heap.IsSliceOf.new ..) pl D y;show wpAny (model X.prog X.w) X.A (subscriptTail e (.Slice lo hi none p2) v (.ref a.heap.objs.size)) (EP X pn Y Q) X.xe {a with heap:=a.heap.push {cls:=.type "slice",data:=.fields #[g,d,.none]}};exact tail_any (ops:=[.ref a.heap.objs.size,v]) G hT es (by with_unfolding_all rfl)
noncomputable def cutV(E:List V)(lo hi:Option Int):List V:=(E.drop (ZZ.sIx E.length 0 lo)).take (ZZ.sIx E.length E.length hi-ZZ.sIx E.length 0 lo)
def cu(E:List V)(lo hi:Option Int):(cutV E lo hi).length<=E.length:=by
 unfold cutV;rw[zaZ,zcE];lia
def rSlT(K:W.Frag):V->Option Int->Option Int->Hp->VK->Prop:=λx lo hi H Q=>∃a E,x=.ref a/\SqT K H a E /\
 ¬ (ZZ.sIx E.length 0 lo=0/\ZZ.sIx E.length E.length hi=E.length)/\∀p,H p=none->Q (.ref p) (upd H p (.tup (cutV E lo hi)))
def Kl:SlR X (rSlT X.K):=by
 intro pn s Y H x v B z lo hi D Q I j y pl k h;obtain⟨a,E,rfl,l,u,q⟩:=h;cases j;obtain⟨its,r,g,e⟩:=I.tuple l;have d:its.toArray.size=E.length:=by rw[zap];exact r.length.symm
 refine⟨"tuple",_,PyProof.Rows.slot_tuple_getitem.lookup,g.typeIs,?_⟩;refine ZZ.getItem_tuple_cut g y pl k (by rw[d];exact u) ?_ (by rw[d];exact e)
 rw[d];refine⟨.ref s.heap.objs.size,_,I.laid (t':=s.toks) (o:=.tup (cutV E lo hi)) (λb G q=>zac _ q) (zaj _) ?_,rfl,q _ (I.hok.fresh (zaj _))⟩;exact⟨zak (cu E lo hi) e,_,(r.drop (ZZ.sIx E.length 0 lo)).take (ZZ.sIx E.length E.length hi-ZZ.sIx E.length 0 lo),IsTup.new _ _,_,zad _ rfl,rfl⟩
def Dq(K:W.Frag):R2:=λx y H Q=>∃a b E ys,x=.ref a/\y=.ref b/\SqT K H a E/\SqT K H b ys/\E≠[]/\E.length+ys.length<=sizeLine /\
 (ys=[]->Q (.ref a) H)/\(ys≠[]->∀p,H p=none->Q (.ref p) (upd H p (.tup (E++ys))))
def Vals.nil_iff(r:Vals E us):us=[] ↔ E=[]:=by
 cases r with
 |nil=>simp
 |cons _ _=>simp
def P3:OpR X (binaryOp .Add) (Dq X.K):=by
 intro pn s Y H x y v u Q I l k h;obtain⟨a,b,E,ys,rfl,rfl,L,es,G,j,B,r⟩:=h;cases l;cases k;obtain⟨its,e,D,_⟩:=I.tuple L;obtain⟨g,d,p2,_⟩:=I.tuple es;refine ZZ.cat_tup D p2 (λz=>G (e.nil_iff.mp z)) (λz=>⟨.ref a,H,I,rfl,B (d.nil_iff.mp z)⟩) (λz=>?_) (by rw[<- e.length,<- d.length];exact j)
 refine⟨.ref s.heap.objs.size,_,I.laid (t':=s.toks) (o:=.tup (E++ys)) (λb N q=>zac _ q) (zaj _) ?_,rfl,r (λw=>z (d.nil_iff.mpr w)) _ (I.hok.fresh (zaj _))⟩;exact⟨by rw[zLa];exact j,_,e.append d,IsTup.new _ _,_,zad _ rfl,rfl⟩
end
noncomputable def ixN(n:Nat)(i:Int):Option Nat:=if 0<=i then(if i<n then some i.toNat else none) else if -(n:Int)<=i then some (i+n).toNat else none
noncomputable def atI{α:Type}(E:List α)(i:Int):Option α:=(ixN E.length i).bind λj=>E[j]?
def V8(h:ixN n i=some j):seqIndex? i n=some j/\j<n/\-(n:Int)<=i/\i<n:=by
 unfold ixN at h;by_cases h0:0<=i
 ·rw[zaK h0]at h;by_cases h1:i<n
  ·rw[zaK h1]at h;have e:i.toNat=j:=zaM h;exact⟨by rw[seqIndex_of h0 h1,e],by lia,by lia,h1⟩
  rw[zaJ h1]at h;cases h
 rw[zaJ h0]at h;by_cases h1:-(n:Int)<=i
 ·rw[zaK h1]at h;have e:(i+n).toNat=j:=zaM h;exact⟨by rw[seqIndex_neg aD h1,e],by lia,h1,by lia⟩
 rw[zaJ h1]at h;cases h
def Vv{α:Type}{E:List α}{i:Int}{v:α}(h:atI E i=some v):∃j,seqIndex? i E.length=some j/\E[j]?=some v/\j<E.length/\-(E.length:Int)<=i/\i<E.length:=by
 unfold atI at h;cases e:ixN E.length i with
 |none=>rw[e]at h;cases h
 |some j =>
  rw[e]at h;obtain⟨h1,h2,d,a⟩:=V8 e;exact⟨j,h1,h,h2,d,a⟩
def Yw{α:Type}{E:List α}{j:Nat}{v:α}(h:E[j]?=some v):atI E (j:Int)=some v:=by
 have a:j<E.length:=(zag.mp h).1;have e:ixN E.length (j:Int)=some j:=by
  unfold ixN;rw[zaK aD,zaK aD];simp
 unfold atI;rw[e];exact h
def Ti{α:Type}(E:List α)(v:α):atI (E++[v]) (-1)=some v:=by
 have hl:(E++[v]).length=E.length+1:=by simp
 have e:ixN (E++[v]).length (-1)=some E.length:=by
  unfold ixN;rw[hl,zaJ aB,zaK aD]
  congr 1
  lia
 unfold atI;rw[e];show(E++[v])[E.length]?=some v;simp
def g9(b:Expr):Prop:=∀o i,subscripted b false o i=operate [o,i] (getItem o i)
def IxR(X:Cx)(r:R2):Prop :=
 ∀(value slice:Expr)(pn:List (Addr×Obj))(s:Shared)(Y:St)(H:Hp)(x y:V)(v u:Value)(Q:VK),Inv X pn Y H s->RelV x v->RelV y u->r x y H Q ->
  subscripted slice false v u=operate [v,u] (getItem v u)->wpAny (model X.prog X.w) X.A (subscriptTail value slice v u) (EP X pn Y Q) X.xe s
def MtR(X:Cx)(id:String)(r:V->List V->Hp->VK->Prop):Prop :=
 ∀(pn:List (Addr×Obj))(s:Shared)(Y:St)(H:Hp)(x:V)(E:List V)(v:Value)(us:List Value)(Q:VK),Inv X pn Y H s->RelV x v->Vals E us->r x E H Q ->
  wpAny (model X.prog X.w) X.A (call (.builtin id) (v::us)) (EP X pn Y Q) X.xe s
section
variable{a b:Expr}{ta tb:TE}{pos:Pos}
def IxR.or(h:IxR X r)(h':IxR X r'):IxR X (λx y H Q=>r x y H Q\/r' x y H Q):=by
 intro value a pn s Y H x y v u Q I e d q g;rcases q with q|q
 ·exact h value a pn s Y H x y v u Q I e d q g
 exact h' value a pn s Y H x y v u Q I e d q g
def db(hr:IxR X r)(k:PE X a ta)(j:PE X b tb)(g:g9 b):PE X (.Subscript a b pos) (tOp r ta tb):=by
 intro pn s Y H Q I h;exact Subscript_ (binT k j I h λv u s2 x y H2 l e d q=>hr a b pn s2 Y H2 x y v u Q l e d q (g _ _))
def rIxL(K:W.Frag):R2:=λx y H Q=>∃p E i v,x=.ref p/\y=.int i/\SqL K H p E/\atI E i=some v/\Q v H
def rIxT(K:W.Frag):R2:=λx y H Q=>∃p E i v,x=.ref p/\y=.int i/\SqT K H p E/\atI E i=some v/\Q v H
def rIxS:R2:=λx y H Q=>∃z i c,x=.str z/\y=.int i/\z.length<=sizeLine/\atI z.cps.toList i=some c/\Q (.str ⟨#[c]⟩) H
def sw:IxR X (rIxL X.K):=by
 intro value d pn s Y H x y v u Q I D B h k;obtain⟨p,E,i,z,rfl,rfl,G,es,q⟩:=h;cases D;obtain⟨t,rfl⟩:=B;obtain⟨its,r,pl,O⟩:=I.list G;obtain⟨j,h1,h2,V,N,L⟩:=Vv es;obtain⟨w,l,e⟩:=r.get h2;have hl:=r.length;have R:=kz;have a:EP X pn Y Q w s:=⟨z,H,I,e,q⟩;by_cases h0:0<=i
 ·have g:i.toNat=j:=by
   rw[seqIndex_of h0 L]at h1;exact zaM h1
  exact item_listR pl.isList h0 aD (by rw[g];simpa using l) a k
 have g:(i+(its.toArray.size:Int)).toNat=j:=by
  rw[seqIndex_neg aD N]at h1
  rw[zap,<- hl];exact zaM h1
 exact subscriptTail_builtinR (x:=w) pl.isList.typeIs slot_list_getitem.lookup
  (wpAny_getItem_list_neg (Q:=λr s'=>r=w/\EP X pn Y Q r s') pl.isList aD (by rw[zap] <;> lia) aD (by rw[g];simpa using l) ⟨rfl,a⟩) k
def Bi:IxR X (rIxT X.K):=by
 intro value a pn s Y H x y v u Q I k g h l;obtain⟨p,E,i,z,rfl,rfl,B,D,q⟩:=h;cases k;obtain⟨t,rfl⟩:=g;obtain⟨its,r,pl,es⟩:=I.tuple B;obtain⟨j,h1,h2,R,O,N⟩:=Vv D;obtain⟨w,G,d⟩:=r.get h2;have hl:=r.length;have L:=kz;have e:EP X pn Y Q w s:=⟨z,H,I,d,q⟩;exact subscriptTail_builtinR (x:=w) pl.typeIs slot_tuple_getitem.lookup
  (getItem_tuple (j:=j) (Q:=λr s'=>r=w/\EP X pn Y Q r s') pl aD aD (by rw[zap,<- hl];exact h1) (by simpa using G) ⟨rfl,e⟩) l
def Bj:IxR X rIxS:=by
 intro value a pn s Y H x y v u Q I e d h g;obtain⟨z,i,c,rfl,rfl,B,k,q⟩:=h;obtain⟨t,rfl⟩:=e;obtain⟨t',rfl⟩:=d;obtain⟨j,h1,h2,G,r,l⟩:=Vv k;have hl:z.cps.toList.length=z.length:=by simp[Str.length]
 rw[hl]at h1 r l;have D:=kz;exact tail_any (typeIs_str s z t) slot_str_getitem.lookup (getItem_str (c:=c) (by
  have e1:decide (i < -(2 ^ 63:Int))=false:=zbQ aD
  have e2:decide (i ≥ 2 ^ 63)=false:=zbQ aD
  rw[e1,e2,Bool.or_false]) (by rw[h1];simpa using h2) ⟨.str ⟨#[c]⟩,H,I.tok _,⟨_,rfl⟩,q⟩) g
def rIx(K:W.Frag):R2:=λx y H Q=>rIxL K x y H Q\/rIxT K x y H Q\/rIxS x y H Q
def Jc:IxR X (rIx X.K):=sw.or (Bi.or Bj)
def Se(its:List Value)(n j:Nat)(u:Value):Obj.mapSeq (·.setIfInBounds j u) {cls:=.type "list",data:=.seq its.toArray n}={cls:=.type "list",data:=.seq (its.set j u).toArray n}:=by
 simp[Obj.mapSeq]
theorem Inv.lst(I:Inv X pn Y H s)(h:H p=some (.lst E)) :
  ∃(its:List Value)(n:Nat),Vals E its/\s.heap.get? p=some {cls:=.type "list",data:=.seq its.toArray n}/\E.length<=sizeLine:=by
 obtain⟨z,its,n,r,e⟩:=I.hok p _ h;exact⟨its,n,r,e,z⟩
def Inv.lstUpd{H:Hp}{its its':List Value}{n a:Nat}{f:Obj->Obj}(I:Inv X pn Y H s)(h:H p=some (.lst E))(ho:s.heap.get? p=some {cls:=.type "list",data:=.seq its.toArray n})(d:f {cls:=.type "list",data:=.seq its.toArray n}={cls:=.type "list",data:=.seq its'.toArray a})(r:Vals ys its')(g:ys.length<=sizeLine)(t:Nat) :
  Inv X pn Y (upd H p (.lst ys)) {s with heap:=s.heap.update p f,toks:=t}:=by
 have e:(s.heap.update p f).get? p=some {cls:=.type "list",data:=.seq its'.toArray a}:=by
  rw[zdZ f ho (by rw[d] <;> rfl),d]
 refine I.write (x:=p) (e:=p) (by rw[h];trivial) (.inl rfl) (λb u j q=>(Heap.get?_update_other _ _ (Ne.symm j)).trans q) ⟨_,e⟩ ?_
 exact⟨g,its',a,r,e⟩
def z0x:V->V->V->Hp->(Hp->Prop)->Prop:=λo i v H Q=>∃p E k j,o=.ref p/\i=.int k/\H p=some (.lst E)/\ixN E.length k=some j/\Q (upd H p (.lst (E.set j v)))
def Y0:PSet X z0x:=by
 intro pn s Y H o i v G es u Q I y z x h;obtain⟨p,E,k,j,rfl,rfl,d,D,q⟩:=h;cases y;obtain⟨t,rfl⟩:=z;obtain⟨its,n,r,ho,B⟩:=I.lst d;obtain⟨h1,h2,g,e⟩:=V8 D;have hl:=r.length;have L:=kz;have l:Inv X pn Y (upd H p (.lst (E.set j v))) {s with heap:=s.heap.update p (Obj.mapSeq (·.setIfInBounds j u))} :=
  I.lstUpd d ho (Se its n j u) (r.set x j) (by rw[zaY];exact B) s.toks
 by_cases h0:0<=k
 ·have a:k.toNat=j:=by
   rw[seqIndex_of h0 e]at h1;exact zaM h1
  exact W.ki_setAt ho h0 aD (by rw[zap,<- hl];exact e) (by rw[a];exact⟨_,l,q⟩)
 have a:(k+(its.toArray.size:Int)).toNat=j:=by
  rw[seqIndex_neg aD g]at h1
  rw[zap,<- hl];exact zaM h1
 exact W.ki_setBack ho aD (by rw[zap,<- hl];exact g) aD (by rw[a];exact⟨_,l,q⟩)
def X5(lo hi:Option Int)(n:Nat):(sliceBounds lo hi none n).1=((ZZ.sIx n 0 lo:Nat):Int)/\(sliceBounds lo hi none n).2.1=((ZZ.sIx n n hi:Nat):Int)/\(sliceBounds lo hi none n).2.2=1:=by
 refine⟨?_,?_,rfl⟩
 ·cases lo with
  |none=>simp[sliceBounds,ZZ.sIx]
  |some i =>
   simp only[sliceBounds,ZZ.sIx,Option.getD_none,show(1:Int) > 0 by decide,if_true]
   by_cases h:i<0
   ·simp only[h,if_true] <;> lia
   simp only[h,zfW] <;> lia
 cases hi with
 |none=>simp[sliceBounds,ZZ.sIx]
 |some i =>
  simp only[sliceBounds,ZZ.sIx,Option.getD_none,show(1:Int) > 0 by decide,if_true]
  by_cases h:i<0
  ·simp only[h,if_true] <;> lia
  simp only[h,zfW] <;> lia
def Zz(its:List Value)(lo hi:Option Int):slicePick its.toArray lo hi none=((its.drop (ZZ.sIx its.length 0 lo)).take (ZZ.sIx its.length its.length hi-ZZ.sIx its.length 0 lo)).toArray:=by
 obtain⟨h1,h2,a⟩:=X5 lo hi its.toArray.size;unfold slicePick;rw[h1,h2,a];simp only[sliceRange_one,pick_run,zap] <;> rfl
def rSlL(K:W.Frag):V->Option Int->Option Int->Hp->VK->Prop:=λx lo hi H Q=>∃a E,x=.ref a/\SqL K H a E/\∀p,H p=none->Q (.ref p) (upd H p (.lst (cutV E lo hi)))
def Ho:SlR X (rSlL X.K):=by
 intro pn s Y H x v z y lo hi B Q I g u pl j h;obtain⟨a,E,rfl,l,q⟩:=h;cases g;obtain⟨its,r,e,k⟩:=I.list l;have d:=r.length;refine⟨"list",_,slot_list_getitem.lookup,e.isList.typeIs,?_⟩;refine wpAny_getItem_list_slice e.isList u pl j .none aE ?_ (by rw[zap] <;> lia)
 rw[Zz,<- d];refine⟨.ref s.heap.objs.size,_,I.laid (t':=s.toks) (o:=.lst (cutV E lo hi)) (λb D q=>zac _ q) (zaj _) ?_,rfl,q _ (I.hok.fresh (zaj _))⟩;exact⟨zak (cu E lo hi) k,_,0,(r.drop (ZZ.sIx E.length 0 lo)).take (ZZ.sIx E.length E.length hi-ZZ.sIx E.length 0 lo),zad _ rfl⟩
noncomputable def ba:V->Bool
 |.non=>true
 |.bl _=>true
 |.int _=>true
 |.str _=>true
 |_=>false
noncomputable def eqV:V->V->Bool
 |.non,.non=>true
 |.bl a,.bl b=>a==b
 |.bl a,.int b=>(if a then 1 else 0)==b
 |.int a,.bl b=>a==(if b then 1 else 0)
 |.int a,.int b=>a==b
 |.str a,.str b=>a==b
 |_,_=>false
def Ab{y x:V}{u v:Value}(e:RelV y u)(d:RelV x v)(j:ba y=true)(g:ba x=true):SeqAt.EqAt A s u v (eqV y x):=by
 cases y with
 |non =>
  cases e
  cases x with
  |non=>cases d;exact SeqAt.EqAt.same _
  |bl b=>cases d;exact SeqAt.EqAt.none_bool b
  |int b=>obtain⟨t,rfl⟩:=d;exact SeqAt.EqAt.none_int b t
  |str b=>obtain⟨t,rfl⟩:=d;exact SeqAt.EqAt.none_str b t
  |_=>exact absurd (show false=true from g) zaU
 |bl a =>
  cases e
  cases x with
  |non=>cases d;exact SeqAt.EqAt.bool_none a
  |bl b=>cases d;exact SeqAt.EqAt.bool_bool a b
  |int b=>obtain⟨t,rfl⟩:=d;exact SeqAt.EqAt.bool_int a b t
  |str b=>obtain⟨t,rfl⟩:=d;exact SeqAt.EqAt.bool_str a b t
  |_=>exact absurd (show false=true from g) zaU
 |int a =>
  obtain⟨t',rfl⟩:=e;cases x with
  |non=>cases d;exact SeqAt.EqAt.int_none a t'
  |bl b=>cases d;exact SeqAt.EqAt.int_bool a t' b
  |int b=>obtain⟨t,rfl⟩:=d;exact SeqAt.EqAt.int_int a t' b t
  |str b=>obtain⟨t,rfl⟩:=d;exact SeqAt.EqAt.int_str a t' b t
  |_=>exact absurd (show false=true from g) zaU
 |str a =>
  obtain⟨t',rfl⟩:=e;cases x with
  |non=>cases d;exact SeqAt.EqAt.str_none a t'
  |bl b=>cases d;exact SeqAt.EqAt.str_bool a t' b
  |int b=>obtain⟨t,rfl⟩:=d;exact SeqAt.EqAt.str_int a t' b t
  |str b=>obtain⟨t,rfl⟩:=d;exact SeqAt.EqAt.str_str a t' b t
  |_=>exact absurd (show false=true from g) zaU
 |_=>exact absurd (show false=true from j) zaU
noncomputable def eqU(x:V)(u:Value):Bool:=match u with
 |.none=>eqV .non x
 |.bool b=>eqV (.bl b) x
 |.int i _=>eqV (.int i) x
 |.str z _=>eqV (.str z) x
 |_=>false
def Jl{x y:V}(r:RelV y u)(f:ba y=true):eqU x u=eqV y x:=by
 cases y with
 |non=>cases r;rfl
 |bl b=>cases r;rfl
 |int i=>obtain⟨t,rfl⟩:=r;rfl
 |str z=>obtain⟨t,rfl⟩:=r;rfl
 |_=>exact absurd (show false=true from f) zaU
theorem Vx{x:V}:∀{E:List V}{us:List Value},Vals E us->E.all ba=true->us.any (eqU x)=E.any λy=>eqV y x
 |_,_,.nil,_=>rfl
 |y::E,u::us,.cons r t,f=>by
  rw[zeQ,zcF]at f;rw[zdR,zdR,Jl r f.1,Vx t f.2]
theorem Y8{x:V}{v:Value}(a:RelV x v)(d:ba x=true):∀{E:List V}{us:List Value},Vals E us->E.all ba=true->∀u∈us,SeqAt.EqAt A s u v (eqU x u)
 |_,_,.nil,_=>λu hu=>by cases hu
 |y::E,u::us,.cons r t,f=>λe hu=>by
  rw[zeQ,zcF]at f;rcases zam.mp hu with rfl|hu
  ·rw[Jl r f.1];exact Ab r a f.1 d
  exact Y8 a d t f.2 e hu
noncomputable def inV(x:V)(E:List V):Bool:=E.any λy=>eqV y x
def rIn(K:W.Frag)(a:Bool):R2:=λx y H Q=>∃p E,y=.ref p/\(SqL K H p E\/SqT K H p E)/\ba x=true/\E.all ba=true/\Q (.bl (if a then !inV x E else inV x E)) H
def P2:OpR X (compareOp .In) (rIn X.K false):=by
 intro pn s Y H x y v u Q I e j h;obtain⟨p,E,rfl,a,g,fs,q⟩:=h;cases j;rcases a with a|a
 ·obtain⟨its,r,pl,k⟩:=I.list a;refine SeqAt.in_listAt (eqU x) pl.isList (λw d=>Y8 e g r fs w (by simpa using d)) ⟨.bl _,H,I,rfl,?_⟩
  rw[show its.toArray.any (eqU x)=its.any (eqU x) by simp,Vx r fs]
  exact q
 obtain⟨its,r,pl,k⟩:=I.tuple a;refine SeqAt.in_tupleAt (eqU x) pl (λw d=>Y8 e g r fs w (by simpa using d)) ⟨.bl _,H,I,rfl,?_⟩
 rw[show its.toArray.any (eqU x)=its.any (eqU x) by simp,Vx r fs]
 exact q
def gn:t8 X (.builtin "len") (λE H Q=>∃p ys,E=[.ref p]/\(SqL X.K H p ys\/SqT X.K H p ys)/\Q (.int ys.length) H):=by
 intro pn s Y H E us Q I r h;obtain⟨p,ys,rfl,d,q⟩:=h;obtain⟨u,rfl,g⟩:=kg r;cases g;have k:=kz;rcases d with d|d
 ·obtain⟨its,e,pl,j⟩:=I.list d;have a:=e.length;exact Calls.call_len_list pl.isList (by simp only[zap] <;> lia) ⟨.int ys.length,H,I.tok _,⟨s.toks+1,by rw[zap,a]⟩,q⟩
 obtain⟨its,e,pl,j⟩:=I.tuple d;have a:=e.length;exact len_tuple pl (by simp only[zap] <;> lia) ⟨.int ys.length,H,I.tok _,⟨s.toks+1,by rw[zap,a]⟩,q⟩
def Wd:t8 X (.builtin "len") (λE H Q=>∃z,E=[.str z]/\z.length<=sizeLine/\Q (.int z.length) H):=by
 intro pn s Y H E us Q I r h;obtain⟨z,rfl,a,q⟩:=h;obtain⟨u,rfl,t,rfl⟩:=kg r;have d:=kz;exact len_str aD ⟨.int z.length,H,I.tok _,⟨_,rfl⟩,q⟩
def t8.or{f:Value}{r a:List V->Hp->VK->Prop}(h:t8 X f r)(h':t8 X f a):t8 X f (λE H Q=>r E H Q\/a E H Q):=by
 intro pn s Y H E us Q I rs q;rcases q with q|q
 ·exact h pn s Y H E us Q I rs q
 exact h' pn s Y H E us Q I rs q
def Wc:t8 X (.type "list") (λE H Q=>∃p ys,E=[.ref p]/\(SqL X.K H p ys\/SqT X.K H p ys)/\∀l,H l=none->Q (.ref l) (upd H l (.lst ys))):=by
 intro pn s Y H E us Q I r h;obtain⟨p,ys,rfl,k,q⟩:=h;obtain⟨u,rfl,B⟩:=kg r;cases B;have x:∀(its:List Value),Vals ys its->ys.length<=sizeLine->∀(h':Heap)(d:Nat),(∀b o',s.heap.get? b=some o'->h'.get? b=some o') ->
   h'.get? s.heap.objs.size=some {cls:=.type "list",dict:=none,data:=.seq its.toArray d,slots:=#[]}->EP X pn Y Q (.ref s.heap.objs.size) {s with heap:=h'}:=λits a j h' d g e =>
  ⟨.ref s.heap.objs.size,_,I.laid (t':=s.toks) g (zaj _) (show we X.prog X.w _ h' _ (.lst ys) from⟨j,its,d,a,e⟩),rfl,q _ (I.hok.fresh (zaj _))⟩
 rcases k with k|k
 ·obtain⟨its,a,pl,j⟩:=I.list k;have v:=a.length;obtain⟨o,ho,z,n,y⟩:=pl.isList;exact call_list_seq p (.inl rfl) ho z y (λh' d g e=>x its a j h' d g e) (by simp only[zap] <;> lia)
 obtain⟨its,a,pl,j⟩:=I.tuple k;have v:=a.length;obtain⟨o,ho,z,n,y⟩:=pl;exact call_list_seq p (.inr rfl) ho z y (λh' d g e=>x its a j h' d g e) (by simp only[zap] <;> lia)
def Yt:t8 X (.type "tuple") (λE H Q=>∃p ys,E=[.ref p]/\((SqL X.K H p ys/\∀l,H l=none->Q (.ref l) (upd H l (.tup ys)))\/(SqT X.K H p ys/\Q (.ref p) H))):=by
 intro pn s Y H E us Q I r h;obtain⟨p,ys,rfl,h⟩:=h;obtain⟨u,rfl,v⟩:=kg r;cases v;rcases h with⟨d,q⟩|⟨d,q⟩
 ·obtain⟨its,a,pl,g⟩:=I.list d;have j:=a.length;refine call_tuple_list pl.isList (λh' x=>?_) (by simp only[zap] <;> lia)
  have k:Inv X pn Y H {s with heap:=h'}:=I.kept (t':=s.toks) x;have y:Inv X pn Y (upd H h'.objs.size (.tup ys)) {s with heap:=h'.push {cls:=.type "tuple",data:=.seq its.toArray}} :=
   k.laid (t':=s.toks) (λb o e=>zac _ e) (zaj _) (show we X.prog X.w _ _ _ (.tup ys) from⟨g,its,a,IsTup.new _ _,_,zad _ rfl,rfl⟩)
  exact⟨.ref h'.objs.size,_,y,rfl,q _ (k.hok.fresh (zaj _))⟩
 obtain⟨its,a,pl,g⟩:=I.tuple d;exact call_tuple_same pl ⟨.ref p,H,I,rfl,q⟩
def tyV(K:W.Frag)(T:String)(x:V)(H:Hp):Prop:=match x with
 |.str _=>T = "str"
 |.int _=>T = "int"
 |.ref p=>(T = "list"/\∃E,SqL K H p E)\/(T = "tuple"/\∃o,K.lookup p=some o/\o.cls=.type "tuple"/\o.dict=none) \/
   (T = "dict"/\((∃kvs,H p=some (.dK kvs))\/∃kvs,H p=some (.dT kvs)))\/(T = "set"/\∃ds n,H p=some (.set ds n))
 |_=>False
def Kc{x:V}{v:Value}(I:Inv X pn Y H s)(r:RelV x v)(ty:tyV X.K T x H) :
  s.TypeIs v T/\∀a,v=.ref a->∃ob,s.heap.get? a=some ob/\ob.dict=none:=by
 cases x with
 |str z =>
  obtain⟨t,rfl⟩:=r;cases (show T = "str" from ty);exact⟨typeIs_str s z t,λ_ e=>nomatch e⟩
 |int i =>
  obtain⟨t,rfl⟩:=r;cases (show T = "int" from ty);exact⟨typeIs_int s i t,λ_ e=>nomatch e⟩
 |ref p =>
  cases r
  rcases ty with⟨rfl,E,j⟩|⟨rfl,o,d,k,g⟩|⟨rfl,d⟩|⟨rfl,ds,n,d⟩
  ·obtain⟨its,_,pl,_⟩:=I.list j;refine⟨pl.isList.typeIs,λa e=>?_⟩;cases e;obtain⟨o,n,e,c,g,_⟩:=pl;exact⟨o,e,g⟩
  ·refine⟨⟨o,I.kIn p o d,k⟩,λa e=>?_⟩;cases e;exact⟨o,I.kIn _ o d,g⟩
  ·have z:∃o,s.heap.get? p=some o/\o.ExactDict:=by
    rcases d with⟨kvs,d⟩|⟨kvs,d⟩
    ·obtain⟨_,_,_,_,o,_,_,e,ex,_⟩:=I.hok p _ d;exact⟨o,e,ex⟩
    obtain⟨_,_,_,_,o,_,_,e,ex,_⟩:=I.hok p _ d;exact⟨o,e,ex⟩
   obtain⟨o,e,ex⟩:=z;refine⟨⟨o,e,ex.1⟩,λa e2=>?_⟩;cases e2;exact⟨o,e,ex.2.1⟩
  obtain⟨o,_,_,_,e,ex,_⟩:=I.hok p _ d;refine⟨⟨o,e,ex.1⟩,λa e2=>?_⟩;cases e2;exact⟨o,e,ex.2.1⟩
 |_=>exact False.elim ty
def tBM0(K:W.Frag)(T:String)(r:V->List V->Hp->VK->Prop)(to:TE):TE:=λY H Q=>to Y H λx H1=>tyV K T x H1/\r x [] H1 Q
def tBM(K:W.Frag)(T:String)(r:V->List V->Hp->VK->Prop)(to:TE)(t:TA):TE:=λY H Q=>to Y H λx H1=>tyV K T x H1/\t Y H1 λE H2=>r x E H2 Q
variable{o e:Expr}{J:List Expr}{to:TE}{t:TA}{apos cpos:Pos}{T id:String}{r:V->List V->Hp->VK->Prop}
def Qw(l:PlainAttrs T)(slot:Slot T name id)(e:typeOf (.builtin id)=pure (.type "method_descriptor"))(q:MtR X id r)(ho:PE X o to)(d:autoParam (attributeBase o name X.env (eval o X.env)=eval o X.env) zSr)(a:autoParam ((apos.endLine==cpos.line)=true) zSr):PE X (.Call (.Attribute o name apos) [] [] cpos) (tBM0 X.K T r to):=by
 intro pn s Y H Q I h;refine wpAny_Call_method0_late d a (thn (ho pn s Y H _ I h) λv s1 Zh=>?_);obtain⟨x,H1,j,g,ty,k⟩:=Zh;obtain⟨h1,h2⟩:=Kc j g ty;exact⟨T,id,l,slot,e,h1,h2,zfA rfl (PySem.evalArgs_none (q pn s1 Y H1 x [] v [] Q j g .nil k))⟩
def Qx(D:PlainAttrs T)(slot:Slot T name id)(k:typeOf (.builtin id)=pure (.type "method_descriptor"))(es:MtR X id r)(ho:PE X o to)(L:PA X (e::J) t)(g:autoParam (attributeBase o name X.env (eval o X.env)=eval o X.env) zSr)(j:autoParam (((backTo cpos (starEach (e::J) X.env)).all (λx=>!x.1)&&(backToKw cpos (keywordEach [] X.env)).all (λx=>x.1.isSome)
   && decide ((e::J).length+([]:List Keyword).length+(if ([]:List Keyword).isEmpty then 0 else 1)<30))=true) zSr)(d:autoParam ((apos.endLine==cpos.line)=true) zSr)(G:autoParam (S_ X e J) zSr)(a:autoParam (B_ X J cpos) zSr) :
  PE X (.Call (.Attribute o name apos) (e::J) [] cpos) (tBM X.K T r to t):=by
 intro pn s Y H Q I h;refine wpAny_Call_method_late g j d rfl (thn (ho pn s Y H _ I h) λv s1 Zh=>?_);obtain⟨x,H1,u,l,ty,B⟩:=Zh;obtain⟨h1,h2⟩:=Kc u l ty;refine⟨T,id,D,slot,k,h1,h2,?_⟩;have q:=L cpos pn s1 Y H1 _ u B;rw[G]at q ⊢;refine zfA (by show(false || (backTo cpos (starEach J X.env)).any (·.1))=false;rw[a] <;> rfl) (Calls.evalArgs_plain ?_)
 exact thn q λus s2 ⟨vs,H2,N,y,z⟩=>es pn s2 Y H2 x vs v us Q N l y z
end
def MtM(X:Cx)(id:String)(r:V->List V->Hp->VK->Prop):Prop :=
 ∀(pn:List (Addr×Obj))(s:Shared)(Y:St)(H:Hp)(x:V)(E:List V)(v:Value)(us:List Value)(Q:VK),Inv X pn Y H s->RelV x v->Vals E us->r x E H Q ->
  wpAny (model X.prog X.w) X.A (call (.builtin id) (v::us)) (EP X pn Y Q) X.xe s
def Vals.one:∀{x:V}{us:List Value},Vals [x] us->∃u,us=[u]/\RelV x u
 |_,_,.cons r .nil=>⟨_,rfl,r⟩
def Vals.zero:∀{us:List Value},Vals [] us->us=[]
 |_,.nil=>rfl
theorem Vals.dropLast(h:Vals E us):Vals E.dropLast us.dropLast:=by
 induction h with
 |nil=>exact .nil
 |cons r t ih =>
  cases t with
  |nil=>exact .nil
  |cons q t'=>exact .cons r ih
theorem Vals.rep(h:Vals E us):∀k:Nat,Vals (List.replicate k E).flatten (List.replicate k us).flatten
 |0=>.nil
 |k+1=>by
  rw[zbV,zbV,zdQ,zdQ];exact Vals.append h (Vals.rep h k)
def R6{α:Type}(l:List α):l.eraseIdx (l.length-1)=l.dropLast:=by
 induction l with
 |nil=>rfl
 |cons a r ih =>
  cases r with
  |nil=>rfl
  |cons b r =>
   have e:(a::b::r).length-1=((b::r).length-1)+1:=by
    have h1:(a::b::r).length=r.length+2:=rfl;have h2:(b::r).length=r.length+1:=rfl;lia
   rw[e,List.eraseIdx_cons_succ,ih]
   all_goals rfl
theorem W1(its:List Value):∀(k:Nat)(acc:List Value),
  List.foldl (λd a=>d++a) acc.toArray (List.replicate k its.toArray)=(acc++(List.replicate k its).flatten).toArray
 |0,acc=>by simp
 |k+1,acc=>by
  have e:acc.toArray++its.toArray=(acc++its).toArray:=by simp
  have e2:(acc++its)++(List.replicate k its).flatten=acc++(List.replicate (k+1) its).flatten:=by
   rw[zbV,zdQ,zaS]
  rw[<- e2,<- W1 its k (acc++its),<- e,zbV,List.foldl_cons]
variable{l:Addr}
def Inv.lset{its its':List Value}{n:Nat}{f:Array Value->Array Value}{t':Nat}(I:Inv X pn Y H s)(k:H l=some (.lst E))(e:s.heap.get? l=some {cls:=.type "list",data:=.seq its.toArray n})(g:f its.toArray=its'.toArray)(d:Vals ys its')(a:ys.length<=sizeLine) :
  Inv X pn Y (upd H l (.lst ys)) {s with heap:=s.heap.update l (Obj.mapSeq f),toks:=t'}:=by
 have q:=PySem.IsL.update e f;rw[g]at q;refine I.write (x:=l) (e:=l) (by rw[k];exact zaA) (.inl rfl) (λr u j hu=>(Heap.get?_update_other s.heap (Obj.mapSeq f) (Ne.symm j)).trans hu) ⟨_,q⟩ ?_
 exact⟨a,its',_,d,q⟩
def Inv.lnew(I:Inv X pn Y H s)(d:Vals ys its)(a:ys.length<=sizeLine) :
  Inv X pn Y (upd H s.heap.objs.size (.lst ys)) {s with heap:=s.heap.push {cls:=.type "list",data:=.seq its.toArray},toks:=t'} :=
 I.laid (λ_ _ q=>zac _ q) (zaj _) ⟨a,its,0,d,zad _ rfl⟩
theorem Inv.fresh(I:Inv X pn Y H s):H s.heap.objs.size=none:=I.hok.fresh (zaj _)
def Inv.lstM(I:Inv X pn Y H s)(a:H l=some (.lst E)):E.length<=sizeLine/\∃(its:List Value)(n:Nat),Vals E its/\E.length=its.length/\s.heap.get? l=some {cls:=.type "list",data:=.seq its.toArray n}:=by
 obtain⟨z,its,n,r,e⟩:=I.hok l _ a;exact⟨z,its,n,r,r.length,e⟩
def Uo(h:n<=sizeLine):Builtin.List.listTooLong n=false:=by
 unfold Builtin.List.listTooLong;exact zbQ aD
def Wx:V->List V->Hp->VK->Prop:=λx vs H Q=>∃l E y,x=.ref l/\vs=[y]/\H l=some (.lst E)/\E.length<sizeLine/\Q .non (upd H l (.lst (E++[y])))
def di:MtM X "list.append" Wx:=by
 intro pn s Y H x vs v us Q I d g h;obtain⟨l,E,y,rfl,rfl,a,k,q⟩:=h;cases d;obtain⟨u,rfl,j⟩:=g.one;obtain⟨z,its,n,r,hl,e⟩:=I.lstM a;refine zeN F.slot_list_append ⟨_,e,rfl⟩ F.entry_list_append (F.args_list_append_2 _ _) (PySem.list_append l its.toArray n u (by rw[zap];lia)) ⟨e,?_⟩
 refine⟨.non,_,I.lset (its':=its++[u]) a e aE (r.append (.cons j .nil)) ?_,rfl,q⟩
 rw[zLa,zdD];lia
def Ww:V->List V->Hp->VK->Prop:=λx vs H Q=>∃l b E zs,x=.ref l/\vs=[.ref b]/\H l=some (.lst E)/\H b=some (.lst zs)/\E.length+zs.length<=sizeLine/\Q .non (upd H l (.lst (E++zs)))
def Xj:MtM X "list.extend" Ww:=by
 intro pn s Y H x vs v us Q I j k h;obtain⟨l,b,E,zs,rfl,rfl,g,es,N,q⟩:=h;cases j;obtain⟨u,rfl,y⟩:=k.one;cases y;obtain⟨z,its,n,r,hl,e⟩:=I.lstM g;obtain⟨L,a,D,B,G,e2⟩:=I.lstM es;have hsz:its.toArray.size+a.toArray.size<=sizeLine:=by rw[zap,zap];lia
 have d:¬ (!its.toArray.isEmpty&&Builtin.List.listTooLong (its.toArray.size+a.toArray.size))=true:=by
  rw[Uo hsz,Bool.and_false];exact zaU
 refine zeN F.slot_list_extend ⟨_,e,rfl⟩ F.entry_list_extend (F.args_list_extend_2 _ _)
  (AutoSeq1.list_extend_list_list_0 l its.toArray n b a.toArray D d (by rw[zap];lia) aD) ⟨e,e2,?_⟩
 refine⟨.non,_,I.lset (its':=its++a) g e aE (r.append B) ?_,rfl,q⟩
 rw[zLa];lia
def rPop:V->List V->Hp->VK->Prop:=λx vs H Q=>∃l E y,x=.ref l/\vs=[]/\H l=some (.lst E)/\E[E.length-1]?=some y/\Q y (upd H l (.lst E.dropLast))
def J5:MtM X "list.pop" rPop:=by
 intro pn s Y H x vs v us Q I j k h;obtain⟨l,E,y,rfl,rfl,g,D,q⟩:=h;cases j;have d:=k.zero;subst d;obtain⟨z,its,n,r,hl,e⟩:=I.lstM g;obtain⟨u,hu,B⟩:=r.get D;have a:its.toArray[its.toArray.size-1]?=some u:=by
  show its.toArray[its.length-1]?=some u;rw[<- zfF,<- hl];exact hu
 refine zeN F.slot_list_pop ⟨_,e,rfl⟩ F.entry_list_pop (F.args_list_pop_1 _) (MeetsSeq.list_pop_last l its.toArray n u a (by rw[zap];lia)) ⟨e,?_⟩
 refine⟨y,_,I.lset (its':=its.dropLast) g e ?_ r.dropLast ?_,B,q⟩
 ·show its.toArray.eraseIdxIfInBounds (its.toArray.size-1)=its.dropLast.toArray;rw[zap,List.eraseIdxIfInBounds_toArray,R6]
 rw[List.length_dropLast];lia
def rCat:R2:=λx y H Q=>∃l b E zs,x=.ref l/\y=.ref b/\H l=some (.lst E)/\H b=some (.lst zs)/\E.length+zs.length<=sizeLine/\∀p,H p=none->Q (.ref p) (upd H p (.lst (E++zs)))
def Cq:OpR X (binaryOp .Add) rCat:=by
 intro pn s Y H x y v u Q I g d h;obtain⟨l,b,E,zs,rfl,rfl,B,D,N,q⟩:=h;cases g;cases d;obtain⟨z,its,n,r,hl,e⟩:=I.lstM B;obtain⟨es,a,L,j,k,e2⟩:=I.lstM D;refine PySem.P.add_list e e2 ?_ (by rw[zap,zap];lia)
 have G:its.toArray++a.toArray=(its++a).toArray:=by simp
 rw[G];exact⟨.ref _,_,I.lnew (t':=s.toks) (r.append j) (by rw[zLa];lia),rfl,q _ I.fresh⟩
def rRep:R2:=λx y H Q=>∃l k E,x=.ref l/\y=.int k/\H l=some (.lst E)/\-(2 ^ 63)<=k/\k<2 ^ 63/\E.length*k.toNat<=sizeLine /\
 ∀p,H p=none->Q (.ref p) (upd H p (.lst (List.replicate k.toNat E).flatten))
def Fd{α:Type}(E:List α)(k:Nat):(List.replicate k E).flatten.length=k*E.length:=by
 induction k with
 |zero=>simp
 |succ k ih=>rw[zbV,zdQ,zLa,ih,Nat.succ_mul,Nat.add_comm]
def Cg:OpR X (binaryOp .Mult) rRep:=by
 intro pn s Y H x y v u Q I O N h;obtain⟨l,k,E,rfl,rfl,R,h1,h2,L,q⟩:=h;cases O;obtain⟨t,rfl⟩:=N;obtain⟨z,its,n,r,hl,e⟩:=I.lstM R;have j:its.toArray.size*k.toNat<=sizeLine:=by rw[zap,<- hl];exact L
 have D:¬ its.toArray.size*k.toNat > (2 ^ 63-1) / 8:=by
  have:(sizeLine:Nat)<=(2 ^ 63-1) / 8:=by decide
  lia
 have B:¬ (!Builtin.List.listFitsIndex k)=true:=by
  rw[fitsIndex_both h1 h2];exact zaU
 have d:¬ Builtin.List.listTooLong (its.toArray.size*k.toNat)=true:=by
  rw[Uo j];exact zaU
 have g:List.foldl (λes G=>es++G) #[] (List.replicate (if its.toArray.isEmpty=true then 0 else k.toNat) its.toArray)=(List.replicate k.toNat its).flatten.toArray:=by
  have V:∀m:Nat,List.foldl (λes G=>es++G) #[] (List.replicate m its.toArray)=(List.replicate m its).flatten.toArray:=λm=>by
   have:=W1 its m [];rw[List.nil_append]at this;exact this
  rw[V];cases its with
  |nil=>simp
  |cons a r'=>rw[zaJ aE]
 refine wpAny_binaryOp_repeat_ref (T:="list") (U:="int") aB ⟨_,e,rfl⟩ (λs'=>typeIs_int s' k t) noFill_list_mul F.fills_int_mul F.slot_int_rmul repeat_list F.slot_int_index.lookup
  (zeN F.slot_int_rmul (typeIs_int s k t) F.entry_int_rmul (F.args_int_rmul_2 _ _) (int___rmul___int_list k t l its.toArray n)
   ⟨e,rfl,⟨_,e,rfl⟩,zeN F.slot_list_mul ⟨_,e,rfl⟩ F.entry_list_mul (F.args_list_mul_2 _ _) (AutoListH.list___mul___list_int_3 l its.toArray n k t B D d) ⟨e,?_⟩⟩)
 rw[g];exact⟨.ref _,_,I.lnew (t':=s.toks) (r.rep k.toNat) (by rw[Fd,Nat.mul_comm];exact L),rfl,q _ I.fresh⟩
section
open PySem PySem.W PySem.Calls PyProof.Rows
def c6{P:Params}:∀(ns:List Int)(vs:List Value),WellAll P h vs (ns.map WData.int)->IntsAre vs ns:=by
 intro ns
 induction ns with
 |nil =>
  intro vs w;rw[zbO]at w;cases w;exact .nil
 |cons n ns ih =>
  intro vs w;rw[zaB]at w;cases w with
  |cons a b =>
   cases a
   exact .cons _ _ (ih _ b)
def Q5{l:OpenLaw}{n:Nat}(z:l.most=some n){P:Params}(e:l.row.toRowW.claim.pre args=true)(u:WellAll P h vals args) :
  ∃a vs ns,vals=[Value.ref a]/\args=[WData.list (ns.map WData.int)]/\h.get? a=some {cls:=.type "list",data:=.seq vs.toArray}/\IntsAre vs ns/\ns.length<=n:=by
 have v:WShape.hasAll [] args [.list .int]=true:=(pre_splitW e).1;have x:l.pre.holds [] {args:=args}=true:=(pre_splitW e).2;obtain⟨d,r,rfl,h1,h2⟩:=hasAllW_cons v;obtain rfl:=hasAllW_nil h2;obtain⟨E,rfl,B⟩:=hasW_list h1;obtain⟨ns,rfl⟩:=items_int B;have g:ns.length<=n:=by
  unfold OpenLaw.pre at x;have k:(WTm.not (.lt (.lit (.int (n:Int))) (.len (.arg 0)))).holds [] {args:=[.list (ns.map .int)]}=true:=by
   have k:=(holds_andW x).1;rw[z]at k;exact k
  have j:=condW_of k (w_not (w_lt w_lit (w_len_list (w_arg rfl))));rw[zLm]at j;refine Nat.le_of_not_lt λq=>?_;have y:(n:Int)<((ns.length:Nat):Int):=by lia
  first
   |(rw[zdT y]at j;exact absurd j aB)
   |(simp at j;lia)
 cases u with
 |cons w1 w2 =>
  cases w2
  cases w1 with
  |list ho hall=>exact⟨_,_,ns,rfl,rfl,ho,c6 ns _ hall,g⟩
def Ql(l:OpenLaw)(args:List WData):l.row.toRowW.claim.post args (.bool true) args=true :=
 postW_of (r:=l.row.toRowW) (X:=(true==true))
  (show WShape.has [] (.bool true) .bool=true by first|rfl|decide|simp[WShape.has,WShape.arms,WShape.armsAll])
  (show(WTm.eq .res (.lit (.bool true))).value [] {args:=args,res:=some (.bool true),after:=args}=some (.bool (true==true)) from w_eq_bool (w_res rfl) w_lit) rfl
def attach_call{l:OpenLaw}{n:Nat}{XP:(Str->Option Value)->Heap->Prop}{YP:World->Heap->Prop}{d:DefRec}(Z:l.most=some n)(L:d.params.defaults=[])(call:∀ (w:World) (g e:Shared) (mg D:Str->Option Value) (y:Addr) (o:Obj) (B z k:Value) (a:Addr) (vs:List Value) (ns:List Int),
   Ground q loose [] XP w g mg D e.heap->YP w e.heap ->
   e.heap.get? y=some o->o.data=.func (docDef d.name d.params d.body d.scope B z k)->e.heap.CodeRec z d.name->mg d.name=some (.ref y) ->
   e.heap.get? a=some {cls:=.type "list",data:=.seq vs.toArray}->IntsAre vs ns->ns.length<=n->e.gens=#[] ->
   codeAny (model l.prog w) callerA (.call (.ref y) ⟨[.ref a],[]⟩) (λr s'=>r=.ok (.ret (.bool true))/\OldK e.heap s'.heap/\s'.os=e.os/\AllBare s'.gens) e) :
  WalkO q loose XP YP l.row.toRowW d [] (λf vs=>PySem.call f vs):=by
 intro w g e mg D G Y y o B z k dV kV ho hd N Q es hg R vals as u O V I a0;obtain rfl:dV=.none:=Dflts.none Q L;obtain rfl:kV=.none:=Dflts.noKw Q;obtain⟨a,vs,ns,rfl,rfl,v,j,x⟩:=Q5 Z u I;refine enter_call (codeAny_mono (call w g e mg D y o B z k a vs ns G Y ho (fd_plain hd) N es v j x hg) λr s' W=>?_);obtain⟨rfl,h2,h3,h4⟩:=W;exact⟨.inl ⟨.bool true,.bool true,[],rfl,λ_=>rfl,.bool true,Ql l _,λ_=>⟨List.Pairwise.nil,λ_ hm=>(nomatch hm)⟩⟩,h2,h3,h4⟩
end
theorem Yz:∀{vs:List Value}{ns:List Int},IntsAre vs ns->Vals (ns.map V.int) vs
 |_,_,.nil=>.nil
 |_,_,.cons n t h=>.cons ⟨t,rfl⟩ (Yz h)
def Only(H:Hp):Prop:=∀b,H b=none\/∃o E,H b=some (.frz o (.lst E))
def L4{K:W.Frag}{mg Z:Str->Option Value}{k:Nat}{fa a:Addr}{x:Str}{sp:Sp}{s₁:Shared}{vs:List Value}(KX:K.In s₁.heap)(L:s₁.heap.Ns mainGlobals mg)(j:s₁.heap.Ns builtinsNs Z)(a4:∀ x:Str,x≠"__name__"->Z x=bootBuiltins x)(N:s₁.heap.NoLimit)(hg:s₁.gens=#[])(R:s₁.heap.get? a=some {cls:=.type "list",data:=.seq vs.toArray})(hi:IntsAre vs ns)(hl:ns.length<=sizeLine)(hr:Room k callerA)(F:∀ base:Heap,K.In base->base.Ns mainGlobals mg->FnOk P w K mg base CX k fa fd [x] sp)(B:∀ (s:Shared) (u:Value),BindsTo s fd ⟨[u],[]⟩ [(x,u)])(a0:∀ H:Hp,Only H->SqL K H a (ns.map V.int)->sp [.ref a] H (λv _=>v=.bl true) λ_ _ _=>False)(a5:∀ H e s',CX [] H s₁ (λ_ _ _=>False) e s'->False) :
  codeAny (model P w) callerA (.call (.ref fa) ⟨[.ref a],[]⟩) (λr s'=>r=.ok (.ret (.bool true))/\OldK s₁.heap s'.heap/\s'.os=s₁.os/\AllBare s'.gens) s₁:=by
 have rv:=Yz hi;have G:=hi.length;have y:∀H:Hp,Only H->SqL K H a (ns.map V.int)->HOk P w H s₁.heap->(∀b,H b≠none->b=a)->(H a≠none->K.lookup a=none) ->
   codeAny (model P w) callerA (.call (.ref fa) ⟨[.ref a],[]⟩) (λr s'=>r=.ok (.ret (.bool true))/\OldK s₁.heap s'.heap/\s'.os=s₁.os/\AllBare s'.gens) s₁:=by
  intro H hO hS es hA hK;have g:∀{b:Addr}{o:Obj},s₁.heap.get? b=some o->H b=none->(hidT s₁.heap H).get? b=some o:=λe n=>Lc e n;have Y:∀{b:Addr}{o:Obj}{J:Array DictEntry}{ep:Nat},s₁.heap.get? b=some o->o.data=.dict J ep->H b=none:=λ{b o J ep} e d=>by
   cases q:H b with
   |none=>rfl
   |some u =>
    have e':b=a:=hA b (by rw[q];simp)
    subst e';rw[R]at e;cases e;have d':Data.seq vs.toArray _=Data.dict J ep:=d;cases d'
  have l:∀{b:Addr}{m:Str->Option Value},s₁.heap.Ns b m->(hidT s₁.heap H).Ns b m:=λ{b m} ⟨o,J,ep,e,d,r⟩=>⟨o,J,ep,g e (Y e d),d,r⟩;have O:K.In (hidT s₁.heap H):=λb o e=>g (KX b o e) (by
   cases q:H b with
   |none=>rfl
   |some u =>
    have e':b=a:=hA b (by rw[q];simp)
    subst e';rw[hK (by rw[q];simp)]at e;cases e)
  have hM:Mod K mg (hidT s₁.heap H):=⟨O,l L,⟨Z,l j,a4⟩,let ⟨mc,h1,h2⟩:=N;⟨mc,l h1,h2⟩⟩
  have e0:Env0 P w K mg (hidT s₁.heap H) callerA [] s₁ H:=⟨rfl,hM,λb o e=>F1 e,Nat.le_of_eq (Pu _ _),zaA,λb j=>absurd (show b∈([]:List Addr) from j) aE,es,.of_eq hg⟩
  refine codeAny_mono ((F _ O (l L)).run callerA [] s₁ H ⟨[.ref a],[]⟩ [.ref a] [.ref a] _ _ hr e0 (B s₁ (.ref a)) (.cons rfl .nil) (a0 H hO hS)) λr s' h=>?_;cases r with
  |error e=>exact(a5 H e s' h).elim
  |ok fl =>
   cases fl with
   |next=>exact False.elim h
   |brk=>exact False.elim h
   |cont=>exact False.elim h
   |ret u =>
    obtain⟨v,H',os,Q,un,I,r',q⟩:=h;have q':v=.bl true:=q;subst q';obtain rfl:u=Value.bool true:=r';refine⟨rfl,OldK.of_keep λb o e=>?_,os,Q⟩;cases q:H b with
    |none=>exact un.keep b o e q (by intro z;exact absurd (show b∈([]:List Addr) from z) aE) aE
    |some u =>
     rcases hO b with z|⟨ob,E,z⟩
     ·rw[q]at z;cases z
     have z2:=un.frzs b ob _ z;obtain⟨e1,_⟩:=es b _ z;obtain⟨e2,_⟩:=I b _ z2;rw[e]at e1;cases e1;exact e2
 cases hk:K.lookup a with
 |some o =>
  have e:=KX a o hk;rw[R]at e;cases e;refine y (λ_=>none) (λ_=>.inl rfl) (.inr ⟨_,vs.toArray,_,hk,rfl,rfl,rfl,by rw[zap,G];exact hl,by simpa using rv⟩) (λb u z=>by have D:(none:Option HO)=some u:=z;cases D) (λb z=>absurd rfl z) λz=>absurd rfl z
 |none =>
  refine y (λb=>if b=a then some (.frz {cls:=.type "list",data:=.seq vs.toArray} (.lst (ns.map V.int))) else none) (λb=>?_) (.inl (.inr ⟨{cls:=.type "list",data:=.seq vs.toArray},zaK rfl⟩)) (λb u z=>?_) (λb z=>?_) λ_=>hk
  ·by_cases j:b=a
   ·exact .inr ⟨_,_,zaK j⟩
   exact .inl (zaJ j)
  ·by_cases j:b=a
   ·have D:=(zaK j).symm.trans z;cases D;subst j;exact⟨R,by rw[zLm];exact hl,vs,_,rv,R⟩
   have D:=(zaJ j).symm.trans z;cases D
  by_cases j:b=a
  ·exact j
  exact absurd (zaJ j) z
def walk_of{l:W.OpenLaw}{n k:Nat}{XP:(Str->Option Value)->Heap->Prop}{YP:World->Heap->Prop}{d:DefRec}{K:Params->W.Frag}{CX:World->CXT}{sp:World->Sp}{x:Str}(R:l.most=some n)(I:n<=sizeLine)(L:d.params.defaults=[])(hr:Room k callerA)(hY:∀ (w:World) (h:Heap),YP w h->(K w.params).In h)(F:∀ (w:World) (mg:Str->Option Value) (B:Addr) (h:Heap),(K w.params).In h->h.Ns mainGlobals mg->mg d.name=some (.ref B) ->
   ∃ fd:FuncData,(∀ (s:Shared) (u:Value),BindsTo s fd ⟨[u],[]⟩ [(x,u)]) /\
    ∀ base:Heap,(K w.params).In base->base.Ns mainGlobals mg->FnOk l.prog w (K w.params) mg base (CX w) k B fd [x] (sp w))(D:∀ (w:World) (H:Hp) (a:Addr) (ns:List Int),ns.length<=n->Only H->SqL (K w.params) H a (ns.map V.int)->sp w [.ref a] H (λv _=>v=.bl true) λ_ _ _=>False)(N:∀ (w:World) (H:Hp) (s:Shared) (e:Value) (s':Shared),CX w [] H s (λ_ _ _=>False) e s'->False) :
  W.WalkO q loose XP YP l.row.toRowW d [] (λf vs=>PySem.call f vs):=by
 refine ZZ.attach_call R L λw O y mg mb B o pm cd a4 a vs ns G Y ho hd a0 es z r j Z=>?_;have Q:=hY w _ Y;obtain⟨fd,hb,hF⟩:=F w mg B _ Q G.T.g es;exact L4 Q G.T.g G.T.b G.T.builtins G.T.nolimit Z z r (zak j I) hr hF hb (λH hO hS=>D w H a ns j hO hS) λH e s'=>N w H y e s'
abbrev CX0:CXT:=λ_ _ _ _ _ _=>False
abbrev E0:XK:=λ_ _ _=>False
def Xg:b5 CX0 X E0:=λ_ _ _ _ _ _ _ h=>h.elim
structure Fun(K:W.Frag)(x qual:Str)(st:Stmt)(f:Addr)(fd:FuncData):Prop where
 ex:∃(oc:Value)(od:Option Addr)(kV doc pm:Value)(an:Option Addr)(qZ ct:Value)(osl:Array (Option Value)),
  fd=W.fnOf x qual (vf st) (yu st) (zd st) .none kV doc pm an qZ ct/\K.lookup f=some ⟨oc,od,.func fd,osl⟩/\W.codeIn K qZ qual=true
 kp:W.keepIn K (.ref f)=true
variable{mg:Str->Option Value}{base:Heap}
def Fn{x a:Str}{st:Stmt}{f:Addr}{fd:FuncData}{N ps:List Str}{k:Nat}{sp:Sp}(F:Fun K x a st f fd)(ds:zo N ps (zd st))(len:∀ vs H Q xs,sp vs H Q xs->vs.length=ps.length)(g:∀ (A:Around) (outer:List Env) (s:Shared) (H:Hp) (vs:List V) (Q:VK) (xs:XK),Room k (A.deeper (envOfC a (zd st) s.heap.objs.size f fd.code))->sp vs H Q xs ->
   ∃ t,PSs (cxOf CX0 P w K mg base N a (zd st) f fd.code A outer s H xs).nox (yu st) t/\t {nx:=λ_ H'=>Q .non H',rt:=Q} (start N vs) H):FnOk P w K mg base CX0 (k+1) f fd ps sp:=by
 obtain⟨y,v,kV,r,u,B,qZ,z,j,rfl,l,e⟩:=F.ex;refine Bz l e ds len λA outer s H vs Q xs hr d=>?_;obtain⟨t,h,q⟩:=g A outer s H vs Q xs hr d;exact⟨t,h.nox,q⟩
def Fun.ok{x a:Str}{st:Stmt}{f:Addr}{fd:FuncData}{N ps:List Str}{k:Nat}{sp:Sp}(F:Fun K x a st f fd)(ds:zo N ps (zd st))(len:∀ vs H Q xs,sp vs H Q xs->vs.length=ps.length)(d:∀ (qZ:Value) (A:Around) (outer:List Env) (s:Shared) (H:Hp) (vs:List V) (Q:VK) (xs:XK),Room k (A.deeper (envOfC a (zd st) s.heap.objs.size f qZ))->sp vs H Q xs ->
   ∃ t,PSs (cxOf CX0 P w K mg base N a (zd st) f qZ A outer s H xs).nox (yu st) t/\t {nx:=λ_ H'=>Q .non H',rt:=Q} (start N vs) H):FnOk P w K mg base CX0 (k+1) f fd ps sp:=Fn F ds len (d fd.code)
def Fun.binds{x a:Str}{st:Stmt}{f:Addr}{fd:FuncData}{ps:List Str}(F:Fun K x a st f fd)(h:∀ (kV d e:Value) (j:Option Addr) (qZ g:Value) (us:List Value),us.length=ps.length->bindArgs (W.fnOf x a (vf st) (yu st) (zd st) .none kV d e j qZ g) ⟨us,[]⟩=pure (ps.zip us)):um K fd ps []:=by
 obtain⟨r,q,kV,d,e,j,qZ,g,k,rfl,u,l⟩:=F.ex;exact .all (h kV d e j qZ g)
def Px{x a:Str}{st:Stmt}{f:Addr}{u:Value}{r q:Option Addr}{e:Array (Option Value)}{kV d g qZ j:Value}(l:K.lookup f=some ⟨u,r,.func (W.fnOf x a (vf st) (yu st) (zd st) .none kV d g q qZ j),e⟩)(c:W.codeIn K qZ a=true)(k:W.keepIn K (.ref f)=true):Fun K x a st f (W.fnOf x a (vf st) (yu st) (zd st) .none kV d g q qZ j):=⟨⟨u,r,kV,d,g,q,qZ,j,e,rfl,l,c⟩,k⟩
def iteF{A B:Prop}(h:B):if false=true then A else B:=by
 rw[zaJ zaU];exact h
def iteT{A B:Prop}(h:A):if true=true then A else B:=by
 rw[zaK rfl];exact h
def Same(H H':Hp):Prop:=∀b o,H b=some o->H' b=some o
def Same.refl(H:Hp):Same H H:=λ_ _ h=>h
def Same.trans(a:Same H H1)(b:Same H1 H2):Same H H2:=λc o h=>b c o (a c o h)
def Same.free(e:Same H H')(h:H' l=Option.none):H l=Option.none:=by
 cases q:H l with
 |none=>rfl
 |some o =>
  rw[e l o q]at h;cases h
theorem O1{α a:Type}{f:α->a->Sem (ForInStep a)}(R:List α->a->Prop)(h:∀ x l c,R (x::l) c->∃ c',f x c=pure (.yield c')/\R l c') :
  ∀(l:List α)(c:a),R l c->∃c',forIn l c f=pure c'/\R [] c'
 |[],c,r=>⟨c,rfl,r⟩
 |x::l,c,r=>by
  obtain⟨k,e,g⟩:=h x l c r;obtain⟨j,e2,d⟩:=O1 R h l k g;exact⟨j,by rw[zeR,e,pure_bind];exact e2,d⟩
def Vu{x:Str}{c:Addr}(h:env.cells.lookup x=some c):cellOf env x=pure c:=by
 unfold cellOf;rw[h]
def Zk(h:∀ y∈scope.names,y.2=.free->∃ c,env.cells.lookup y.1=some c) :
  ∃cl,closureFor scope env=pure cl/\(∀x c,cl.lookup x=some c->env.cells.lookup x=some c)/\∀y∈scope.names,y.2=.free->∃c,cl.lookup y.1=some c:=by
 let f:Str×NameKind->List (Str×Addr)->Sem (ForInStep (List (Str×Addr))):=λx r=>match x with
  |(name,kind)=>if (kind==.free)=true then(do let a <- cellOf env name;pure (.yield ((name,a)::r))) else pure (.yield r)
 have q:=O1 (f:=f) (λj cs=>(∀x c,cs.lookup x=some c->env.cells.lookup x=some c)/\(∀y∈scope.names,y.2=.free->(∃c,cs.lookup y.1=some c)\/y∈j)/\∀y∈j,y∈scope.names) ?_ scope.names []
  ⟨λx c e=>(by cases e),λy d _=>.inr d,λ_ d=>d⟩
 ·obtain⟨cl,e,u,p2,_⟩:=q;refine⟨cl,?_,u,λy d g=>(p2 y d g).elim (λz=>z) λz=>(by cases z)⟩
  have e1:closureFor scope env=(forIn scope.names [] f >>= λr=>pure r):=rfl;rw[e1,e,pure_bind]
 rintro⟨n,k⟩ l cs ⟨u,p2,p3⟩;have D:=p3 _ (zao ..);by_cases hk:k=.free
 ·subst hk;obtain⟨c,B⟩:=h _ D rfl;refine⟨(n,c)::cs,?_,λx v e=>?_,λy d g=>?_,λy d=>p3 y (zal _ d)⟩
  ·show(if ((NameKind.free==NameKind.free)=true) then _ else _)=_
   rw[zaK aB,Vu B,pure_bind]
  ·rw[zcP]at e;cases hx:x==n with
   |true =>
    rw[hx]at e;have ex:x=n:=eq_of_beq hx;subst ex;cases e;exact B
   |false =>
    rw[hx]at e;exact u x v e
  rcases p2 y d g with⟨v,e⟩|z
  ·refine .inl ?_;rw[zcP];cases hx:y.1==n with
   |true=>exact⟨c,rfl⟩
   |false=>exact⟨v,e⟩
  rcases zam.mp z with rfl|z
  ·exact .inl ⟨c,by rw[zcP];simp⟩
  exact .inr z
 refine⟨cs,?_,u,λy d g=>?_,λy d=>p3 y (zal _ d)⟩
 ·show(if ((k==NameKind.free)=true) then _ else _)=_
  rw[zaJ (by simpa using hk)]
 rcases p2 y d g with z|z
 ·exact .inl z
 rcases zam.mp z with rfl|z
 ·exact absurd g hk
 exact .inr z
theorem uh{env:Env}:∀{names:List (Str×NameKind)}{x:Str},names.lookup x=some .free ->
  (names.map λ(n,k)=>if (k==NameKind.free&&env.scope.kind==.function&&env.kindOf n==some .cell) then(n,NameKind.cell) else(n,k)).lookup x=some .cell \/
  (names.map λ(n,k)=>if (k==NameKind.free&&env.scope.kind==.function&&env.kindOf n==some .cell) then(n,NameKind.cell) else(n,k)).lookup x=some .free
 |[],_,h=>by cases h
 |(n,k)::r,x,h=>by
  have a:=@uh env r x;rw[zaB];cases hx:x==n with
  |true =>
   rw[zcP,hx]at h;cases h;by_cases hc:(NameKind.free==NameKind.free&&env.scope.kind==.function&&env.kindOf n==some .cell)=true
   ·refine .inl ?_;show List.lookup x ((if (NameKind.free==NameKind.free&&env.scope.kind==.function&&env.kindOf n==some .cell)=true then(n,NameKind.cell) else(n,NameKind.free))::_)=_
    rw[zaK hc,zcP,hx]
   refine .inr ?_;show List.lookup x ((if (NameKind.free==NameKind.free&&env.scope.kind==.function&&env.kindOf n==some .cell)=true then(n,NameKind.cell) else(n,NameKind.free))::_)=_
   rw[zaJ hc,zcP,hx]
  |false =>
   rw[zcP,hx]at h;have e:∀(b:Bool)(l:List (Str×NameKind)),List.lookup x ((if b=true then(n,NameKind.cell) else(n,k))::l)=l.lookup x:=λb l=>by
    cases b with
    |true=>rw[zaK rfl,zcP,hx]
    |false=>rw[zaJ zaU,zcP,hx]
   rcases a h with q|q
   ·exact .inl ((e _ _).trans q)
   exact .inr ((e _ _).trans q)
def gc(g:∀ y∈scope.names,y.2≠.cell){x:Str}(h:(relabel scope env).names.lookup x=some k)(q:k=.cell\/k=.free) :
  ∃y∈scope.names,y.1=x/\y.2=.free:=by
 have l:=zcI h;obtain⟨⟨n,a⟩,j,e⟩:=zah.mp l;refine⟨(n,a),j,?_⟩;have d:(if (a==NameKind.free&&env.scope.kind==.function&&env.kindOf n==some .cell)=true then(n,NameKind.cell) else(n,a))=(x,k):=e
 by_cases hc:(a==NameKind.free&&env.scope.kind==.function&&env.kindOf n==some .cell)=true
 ·rw[zaK hc]at d;cases d;refine⟨rfl,?_⟩;rw[zcF,zcF]at hc;exact eq_of_beq hc.1.1
 rw[zaJ hc]at d;cases d;rcases q with rfl|rfl
 ·exact absurd rfl (g _ j)
 exact⟨rfl,rfl⟩
noncomputable abbrev x6(X:Cx)(N':List Str)(scope:Scope)(cl:List (Str×Addr))(C:Addr)(fp:List Addr)(s₀:Shared)(H_:Hp):Cx :=
 {X with N:=N',s₀:=s₀,H_:=H_,env:=compEnvC scope cl C X.env,outer:=X.stack,ex:=fp,fn:=λ_=>false,pn:=[],xe:=λ_ _=>False}
structure y0(psc scope:Scope)(T F:List Str):Prop where
 kind:scope.kind=.function
 nocell:∀y∈scope.names,y.2≠.cell
 loc:∀y∈scope.names,y.2=.local->scope.names.lookup y.1=some .local
 fr:∀y∈scope.names,y.2=.free->psc.names.lookup y.1=some .cell\/psc.names.lookup y.1=some .free
 nd:(T++F).Nodup
 ffree:∀x∈F,scope.names.lookup x=some .free
section
variable{scope:Scope}{T F:List Str}{cl:List (Str×Addr)}{fp:List Addr}{js:List Nat}
def cy(I:Inv X pn Y H s)(ds:y0 X.env.scope scope T F):∀y∈scope.names,y.2=.free->∃c,X.env.cells.lookup y.1=some c:=λy a d=>I.ok.has y.1 (ds.fr y a d)
def Gz(I:Inv X pn Y H s)(ds:y0 X.env.scope scope T F)(j:∀ x c,cl.lookup x=some c->X.env.cells.lookup x=some c)(p2:∀ y∈scope.names,y.2=.free->∃ c,cl.lookup y.1=some c)(r:s.heap.objs.size<=C)(g:∀ b∈fp,FpOk X pn H b)(l:∀ b∈fp,b<s.heap.objs.size) :
  (x6 X (T++F) scope cl C fp s H).Ok where
 mod:=I.ok.mod
 kind:=ds.kind
 glob:=I.ok.glob
 blt:=I.ok.blt
 above:=r
 inj:=λx y c a k=>I.ok.inj x y c (j x c a) (j y c k)
 has:=λx a=>by
  have q:∃y∈scope.names,y.1=x/\y.2=.free:=by
   rcases a with a|a
   ·exact gc (env:=X.env) ds.nocell (show(relabel scope X.env).names.lookup x=some .cell from a) (.inl rfl)
   exact gc (env:=X.env) ds.nocell (show(relabel scope X.env).names.lookup x=some .free from a) (.inr rfl)
  obtain⟨y,k,rfl,g⟩:=q;exact p2 y k g
 cab:=λx c h=>by cases h
 hd:=I.ok.hd
 frames:=I.ok.frames
 stk:=.inl rfl
 exf:=λb d=>⟨zaT (zaR (l b d) r),λx c e=>(g b d).2.2.2.2.1 x c (j x c e)⟩
 bs:=I.bs
 bsz:=zak I.ok.bsz I.sz
 noex:=λb o e d=>by
  rcases(g b d).2.2.2.1 with z|z
  ·exact I.ok.noex b o e z
  exact absurd (zaR (zae (I.ok.bs b o e).1) z) (zbT _)
 exfs:=λb d z=>by
  rcases zam.mp (I.stkSub b z) with q|q
  ·exact(g b d).2.1 q
  exact(g b d).2.2.1 q
 funs:=I.stack
 frf:=I.stkFree
noncomputable def st0(T:List Str)(js:List Nat)(Y:St):St:=List.replicate T.length none++js.map λj=>(Y[j]?).join
theorem jv{α d:Type}{R:α->d->Prop}:∀{l:List α}{r:List d}{i:Nat}{b:d},Paired R l r->r[i]?=some b->∃a,l[i]?=some a/\R a b
 |_,_,_,_,.nil,e=>by simp at e
 |_,_,0,_,.cons h _,e=>by simp at e;subst e;exact⟨_,rfl,h⟩
 |_,_,i+1,b,.cons _ t,e=>by
  obtain⟨a,j,g⟩:=jv (i:=i) (b:=b) t (by simpa using e)
  exact⟨a,by simpa using j,g⟩
def La(I:Inv X pn Y H s)(ds:y0 X.env.scope scope T F)(L:∀ x c,cl.lookup x=some c->X.env.cells.lookup x=some c)(p2:∀ y∈scope.names,y.2=.free->∃ c,cl.lookup y.1=some c)(D:Paired (λx j=>X.N[j]?=some x) F js)(W:s.heap.objs.size<=C)(hf:∀ b∈fp,FpOk X pn H b)(R:∀ b∈fp,b<s.heap.objs.size)(hn:h₁.Ns C m)(O:∀ b o,s.heap.get? b=some o->h₁.get? b=some o):Inv (x6 X (T++F) scope cl C fp s H) [] (st0 T js Y) H {s with heap:=h₁,toks:=t'}:=by
 refine⟨Gz I ds L p2 W hf R,rfl,I.bare,Un.kept O,⟨m,hn,λi x v h1 h2 h3=>?_⟩,λx c e=>?_,I.hok.fresh W,λx c e=>I.freeC x c (L x c e),λp hp=>(by cases hp),I.hok.kept O,?_⟩
 ·have hi:T.length<=i:=by
   rcases zcQ i T.length with z|z
   ·exfalso;unfold st0 at h2;rw[zaG (by simpa using z),zcA]at h2
    split at h2 <;> cases h2
   exact z
  unfold st0 at h2;rw[zaC (by simpa using hi),zai,zbU]at h2
  cases ej:js[i-T.length]? with
  |none=>rw[ej]at h2;cases h2
  |some j =>
   rw[ej]at h2;have d:(Y[j]?).join=some v:=zaM h2;obtain⟨x',B,hX⟩:=jv D ej;have es:(T++F)[i]?=some x:=h1;rw[zaC hi,B]at es;cases es;have r:Y[j]?=some (some v):=by
    cases e:Y[j]? with
    |none=>rw[e]at d;cases d
    |some o=>rw[e]at d;cases d;rfl
   have Q:x∈F:=zan B;have a:=ds.ffree x Q;have g:=ds.fr _ (zcI a) rfl;obtain⟨m0,_,look⟩:=I.loc;obtain⟨u,Z,lk⟩:=look j x v hX r (.inr g);refine⟨u,Z,?_⟩;rcases lk with⟨k,_⟩|⟨_,c,hc,l⟩
   ·exfalso;have V:X.env.scope.names.lookup x=some .local:=k;rcases g with z|z
    ·rw[V]at z;cases z
    rw[V]at z;cases z
   obtain⟨c',G⟩:=p2 _ (zcI a) rfl;have e2:=L x c' G;rw[hc]at e2;cases e2;refine .inr ⟨?_,c,G,l.keeps O⟩;exact uh (env:=X.env) a
 ·obtain⟨v,q⟩:=I.cell x c (L x c e);exact⟨v,q.keeps O⟩
 show(st0 T js Y).length=(T++F).length;unfold st0;rw[zLa,zLa,zbU,zLm,(zfQ D)]
def Lb(I:Inv X pn Y H s)(es:Inv (x6 X N' scope cl C fp s H) [] σ' H' s')(a:∀ b∈fp,FpOk X pn H b):Inv X pn Y H' s' :=
 I.call' (ch:=fp) (show s'.os=s.os from es.os) es.base es.hok es.bare λb d=>⟨(a b d).2.2.2.1,(a b d).2.1,(a b d).2.2.2.2.1,(a b d).2.2.2.2.2⟩
end
section
variable{R:Result->Shared->Prop}
def R9(I:Nat->Shared->Prop)(u:∀ n s,I n s->wpAny (model prog w) A (pyNext it) (λr d=>match r with
   |none=>R (.ok .next) d
   | some v=>wpAny (model prog w) A (letOwnedTupleGo target it v) (λ_ k=>wpAny (model prog w) A (assign target env v) (λ_ j =>
     wpAny (model prog w) A (forIn ifs true λc r=>if r=true then do let ok <- isTrue c env (eval c env);pure (ForInStep.yield ok) else pure (ForInStep.yield r)) (λok a =>
      if ok=true then wpAny (model prog w) A (eval elt env) (λx g=>wpAny (model prog w) A (call (.builtin "list.append") [acc,x]) (λ_ e=>∃ m,m<n/\I m e) (λ_ _=>False) g) (λ_ _=>False) a
      else ∃ m,m<n/\I m a) (λ_ _=>False) j) (λ_ _=>False) k) (λ_ _=>False) d) (λ_ _=>False) s)(n:Nat)(h:I n s):codeAny (model prog w) A (.compLoop (.ListComp elt [⟨target,iter,ifs,0⟩] scope pos) 0 it acc env) R s:=by
 refine codeAny_loop rfl I (λn s G=>?_) n h;show wpAny _ A ((compTurn (.ListComp elt [⟨target,iter,ifs,0⟩] scope pos) 0 it acc env).onRaise (λx=>do noteFrame x env;theTreesLotGoes x)) _ _ s
 refine wpAny_noted (wpAny_noRaise ?_);rw[compTurn_list];refine zaa (wpAny_standAt (zaa (thn (u n s G) λr d q=>?_)));cases r with
 |none=>exact zab q
 |some v =>
  refine zaa (thn q λ_ k D=>zaa (thn D λ_ j B=>zaa (thn B λok a l=>?_)));cases ok with
  |false=>exact zab ⟨rfl,l⟩
  |true=>exact zaa (zaa (thn l λx g z=>zaa (thn z λ_ e y=>zab (zab ⟨rfl,y⟩))))
end
def PIf(X:Cx)(ifs:List Expr)(t:TT):Prop :=
 ∀(pn:List (Addr×Obj))(s:Shared)(Y:St)(H:Hp)(Q:Bool->Hp->Prop),Inv X pn Y H s->t Y H Q ->
  wpAny (model X.prog X.w) X.A (forIn ifs true λc r=>if r=true then do let ok <- isTrue c X.env (eval c X.env);pure (ForInStep.yield ok) else pure (ForInStep.yield r)) (TP X pn Y Q) X.xe s
def tYes:TT:=λ_ H Q=>Q true H
def Gj:PIf X [] tYes:=λ_ _ _ H _ I h=>wpAny_tests_nil ⟨H,I,h⟩
def Gi{c:Expr}(h:PT X c tc):PIf X [c] tc:=λpn s Y H Q I q=>wpAny_tests_one (h pn s Y H Q I q)
def wm(n:Nat)(Y a:St):Prop:=a.length=Y.length/\∀i,n<=i->a[i]?=Y[i]?
def wm.refl(n:Nat)(Y:St):wm n Y Y:=⟨rfl,λ_ _=>rfl⟩
theorem wm.trans{n:Nat}{a b c:St}(x:wm n a b)(y:wm n b c):wm n a c:=⟨y.1.trans x.1,λi h=>(y.2 i h).trans (x.2 i h)⟩
theorem wm.set{n i:Nat}{Y:St}{v:V}(h:i<n):wm n Y (Y.set i (some v)):=⟨by simp,λj a=>by rw[zaN aD]⟩
def bq(n:Nat)(g:TG):Prop:=∀v Y H Q,g v Y H Q->g v Y H λa H'=>Q a H'/\wm n Y a
def Tl(n:Nat)(g:TGs):Prop:=∀vs Y H Q,g vs Y H Q->g vs Y H λa H'=>Q a H'/\wm n Y a
def yi(h:i<n):bq n (u9 i):=λv Y H Q q=>⟨q,wm.set h⟩
def cf:Tl n gNil:=λvs Y H Q q=>⟨q.1,q.2,wm.refl n Y⟩
def wx(mono:∀ v Y H Q Q',(∀ a H',Q a H'->Q' a H')->t v Y H Q->t v Y H Q')(d:∀ v Y H Q Q',(∀ a H',Q a H'->Q' a H')->u v Y H Q->u v Y H Q')(h1:bq n t)(h2:Tl n u):Tl n (uz t u):=λvs Y H Q q=>by
 obtain⟨v,r,e,q⟩:=q;refine⟨v,r,e,mono _ _ _ _ _ (λa H' z=>?_) (h1 v Y H _ q)⟩;exact d _ _ _ _ _ (λg H2 y=>⟨y.1,z.2.trans y.2⟩) (h2 r a H' Q z.1)
def ca{K:W.Frag}{n k:Nat}{t:TGs}(h:Tl n t):bq n (gTup K k t):=λv Y H Q q=>by
 obtain⟨a,E,e,d,hl,q⟩:=q;exact⟨a,E,e,d,hl,h E Y H Q q⟩
def xf:∀v Y H (Q Q':St->Hp->Prop),(∀σ' H',Q σ' H'->Q' σ' H')->u9 i v Y H Q->u9 i v Y H Q':=λ_ _ _ _ _ f q=>f _ _ q
def ur:∀v Y H (Q Q':St->Hp->Prop),(∀σ' H',Q σ' H'->Q' σ' H')->gNil v Y H Q->gNil v Y H Q':=λ_ _ _ _ _ f q=>⟨q.1,f _ _ q.2⟩
def k7(mono:∀ v Y H Q Q',(∀ a H',Q a H'->Q' a H')->t v Y H Q->t v Y H Q')(d:∀ v Y H Q Q',(∀ a H',Q a H'->Q' a H')->u v Y H Q->u v Y H Q') :
  ∀v Y H (Q Q':St->Hp->Prop),(∀a H',Q a H'->Q' a H')->uz t u v Y H Q->uz t u v Y H Q':=λvs Y H Q Q' f q=>by
 obtain⟨v,r,e,q⟩:=q;exact⟨v,r,e,mono _ _ _ _ _ (λa H' z=>d _ _ _ _ _ f z) q⟩
def Ex(es:It)(g:TG)(tc:TT)(te:TE)(d:St)(D:Addr)(Z:Hp->Prop)(H:Hp):Prop :=
 ∃W:Nat->Nat->List V->Hp->Prop,(∃m,W 0 m [] H)/\∀i m ys H,W i m ys H->H D=some (.lst ys)/\((es.stop i H/\Z H)\/(es.go i H/\∃N:List V->Hp->Prop,(∀zs H',N zs H'->∃m',m'<m/\W (i+1) m' zs H')/\∀x H',es.yld i H x H' ->
  g x d H' λa H2=>tc a H2 λb j=>if b=true then te a j λy e=>e D=some (.lst ys)/\ys.length<sizeLine/\N (ys++[y]) (upd e D (.lst (ys++[y]))) else N ys j))
def Rt(a:TI)(T:List Str)(js:List Nat)(g:TG)(tc:TT)(te:TE):TE:=λY H Q=>a Y H λes H1=>∀D,H1 D=none->Ex es g tc te (st0 T js Y) D (Q (.ref D)) (upd H1 D (.lst []))
section
variable{H2:Hp}{s2:Shared}{scope:Scope}{T F:List Str}{cl:List (Str×Addr)}{fp:List Addr}{js:List Nat}{tg iter elt:Expr}{ifs:List Expr}{pos:Pos}{g:TG}{tc:TT}{te:TE}{es:It}{it:Addr}{tn:Nat->Heap->Prop}{RR:Value->Addr->Result->Shared->Prop}
def Zj(hc:X.calm=true)(ds:y0 X.env.scope scope T F)(d4:Paired (λx j=>X.N[j]?=some x) F js)(hg:∀ cl C fp s H,PG (x6 X (T++F) scope cl C fp s H) tg g)(hk:bq T.length g)(ht:∀ cl C fp s H,PIf (x6 X (T++F) scope cl C fp s H) ifs tc)(he:∀ cl C fp s H,PE (x6 X (T++F) scope cl C fp s H) elt te)(p1:∀ x c,cl.lookup x=some c->X.env.cells.lookup x=some c)(p2:∀ y∈scope.names,y.2=.free->∃ c,cl.lookup y.1=some c)(I2:Inv X pn Y H2 s2)(Tn:Turn X.prog X.w X.K tg es fp it tn)(c1:tn 0 s2.heap)(f2:∀ b∈fp,FpOk X pn H2 b)(Z:Addr->Hp->Prop)(c2:∀ D,H2 D=none->Ex es g tc te (st0 T js Y) D (Z D) (upd H2 D (.lst [])))(d5:∀ D C H' s' m',s'.heap.Ns C m'->FpOk X pn H' C->Inv X pn Y H' s'->Z D H'->RR (.ref D) C (.ok .next) s') :
  wpAny (model X.prog X.w) X.A (newList []) (λc8 a8=>wpAny (model X.prog X.w) X.A (newFunctionEnv scope X.env.globals cl [] X.env.qual none .none (some X.env)) (λR a7 =>
   codeAny (model X.prog X.w) X.A (.compStart (.ListComp elt [⟨tg,iter,ifs,0⟩] scope pos) 0 (.ref it) c8 {R with scope:=relabel scope X.env}) (RR c8 R.locals) a7) xs a8) xs s2:=by
 refine zbR (wpAny_newFunctionEnv ds.nocell (by intro y hy;cases hy) (λh₁ a5 a4=>?_) ds.kind)
 dsimp only at a5 a4 ⊢
 have I3:Inv X pn Y (upd H2 s2.heap.objs.size (.lst [])) {s2 with heap:=s2.heap.push {cls:=.type "list",data:=.seq ([]:List Value).toArray}}:=I2.lnew (its:=[]) (t':=s2.toks) .nil (zcB _);have Q:∀b∈fp,b<s2.heap.objs.size:=λb l=>by
  obtain⟨o,e,_⟩:=Tn.obj _ _ c1 b l;exact zae e
 have f3:∀b∈fp,FpOk X pn (upd H2 s2.heap.objs.size (.lst [])) b:=λb l=>⟨by rw[zx (zaT (Q b l))];exact(f2 b l).1,(f2 b l).2⟩
 obtain⟨W,⟨m0,w0⟩,a6⟩:=c2 s2.heap.objs.size I2.fresh;generalize hs3:({s2 with heap:=s2.heap.push {cls:=.type "list",data:=.seq ([]:List Value).toArray}}:Shared)=k at I3;have e3:s2.heap.push {cls:=.type "list",dict:=none,data:=.seq ([]:List Value).toArray}=k.heap:=by rw[<- hs3]
 rw[e3]at a5 a4 ⊢;have a9:k.heap.objs.size=s2.heap.objs.size+1:=by rw[<- e3,zdM]
 have O:∀b o,k.heap.get? b=some o->h₁.get? b=some o:=λb o e=>a4.extBut b o (zaT (zae e)) (zac _ e);have B:∀b∈fp,b<k.heap.objs.size:=λb l=>by rw[a9];exact Nat.lt_succ_of_lt (Q b l)
 have J0:Inv (x6 X (T++F) scope cl k.heap.objs.size fp k (upd H2 s2.heap.objs.size (.lst []))) [] (st0 T js Y) (upd H2 s2.heap.objs.size (.lst [])) {k with heap:=h₁,toks:=s2.toks+([]:List (Str×Value)).length} :=
  La I3 ds p1 p2 d4 (zaj _) f3 B a5 O
 have stL:tn 0 h₁:=Tn.keep _ _ _ c1 λb _ o e=>O b o (by rw[<- e3];exact zac _ e)
 have J:({s2 with heap:=h₁,toks:=s2.toks+([]:List (Str×Value)).length}:Shared)={k with heap:=h₁,toks:=s2.toks+([]:List (Str×Value)).length}:=by rw[<- hs3]
 have L:codeAny (model X.prog X.w) X.A (.compLoop (.ListComp elt [⟨tg,iter,ifs,0⟩] scope pos) 0 (.ref it) (.ref s2.heap.objs.size) (compEnvC scope cl k.heap.objs.size X.env)) (RR (.ref s2.heap.objs.size) k.heap.objs.size)
   {k with heap:=h₁,toks:=s2.toks+([]:List (Str×Value)).length}:=by
  have q:∀{H':Hp},(∀b∈fp,H' b=none)->∀b∈fp,FpOk (x6 X (T++F) scope cl k.heap.objs.size fp k (upd H2 s2.heap.objs.size (.lst []))) [] H' b:=λhn b l =>
   ⟨hn b l,zaT (B b l),J0.ok.exfs b l,.inl l,(J0.ok.exf b l).2,λp hp=>(by cases hp)⟩
  refine R9 (λn s'=>∃i ys H',Inv (x6 X (T++F) scope cl k.heap.objs.size fp k (upd H2 s2.heap.objs.size (.lst []))) [] (st0 T js Y) H' s'/\tn i s'.heap/\(∀b∈fp,H' b=none)/\W i n ys H') ?_ m0
   ⟨0,[],_,J0,stL,λb l=>(f3 b l).1,w0⟩
  rintro n s4 ⟨i,ys,H4,I4,c0,c3,w4⟩;obtain⟨hD,e7⟩:=a6 i n ys H4 w4;rcases e7 with⟨b0,z⟩|⟨go,N,hN,step⟩
  ·refine thn (Tn.done (x6 X (T++F) scope cl k.heap.objs.size fp k (upd H2 s2.heap.objs.size (.lst []))) rfl rfl rfl hc i [] s4 _ H4 (λ_ _=>False) I4 (q c3) c0 b0) λr s5 ⟨hr,I5⟩=>?_;subst hr;obtain⟨m5,n5,_⟩:=I5.loc;have fC:FpOk X pn H4 k.heap.objs.size:=I2.fpOk (by rw[a9];exact Nat.le_succ _) I5.free
   exact d5 _ _ H4 s5 m5 n5 fC ((Lb I3 I5 f3)) z
  refine thn (Tn.item (x6 X (T++F) scope cl k.heap.objs.size fp k (upd H2 s2.heap.objs.size (.lst []))) rfl rfl rfl hc i [] s4 _ H4 (λ_ _=>False) I4 (q c3) c0 go) λr s5 Zh=>?_;obtain⟨u,hr,h5⟩:=Zh;subst hr;refine thn h5 λ_ s6 Zh=>?_;obtain⟨x,H6,I6,r6,y6,a0,e5⟩:=Zh;have e9:=I6.pinned (q e5) (Tn.obj _ _ a0);refine thn (hg _ _ _ _ _ _ s6 _ H6 x u _ e9 r6 (hk x _ H6 _ (step x H6 y6))) λ_ s7 Zh=>?_;obtain⟨I,H7,I7,q7,kp⟩:=Zh;refine thn (ht _ _ _ _ _ _ s7 I H7 _ I7 q7) λok s8 Zh=>?_;obtain⟨H8,I8,q8⟩:=Zh;have G:∀{s9:Shared}{H9:Hp},Inv (x6 X (T++F) scope cl k.heap.objs.size fp k (upd H2 s2.heap.objs.size (.lst []))) ([]++Xf fp s6.heap) I H9 s9->∀{zs:List V},(∃m',m'<n/\W (i+1) m' zs H9) ->
    ∃m,m<n/\∃i ys H',Inv (x6 X (T++F) scope cl k.heap.objs.size fp k (upd H2 s2.heap.objs.size (.lst []))) [] (st0 T js Y) H' s9/\tn i s9.heap/\(∀b∈fp,H' b=none)/\W i m ys H':=λ{s9 H9} I9 {zs} q9=>by
   obtain⟨m',hm,w9⟩:=q9;have e8:=I9.unpinned;refine⟨m',hm,i+1,zs,H9,e8.weak kp.1.symm (λa v ea=>?_),Tn.keep _ _ _ a0 λb l o e=>(I9.pin (b,o) (zaD _ (zaD _ (rz l e)))).1,λb l=>?_,w9⟩
   ·have ha:T.length<=a:=by
     rcases zcQ a T.length with z|z
     ·exfalso;unfold st0 at ea;rw[zaG (by simpa using z),zcA]at ea
      split at ea <;> cases ea
     exact z
    rw[kp.2 a ha];exact ea
   obtain⟨o,e,d⟩:=Tn.obj _ _ a0 b l;exact(I9.pin (b,o) (zaD _ (zaD _ (rz l e)))).2.1
  cases ok with
  |false =>
   rw[zaJ zaU]at q8 ⊢;exact G I8 (hN _ _ q8)
  |true =>
   rw[zaK rfl]at q8 ⊢;refine thn (he _ _ _ _ _ _ s8 I H8 _ I8 q8) λy s9 Zh=>?_;obtain⟨v9,H9,I9,r9,e4,d3,q9⟩:=Zh;refine thn (di _ s9 I H9 (.ref s2.heap.objs.size) [v9] (.ref s2.heap.objs.size) [y] (λ_ d0=>d0=upd H9 s2.heap.objs.size (.lst (ys++[v9]))) I9 rfl (.cons r9 .nil) ⟨_,_,_,rfl,rfl,e4,d3,rfl⟩) λ_ f1 Zh=>?_;obtain⟨_,d0,f0,_,e6⟩:=Zh;subst e6;exact G f0 (hN _ _ q9)
 show codeAny _ _ _ _ ({s2 with heap:=h₁,toks:=s2.toks+([]:List (Str×Value)).length}:Shared);rw[J];exact codeAny_compStart_list L (Tn.self _ 0 _ _ _ stL L)
def Qu(hc:X.calm=true)(hi:PI X tg iter wi)(ds:y0 X.env.scope scope T F)(k:Paired (λx j=>X.N[j]?=some x) F js)(W:∀ cl C fp s H,PG (x6 X (T++F) scope cl C fp s H) tg g)(V:bq T.length g)(L:∀ cl C fp s H,PIf (x6 X (T++F) scope cl C fp s H) ifs tc)(Z:∀ cl C fp s H,PE (x6 X (T++F) scope cl C fp s H) elt te)(O:∀ x,foldedSetIterable iter X.env x=pure x:=by intro _;rfl):PE X (.ListComp elt [⟨tg,iter,ifs,0⟩] scope pos) (Rt wi T js g tc te):=by
 intro pn s Y H Q I h;obtain⟨cl,l,y,p2⟩:=Zk (cy I ds);rw[eval_ListComp];refine wpAny_comprehension_free (use:=none) rfl O l ds.kind ds.loc (thn (hi pn s Y H _ I h) λv s1 h1=>thn h1 λG s2 h2=>?_);obtain⟨it,fp,tn,es,H2,e,I2,Tn,d,r,a⟩:=h2;subst e;refine Zj (RR:=λq C=>compPost (model X.prog X.w) X.A X.xe none (EP X pn Y Q) q C) hc ds k W V L Z y p2 I2 Tn d r (λD H'=>Q (.ref D) H') a ?_;intro D C H' s' B R fC I' z;obtain⟨f0,f1,r,f3,f4,f5⟩:=fC;exact⟨B,R,λh' u=>⟨.ref D,H',I'.turned (t':=s'.toks) (λb o hb e=>(u.2 b hb).trans e) f0 f1 f3 f4 f5,rfl,z⟩⟩
def Z8(hc:X.calm=true)(hN:X.N.Nodup)(hy:X.N[i]?=some y)(hl:X.env.scope.names.lookup y=some .local\/X.env.scope.names.lookup y=some .cell)(hi:PI X tg iter wi)(ds:y0 X.env.scope scope T F)(B:Paired (λx j=>X.N[j]?=some x) F js)(hg:∀ cl C fp s H,PG (x6 X (T++F) scope cl C fp s H) tg g)(hk:bq T.length g)(ht:∀ cl C fp s H,PIf (x6 X (T++F) scope cl C fp s H) ifs tc)(he:∀ cl C fp s H,PE (x6 X (T++F) scope cl C fp s H) elt te)(u:autoParam (swapsWith (.ListComp elt [⟨tg,iter,ifs,0⟩] scope pos) (some (.Name y py)) spos.line X.env=pure true) zSr)(hs:∀ x,foldedSetIterable iter X.env x=pure x:=by intro _;rfl)(G:X.fn y=true\/X.env.scope.names.lookup y=some .local:=by first|exact .inl rfl|exact .inr rfl|assumption) :
  PS X (.Assign [.Name y py] (.ListComp elt [⟨tg,iter,ifs,0⟩] scope pos) spos) (λD Y H=>Rt wi T js g tc te Y H λv H1=>D.nx (Y.set i (some v)) H1):=by
 intro pn s Y H D I h;obtain⟨cl,L,p1,p2⟩:=Zk (cy I ds);rw[exec_Assign_Name_used _ _ _ _ u];refine zaa (wpAny_standAt (zaa ?_));show wpAny _ X.A (do let _ <- comprehension (.ListComp elt [⟨tg,iter,ifs,0⟩] scope pos) scope X.env _ (newList []) false (eval iter X.env) (some (assign (.Name y py) X.env))) _ _ s
 refine zaa (thn (wpAny_comprehension_free (use:=some (assign (.Name y py) X.env)) (Q:=λ_ s'=>SP X pn D .next s') rfl hs L ds.kind ds.loc (thn (hi pn s Y H _ I h) λv s1 h1=>thn h1 λa0 s2 h2=>?_)) λ_ s' hq=>zab (zab hq));obtain⟨it,fp,tn,es,H2,e,I2,Tn,l,f2,d⟩:=h2;subst e;refine Zj (RR:=λV C=>compPost (model X.prog X.w) X.A X.xe (some (assign (.Name y py) X.env)) (λ_ s'=>SP X pn D .next s') V C) hc ds B hg hk ht he p1 p2 I2 Tn l f2 (λk H'=>D.nx (Y.set i (some (.ref k))) H') d ?_;intro k C H' s' m' hn fC I' z;obtain⟨f0,f1,f2,f3,Z,f5⟩:=fC;show wpAny _ X.A (assign (.Name y py) X.env (.ref k)) _ _ s';refine wpAny_assign_Name (X3 (v:=.ref k) I' hN hy hl rfl (λr W ch=>?_) G);obtain⟨a,sb,O⟩:=ch;have R:C≠a:=by
  rcases O with rfl|O
  ·exact f1
  exact λz=>Z y a O z.symm
 exact⟨m',hn.sameBut sb R,λh' q=>⟨_,H',W.turned (t':=r.toks) (λb o hb e=>(q.2 b hb).trans e) f0 f1 f3 Z f5,z⟩⟩
end
noncomputable def Itv(n:Nat)(val:Nat->V->Prop):It:=⟨λi _=>i<n,λi H x H'=>H'=H/\val i x,λi _=>i=n⟩
def Ec(x:Str)(i:Nat)(v:V):Prop:=∃c,x.cps[i]?=some c/\v=.str ⟨#[c]⟩
def Ng{P:Program}{w:World}{K:W.Frag}{tg:Expr}{it:Addr}{x:Str}{t:Tok}{T:String}(W:∀ A:Around,A.handled=none->Walks P w A it [it] [it] x.cps.size (SignAt x) (λi h=>h.IsStrIter it T x t i))(hs:∀ (A:Around) (i:Nat) (s:Shared) (Q:Value->Shared->Prop) (xs:Value->Shared->Prop),s.heap.IsStrIter it T x t i->Q (.ref it) s->wpAny (model P w) A (pyIter (.ref it)) Q xs s)(hT:["enumerate","zip","dict_itemiterator","dict_reverseitemiterator","odict_iterator","itertools.zip_longest","itertools.pairwise"].contains T=false) :
  Turn P w K tg (Itv x.cps.size (Ec x)) [it] it (λi h=>h.IsStrIter it T x t i) where
 mem:=by simp
 obj:=λi h st b a=>by
  have e:b=it:=by simpa using a
  subst e;obtain⟨o,e,c,d⟩:=st;exact⟨o,e,λv z=>by rw[d]at z;cases z⟩
 keep:=λi h h' st k=>let ⟨o,e,r⟩:=st;⟨o,k it aE o e,r⟩
 item:=by
  intro X D q G B i pn s Y H xs I j st y;subst D q G;obtain⟨R,O,f2,N,L,es⟩:=j it aE
  refine(W X.A (I.ok.hd B)).item i s _ _ y st λv h' tk Z g l=>?_;obtain⟨c,u,V,rfl⟩:=Z;have I1:Inv X pn Y H {s with heap:=h',toks:=tk}:=I.turned (λb o a e=>l b o (by simpa using a) e) R O N L es
  obtain⟨o,e,c',d⟩:=id g;exact⟨_,rfl,Pw (s:={s with heap:=h',toks:=tk}) e c' d hT ⟨.str ⟨#[c]⟩,H,I1,⟨u,rfl⟩,⟨rfl,c,V,rfl⟩,g,λb a=>(j b a).1⟩⟩
 done:=by
  intro X D q G B i pn s Y H xs I j st y;subst D q G;obtain⟨R,O,f2,N,L,es⟩:=j it aE
  have e:i=x.cps.size:=y;subst e;exact(W X.A (I.ok.hd B)).done s _ _ st λh' tk l=>⟨rfl,I.turned (λb o a e=>l b o (by simpa using a) e) R O N L es⟩
 self:=λA i s Q xs st h=>hs A i s Q xs st h
noncomputable def Tu:V->Option Bool
 |.bl b=>some b
 |.int i=>some (i != 0)
 |.non=>some false
 |_=>none
noncomputable def Wp(ys:List V)(d:Bool)(i:Nat):Bool:=((ys[i]?).bind Tu).getD d
def Wl(ys:List V)(h:∀ y∈ys,(Tu y).isSome=true):(List.range ys.length).all (Wp ys true)=ys.all λy=>Tu y==some true:=by
 rw[Bool.eq_iff_iff,List.all_eq_true,List.all_eq_true];constructor
 ·intro q y d;obtain⟨i,hi,e⟩:=List.getElem_of_mem d;have z:=q i (zcZ.mpr hi);unfold Wp at z;rw[zaf hi,Option.bind_some,e]at z;obtain⟨b,g⟩:=Option.isSome_iff_exists.mp (h y d);rw[g]at z ⊢;simpa using z
 intro q i hi;have a:=zcZ.mp hi;have z:=q _ (zeH a);unfold Wp;rw[zaf a,Option.bind_some,eq_of_beq z];rfl
def U2(d:Bool)(r:Vals ys its)(h:∀ y∈ys,(Tu y).isSome=true):TruthOf P w A (λi v=>its.toArray[i]?=some v) (Wp ys d):=by
 intro i v s Q xs l a;obtain⟨y,g,e⟩:=jv r (show its[i]?=some v by simpa using l)
 unfold Wp at a;rw[g,Option.bind_some]at a;have j:=h y (zan g);cases y with
 |bl b=>cases e;exact zdO a
 |int k=>obtain⟨t,rfl⟩:=e;exact PySem.P.truthy_int a
 |non=>cases e;exact truthy_none a
 |_=>cases j
def Xo{s:Shared}{h':Heap}{o:Obj}(a:∀ b x,b∉[s.heap.objs.size]->(s.heap.push o).get? b=some x->h'.get? b=some x):∀b x,s.heap.get? b=some x->h'.get? b=some x :=
 λb x e=>a b x (by simpa using zaT (zae e)) (zac _ e)
def rAll(K:W.Frag)(f:List V->Bool):List V->Hp->VK->Prop:=λE H Q=>∃p ys,E=[.ref p]/\(SqL K H p ys\/SqT K H p ys)/\(∀y∈ys,(Tu y).isSome=true)/\Q (.bl (f ys)) H
def We(v:X.calm=true):t8 X (.builtin "all") (rAll X.K λys=>ys.all λy=>Tu y==some true):=by
 intro pn s Y H E us Q I r h;obtain⟨p,ys,rfl,j,k,q⟩:=h;obtain⟨u,rfl,x⟩:=kg r;cases x;rcases j with j|j
 ·obtain⟨its,d,pl,z⟩:=I.list j;have a:p<s.heap.objs.size:=by obtain⟨_,e,_⟩:=pl.isList;exact zae e
  refine call_all_walk (zcT pl.isList ⟨s.heap.objs.size,[s.heap.objs.size,p],[s.heap.objs.size],its.toArray.size,_,_,Wp ys true,rfl,Walks.list (A:=X.A.in1) (I.ok.hd v) _ p (zaT a) its.toArray,
   ⟨⟨_,zad _ rfl,rfl,rfl⟩,pl.isList.push _⟩,U2 true d k,λh' tk l=>?_⟩)
  rw[zap,<- d.length,Wl ys k];exact⟨.bl _,H,I.kept (Xo l),rfl,q⟩
 obtain⟨its,d,pl,z⟩:=I.tuple j;have a:p<s.heap.objs.size:=by obtain⟨_,e,_⟩:=pl;exact zae e
 have g:s.heap.IsTuple p its.toArray:=pl;refine call_all_walk (zdE g ⟨s.heap.objs.size,[s.heap.objs.size,p],[s.heap.objs.size],its.toArray.size,_,_,Wp ys true,rfl,Walks.tuple (A:=X.A.in1) (I.ok.hd v) _ p (zaT a) its.toArray,
  ⟨⟨_,zad _ rfl,rfl,rfl⟩,g.at λo e=>zac _ e⟩,U2 true d k,λh' tk l=>?_⟩)
 rw[zap,<- d.length,Wl ys k];exact⟨.bl _,H,I.kept (Xo l),rfl,q⟩
theorem nd1(t:Str):([t]++[]).Nodup:=by simp
inductive D where
 |non|bl (b:Bool)|int (i:Int)|str (x:Str)|ty (n:String)
 |tup (S:List D)|lst (S:List D)|dk (ks:List Key) (S:List D)
  |scr (ns:List Int)
   |fo (o:Obj)
   |sx (S:List D)
   |ob (C:Addr) (ns:List Str) (S:List D)
def Scr(K:W.Frag)(H:Hp)(a:Addr)(ns:List Int):Prop :=
 (∃o,H a=some (.frz o (.lst (ns.map V.int)))) \/
  ∃(o:Obj)(its:Array Value)(n:Nat),K.lookup a=some o/\o.cls=.type "list"/\o.dict=none/\o.data=.seq its n/\its.size<=sizeLine/\Vals (ns.map V.int) its.toList
def Scr.seq{K:W.Frag}{H:Hp}{a:Addr}{ns:List Int}(h:Scr K H a ns):SqL K H a (ns.map V.int):=by
 rcases h with⟨o,h⟩|h
 ·exact .inl (.inr ⟨o,h⟩)
 exact .inr h
noncomputable def dzV(rs:List (List Int×Int)):List (List Key×V):=rs.map λp=>(p.1.map Sum.inl,V.int p.2)
def Dz(H:Hp)(a:Addr)(rs:List (List Int×Int)):Prop:=(∃o,H a=some (.frz o (.dT (dzV rs))))/\(rs.map Prod.fst).Nodup
def SqR(K:W.Frag)(H:Hp)(a:Addr)(E:List V):Prop:=SqT K H a E/\H a=some (.tup E)
noncomputable def FoO(a:Addr)(o:Obj):HO:=.ext λh=>h.get? a=some o
noncomputable def StO(a:Addr)(E:List V):HO:=.ext λh=>E.length=3/\∃(k:Int)(its:List Value)(n:Nat),0<=k/\Vals (E.take 1++V.int k::E.drop 1) its/\h.get? a=some {cls:=.type "list",dict:=none,data:=.seq its.toArray n,slots:=#[]}
mutual
def RepN(K:W.Frag)(H:Hp)(P:Addr->Prop):D->V->Prop
 |.non,v=>v=.non
 |.bl b,v=>v=.bl b
 |.int i,v=>v=.int i
 |.str x,v=>v=.str x
 |.ty n,v=>v=.ty n
 |.tup S,v=>∃a E,v=.ref a/\SqR K H a E/\zj K H P S E
 |.lst S,v=>∃a E,v=.ref a/\H a=some (.lst E)/\P a/\zj K H P S E
 |.scr ns,v=>∃a,v=.ref a/\Scr K H a ns
 |.fo C,v=>∃a,v=.ref a/\H a=some (FoO a C)/\P a
 |.sx S,v=>∃a E,v=.ref a/\H a=some (StO a E)/\P a/\zj K H P S E
 |.dk ks S,v=>∃a E,v=.ref a/\H a=some (.dK (ks.zip E))/\P a/\ks.length=S.length/\ks.Nodup/\zj K H P S E
 |.ob C ns S,v=>∃a dx E,v=.ref a/\H a=some (.ins C dx (ns.zip E))/\P a/\ns.length=S.length/\ns.Nodup/\zj K H P S E
def zj(K:W.Frag)(H:Hp)(P:Addr->Prop):List D->List V->Prop
 |[],E=>E=[]
 |d::S,E=>∃v r,E=v::r/\RepN K H P d v/\zj K H P S r
end
abbrev Rep(K:W.Frag)(H:Hp)(O:List Addr):D->V->Prop:=RepN K H λa=>a∉O
abbrev Reps(K:W.Frag)(H:Hp)(O:List Addr):List D->List V->Prop:=zj K H λa=>a∉O
structure Grow(O O':List Addr)(H H':Hp):Prop where
 keep:∀b u,H b=some u->b∉O->H' b=some u/\b∉O'
 tups:∀b E,H b=some (.tup E)->H' b=some (.tup E)
 frzs:∀b o u,H b=some (.frz o u)->H' b=some (.frz o u)
def Grow.same(s:Same H H'):Grow O O H H':=⟨λb u h n=>⟨s b u h,n⟩,λb E h=>s b _ h,λb o u h=>s b _ h⟩
theorem Grow.refl:Grow O O H H:=Grow.same (Same.refl H)
def Grow.trans(a:Grow O O' H H')(b:Grow O' O'' H' H''):Grow O O'' H H'' :=
 ⟨λc u h n=>let ⟨h',n'⟩:=a.keep c u h n;b.keep c u h' n',λc E h=>b.tups c E (a.tups c E h),λc o u h=>b.frzs c o u (a.frzs c o u h)⟩
def Q1{K:W.Frag}{H H':Hp}{a:Addr}{E:List V}(kt:∀ b E,H b=some (.tup E)->H' b=some (.tup E))(kf:∀ b o u,H b=some (.frz o u)->H' b=some (.frz o u)):SqT K H a E->SqT K H' a E
 |.inl (.inl h)=>.inl (.inl (kt _ _ h))
 |.inl (.inr ⟨o,h⟩)=>.inl (.inr ⟨o,kf _ _ _ h⟩)
 |.inr h=>.inr h
def Q2{K:W.Frag}{H H':Hp}{a:Addr}{E:List V}(kt:∀ b E,H b=some (.tup E)->H' b=some (.tup E))(kf:∀ b o u,H b=some (.frz o u)->H' b=some (.frz o u))(h:SqR K H a E):SqR K H' a E:=⟨Q1 kt kf h.1,kt _ _ h.2⟩
def U5{K:W.Frag}{H H':Hp}{a:Addr}{ns:List Int}(kf:∀ b o u,H b=some (.frz o u)->H' b=some (.frz o u))(h:Scr K H a ns):Scr K H' a ns:=by
 rcases h with⟨o,h⟩|h
 ·exact .inl ⟨o,kf _ _ _ h⟩
 exact .inr h
noncomputable def kO:HO->Nat
 |.lst _=>0
 |.dK _=>1
 |.dT _=>1
 |.ins _ _ _=>2
 |_=>3
mutual
def kdD(k:Nat->Prop):D->Prop
 |.tup S=>kdDs k S
 |.lst S=>k 0/\kdDs k S
 |.dk _ S=>k 1/\kdDs k S
 |.ob _ _ S=>k 2/\kdDs k S
 |.sx S=>k 3/\kdDs k S
 |.fo _=>k 3
 |.scr _=>True
 |.non=>True
 |.bl _=>True
 |.int _=>True
 |.str _=>True
 |.ty _=>True
def kdDs(k:Nat->Prop):List D->Prop
 |[]=>True
 |d::S=>kdD k d/\kdDs k S
end
abbrev zi:D->Prop:=kdD λ_=>False
abbrev zu:List D->Prop:=kdDs λ_=>False
theorem Uw{k:Nat->Prop}:∀{S:List D},kdDs k S ↔ ∀d∈S,kdD k d
 |[]=>by simp[kdDs]
 |d::S=>by
  rw[kdDs,Uw];simp
def y8:zu S ↔ ∀d∈S,zi d:=Uw
section
variable{P P':Addr->Prop}{O O':List Addr}{k:Nat->Prop}
mutual
theorem RepN.mono(kt:∀ b E,H b=some (.tup E)->H' b=some (.tup E))(kf:∀ b o u,H b=some (.frz o u)->H' b=some (.frz o u))(g:∀ b u,H b=some u->k (kO u)->P b->H' b=some u/\P' b):∀(d:D)(v:V),kdD k d->RepN K H P d v->RepN K H' P' d v
 |.non,_,_,h=>h
 |.bl _,_,_,h=>h
 |.int _,_,_,h=>h
 |.str _,_,_,h=>h
 |.ty _,_,_,h=>h
 |.tup S,v,p,⟨a,E,e,q,r⟩=>⟨a,E,e,Q2 kt kf q,zj.mono kt kf g S E p r⟩
 |.lst S,v,p,⟨a,E,e,q,n,r⟩=>⟨a,E,e,(g a _ q p.1 n).1,(g a _ q p.1 n).2,zj.mono kt kf g S E p.2 r⟩
 |.scr ns,v,_,⟨a,e,q⟩=>⟨a,e,U5 kf q⟩
 |.sx S,v,p,⟨a,E,e,q,n,r⟩=>⟨a,E,e,(g a _ q p.1 n).1,(g a _ q p.1 n).2,zj.mono kt kf g S E p.2 r⟩
 |.fo C,v,p,⟨a,e,q,n⟩=>⟨a,e,(g a _ q p n).1,(g a _ q p n).2⟩
 |.dk ks S,v,p,⟨a,E,e,q,n,l,nd,r⟩=>⟨a,E,e,(g a _ q p.1 n).1,(g a _ q p.1 n).2,l,nd,zj.mono kt kf g S E p.2 r⟩
 |.ob C ns S,v,p,⟨a,dx,E,e,q,n,l,nd,r⟩=>⟨a,dx,E,e,(g a _ q p.1 n).1,(g a _ q p.1 n).2,l,nd,zj.mono kt kf g S E p.2 r⟩
theorem zj.mono(kt:∀ b E,H b=some (.tup E)->H' b=some (.tup E))(kf:∀ b o u,H b=some (.frz o u)->H' b=some (.frz o u))(g:∀ b u,H b=some u->k (kO u)->P b->H' b=some u/\P' b):∀(S:List D)(E:List V),kdDs k S->zj K H P S E->zj K H' P' S E
 |[],_,_,h=>h
 |d::S,E,p,⟨v,r,e,q,t⟩=>⟨v,r,e,RepN.mono kt kf g d v p.1 q,zj.mono kt kf g S r p.2 t⟩
end
mutual
theorem Ja(h:∀ n,k n):∀d:D,kdD k d
 |.tup S=>qy h S
 |.lst S=>⟨h _,qy h S⟩
 |.dk _ S=>⟨h _,qy h S⟩
 |.ob _ _ S=>⟨h _,qy h S⟩
 |.sx S=>⟨h _,qy h S⟩
 |.fo _=>h _
 |.scr _=>trivial
 |.non=>trivial
 |.bl _=>trivial
 |.int _=>trivial
 |.str _=>trivial
 |.ty _=>trivial
theorem qy(h:∀ n,k n):∀S:List D,kdDs k S
 |[]=>trivial
 |d::S=>⟨Ja h d,qy h S⟩
end
section
variable(kt:∀ b E,H b=some (.tup E)->H' b=some (.tup E))(kf:∀ b o u,H b=some (.frz o u)->H' b=some (.frz o u))(g:∀ b u,P b->H b=some u->H' b=some u/\P' b)
include kt kf g
def RepN.go(d:D)(v:V)(h:RepN K H P d v):RepN K H' P' d v:=RepN.mono (k:=λ_=>True) kt kf (λb u h _ n=>g b u n h) d v (Ja (λ_=>trivial) d) h
def zj.go(S:List D)(E:List V)(h:zj K H P S E):zj K H' P' S E:=zj.mono (k:=λ_=>True) kt kf (λb u h _ n=>g b u n h) S E (qy (λ_=>trivial) S) h
end
def RepN.grow(g:Grow O O' H H')(d:D)(v:V)(h:Rep K H O d v):Rep K H' O' d v:=RepN.go g.tups g.frzs (λb u n h=>g.keep b u h n) d v h
def zj.grow(g:Grow O O' H H')(S:List D)(E:List V)(h:Reps K H O S E):Reps K H' O' S E:=zj.go g.tups g.frzs (λb u n h=>g.keep b u h n) S E h
def RepN.to(s:Same H H')(g:∀ a,P a->P' a)(d:D)(v:V)(h:RepN K H P d v):RepN K H' P' d v:=RepN.go (λb E h=>s b _ h) (λb o u h=>s b _ h) (λb u n h=>⟨s b u h,g b n⟩) d v h
def zj.to(s:Same H H')(g:∀ a,P a->P' a)(S:List D)(E:List V)(h:zj K H P S E):zj K H' P' S E:=zj.go (λb E h=>s b _ h) (λb o u h=>s b _ h) (λb u n h=>⟨s b u h,g b n⟩) S E h
def RepN.rep(g:∀ a,P a->a∉O)(d:D)(v:V)(h:RepN K H P d v):Rep K H O d v:=RepN.to (Same.refl H) g d v h
def zj.reps(g:∀ a,P a->a∉O)(S:List D)(E:List V)(h:zj K H P S E):Reps K H O S E:=zj.to (Same.refl H) g S E h
def RepN.sub(g:∀ a∈O',a∈O)(d:D)(v:V)(h:Rep K H O d v):Rep K H O' d v:=RepN.to (Same.refl H) (λa n z=>n (g a z)) d v h
def zj.sub(g:∀ a∈O',a∈O)(S:List D)(E:List V)(h:Reps K H O S E):Reps K H O' S E:=zj.to (Same.refl H) (λa n z=>n (g a z)) S E h
def RepN.toN(d:D)(v:V)(p:zi d)(h:RepN K H P d v):RepN K H P' d v:=RepN.mono (λ_ _ h=>h) (λ_ _ _ h=>h) (λ_ _ _ z=>z.elim) d v p h
def zj.toN(S:List D)(E:List V)(p:zu S)(h:zj K H P S E):zj K H P' S E:=zj.mono (λ_ _ h=>h) (λ_ _ _ h=>h) (λ_ _ _ z=>z.elim) S E p h
def RepN.pure(d:D)(v:V)(p:zi d)(h:Rep K H O d v):Rep K H O' d v:=RepN.toN d v p h
def zj.pure(S:List D)(E:List V)(p:zu S)(h:Reps K H O S E):Reps K H O' S E:=zj.toN S E p h
end
variable{P:Addr->Prop}
theorem zj.length:∀{S:List D}{E:List V},zj K H P S E->E.length=S.length
 |[],_,h=>by cases h;rfl
 |d::S,E,h=>by
  obtain⟨v,r,e,_,t⟩:=h;subst e;simp[zj.length t]
theorem zj.get:∀{S:List D}{E:List V}{i:Nat}{d:D},zj K H P S E->S[i]?=some d->∃v,E[i]?=some v/\RepN K H P d v
 |[],_,_,_,_,e=>by simp at e
 |d::S,E,0,d',h,e=>by
  obtain⟨v,r,rfl,q,_⟩:=h;simp at e;subst e;exact⟨v,rfl,q⟩
 |d::S,E,i+1,d',h,e=>by
  obtain⟨v,r,rfl,_,t⟩:=h;obtain⟨a,j,g⟩:=zj.get (i:=i) t (by simpa using e)
  exact⟨a,by simpa using j,g⟩
theorem zj.append:∀{S J:List D}{E ys:List V},zj K H P S E->zj K H P J ys->zj K H P (S++J) (E++ys)
 |[],J,E,ys,h,h'=>by cases h;exact h'
 |d::S,J,E,ys,h,h'=>by
  obtain⟨v,r,rfl,q,t⟩:=h;exact⟨v,r++ys,rfl,q,zj.append t h'⟩
def zj.one{d:D}{v:V}(h:RepN K H P d v):zj K H P [d] [v]:=⟨v,[],rfl,h,rfl⟩
theorem zj.take:∀{S:List D}{E:List V}(n:Nat),zj K H P S E->zj K H P (S.take n) (E.take n)
 |_,_,0,_=>rfl
 |[],_,n+1,h=>by cases h;rfl
 |d::S,E,n+1,h=>by
  obtain⟨v,r,rfl,q,t⟩:=h;exact⟨v,r.take n,rfl,q,zj.take n t⟩
theorem zj.drop:∀{S:List D}{E:List V}(n:Nat),zj K H P S E->zj K H P (S.drop n) (E.drop n)
 |_,_,0,h=>h
 |[],_,n+1,h=>by cases h;rfl
 |d::S,E,n+1,h=>by
  obtain⟨v,r,rfl,q,t⟩:=h;exact zj.drop n t
theorem zj.set:∀{S:List D}{E:List V}(n:Nat){d:D}{v:V},RepN K H P d v->zj K H P S E->zj K H P (S.set n d) (E.set n v)
 |[],_,_,_,_,_,h=>by cases h;rfl
 |d::S,E,0,d',v',q',h=>by
  obtain⟨v,r,rfl,q,t⟩:=h;exact⟨v',r,rfl,q',t⟩
 |d::S,E,n+1,d',v',q',h=>by
  obtain⟨v,r,rfl,q,t⟩:=h;exact⟨v,r.set n v',rfl,q,zj.set n q' t⟩
theorem zj.ints:∀(ns:List Int),zj K H P (ns.map D.int) (ns.map V.int)
 |[]=>rfl
 |n::ns=>⟨_,_,rfl,rfl,zj.ints ns⟩
theorem zj.dropLast{S:List D}{E:List V}(h:zj K H P S E):zj K H P S.dropLast E.dropLast:=by
 rw[List.dropLast_eq_take,List.dropLast_eq_take,h.length];exact h.take _
theorem zj.rep{S:List D}{E:List V}(h:zj K H P S E):∀k:Nat,zj K H P (List.replicate k S).flatten (List.replicate k E).flatten
 |0=>rfl
 |k+1=>by
  rw[zbV,zbV,zdQ,zdQ];exact h.append (zj.rep h k)
def View(K:W.Frag)(H:Hp)(O:List Addr)(d:D)(v:V):Prop:=match d with
 |.lst S=>∃a E,v=.ref a/\H a=some (.lst E)/\Reps K H O S E
 |.dk ks S=>∃a E,v=.ref a/\H a=some (.dK (ks.zip E))/\ks.length=S.length/\ks.Nodup/\Reps K H O S E
 |d=>Rep K H O d v
def Con1(K:W.Frag)(H:Hp)(O:List Addr)(d:D)(a:Addr):Prop:=match d with
 |.lst S=>∃E,H a=some (.lst E)/\Reps K H O S E
 |.dk ks S=>∃E,H a=some (.dK (ks.zip E))/\ks.length=S.length/\ks.Nodup/\Reps K H O S E
 |_=>False
def RepN.view{K:W.Frag}{H:Hp}{O:List Addr}{d:D}{v:V}(h:Rep K H O d v):View K H O d v:=by
 cases d with
 |lst S=>obtain⟨a,E,e,q,_,r⟩:=h;exact⟨a,E,e,q,r⟩
 |dk ks S=>obtain⟨a,E,e,q,_,r⟩:=h;exact⟨a,E,e,q,r⟩
 |_=>exact h
def Con1.view{K:W.Frag}{H:Hp}{O:List Addr}{d:D}{a:Addr}(h:Con1 K H O d a):View K H O d (.ref a):=by
 cases d with
 |lst S=>obtain⟨E,q,r⟩:=h;exact⟨a,E,rfl,q,r⟩
 |dk ks S=>obtain⟨E,q,r⟩:=h;exact⟨a,E,rfl,q,r⟩
 |_=>exact h.elim
def Con1.rep{K:W.Frag}{H:Hp}{O:List Addr}{d:D}{a:Addr}(h:Con1 K H O d a)(n:a∉O):Rep K H O d (.ref a):=by
 cases d with
 |lst S=>obtain⟨E,q,r⟩:=h;exact⟨a,E,rfl,q,n,r⟩
 |dk ks S=>obtain⟨E,q,r⟩:=h;exact⟨a,E,rfl,q,n,r⟩
 |_=>exact h.elim
def Con1.same{K:W.Frag}{H H':Hp}{O:List Addr}{d:D}{a:Addr}(h:Con1 K H O d a)(s:Same H H'):Con1 K H' O d a:=by
 cases d with
 |lst S=>obtain⟨E,q,r⟩:=h;exact⟨E,s _ _ q,zj.grow (Grow.same s) _ _ r⟩
 |dk ks S=>obtain⟨E,q,l,n,r⟩:=h;exact⟨E,s _ _ q,l,n,zj.grow (Grow.same s) _ _ r⟩
 |_=>exact h.elim
def Con1.sub{K:W.Frag}{H:Hp}{O O':List Addr}{d:D}{a:Addr}(h:Con1 K H O d a)(g:∀ a∈O',a∈O):Con1 K H O' d a:=by
 cases d with
 |lst S=>obtain⟨E,q,r⟩:=h;exact⟨E,q,zj.sub g _ _ r⟩
 |dk ks S=>obtain⟨E,q,l,n,r⟩:=h;exact⟨E,q,l,n,zj.sub g _ _ r⟩
 |_=>exact h.elim
theorem View.sub{K:W.Frag}{H:Hp}{O O':List Addr}{d:D}{v:V}(h:View K H O d v)(g:∀ a∈O',a∈O):View K H O' d v:=by
 cases d with
 |lst S=>obtain⟨a,E,e,q,r⟩:=h;exact⟨a,E,e,q,zj.sub g _ _ r⟩
 |dk ks S=>obtain⟨a,E,e,q,l,n,r⟩:=h;exact⟨a,E,e,q,l,n,zj.sub g _ _ r⟩
 |_=>exact RepN.sub g _ _ h
def View.rep0{K:W.Frag}{H:Hp}{O:List Addr}{d:D}{v:V}(h:View K H O d v):Rep K H [] d v:=by
 have h:=h.sub (O':=[]) (λ_ z=>nomatch z);cases d with
 |lst S=>obtain⟨a,E,e,q,r⟩:=h;exact⟨a,E,e,q,by simp,r⟩
 |dk ks S=>obtain⟨a,E,e,q,l,n,r⟩:=h;exact⟨a,E,e,q,by simp,l,n,r⟩
 |_=>exact h
inductive Kd where|val|own|fre|new
 deriving DecidableEq
structure EV where
 k:Kd
 d:D
abbrev DE:=List (Option EV)
noncomputable abbrev dv(d:D):EV:=⟨.val,d⟩
noncomputable abbrev df(d:D):EV:=⟨.fre,d⟩
noncomputable abbrev dO(d:D):EV:=⟨.own,d⟩
noncomputable abbrev q_(d:D):Option EV:=some (dv d)
noncomputable abbrev Q_(d:D):Option EV:=some (dO d)
def RV(K:W.Frag)(H0 H:Hp)(O:List Addr)(r:EV)(v:V):Prop:=match r.k with
 |.val=>Rep K H O r.d v
 |.own=>∃a,v=.ref a/\a∈O/\Con1 K H O r.d a
 |.fre=>∃a,v=.ref a/\H0 a=none/\a∉O/\Con1 K H (a::O) r.d a
 |.new=>RepN K H (λa=>a∉O/\H0 a=none) r.d v
variable{H0 H1:Hp}{O:List Addr}{r:EV}
def RV.val(h:Rep K H O d v):RV K H0 H O (dv d) v:=h
theorem RV.same(h:RV K H0 H O r v)(s:Same H H'):RV K H0 H' O r v:=by
 obtain⟨k,d⟩:=r;cases k with
 |val=>exact RepN.grow (Grow.same s) _ _ h
 |own=>obtain⟨a,e,m,c⟩:=h;exact⟨a,e,m,c.same s⟩
 |fre=>obtain⟨a,e,m,n,c⟩:=h;exact⟨a,e,m,n,c.same s⟩
 |new=>exact RepN.to s aA _ _ h
def RV.start(h:RV K H0 H O r v)(s:Same H1 H0):RV K H1 H O r v:=by
 obtain⟨k,d⟩:=r;cases k with
 |val=>exact h
 |own=>exact h
 |fre=>obtain⟨a,e,m,n,c⟩:=h;exact⟨a,e,s.free m,n,c⟩
 |new=>exact RepN.to (Same.refl H) (λa z=>⟨z.1,s.free z.2⟩) _ _ h
theorem RV.view(h:RV K H0 H O r v):View K H O r.d v:=by
 obtain⟨k,d⟩:=r;cases k with
 |val=>exact RepN.view h
 |own=>obtain⟨a,e,m,c⟩:=h;subst e;exact c.view
 |fre=>obtain⟨a,e,m,n,c⟩:=h;subst e;exact(c.sub λb g=>zal _ g).view
 |new=>exact(RepN.rep (λa z=>z.1) _ _ h).view
def RV.solid(h:RV K H0 H O r v)(g:r.k≠.own):Rep K H O r.d v:=by
 obtain⟨k,d⟩:=r;cases k with
 |val=>exact h
 |own=>exact absurd rfl g
 |fre=>obtain⟨a,e,m,n,c⟩:=h;subst e;exact(c.sub λb j=>zal _ j).rep n
 |new=>exact RepN.rep (λa z=>z.1) _ _ h
structure REnv(K:W.Frag)(H_ H:Hp)(Y:St)(U:DE)(o:List (Nat×Addr)):Prop where
 same:Same H_ H
 fresh:∀p∈o,H_ p.2=none
 trk:∀p∈o,∃u,H p.2=some u
 mtb:∀p∈o,(∀E,H p.2≠some (.tup E))/\∀ob u,H p.2≠some (.frz ob u)
 nda:(o.map Prod.snd).Nodup
 slots:∀i r,U[i]?=some (some r)->∃v,Y[i]?=some (some v)/\((r.k=.val/\Rep K H (o.map Prod.snd) r.d v)\/(r.k=.own/\∃a,v=.ref a/\(i,a)∈o/\Con1 K H (o.map Prod.snd) r.d a))
 len:Y.length=U.length
variable{H_:Hp}{U:DE}{o:List (Nat×Addr)}
def REnv.to(R:REnv K H_ H Y U o)(s:Same H H'):REnv K H_ H' Y U o where
 same:=R.same.trans s
 fresh:=R.fresh
 trk:=λp d=>let ⟨u,e⟩:=R.trk p d;⟨u,s _ _ e⟩
 mtb:=λp d=>by
  obtain⟨u,e⟩:=R.trk p d;obtain⟨l,j⟩:=R.mtb p d;refine⟨λE z=>?_,λg w z=>?_⟩
  ·rw[s _ _ e]at z;rw[<- e]at z;exact l E z
  rw[s _ _ e]at z;rw[<- e]at z;exact j g w z
 nda:=R.nda
 slots:=λi r e=>by
  obtain⟨v,q,h⟩:=R.slots i r e;refine⟨v,q,?_⟩;rcases h with⟨k,h⟩|⟨k,a,e1,m,c⟩
  ·exact .inl ⟨k,RepN.grow (Grow.same s) _ _ h⟩
  exact .inr ⟨k,a,e1,m,c.same s⟩
 len:=R.len
def REnv.ofree(R:REnv K H_ H Y U o)(h:H a=none):a∉o.map Prod.snd:=λz=>by
 obtain⟨p,d,e⟩:=zah.mp z;obtain⟨u,q⟩:=R.trk p d;rw[e,h]at q;cases q
abbrev TD:=DE->(EV->Prop)->Prop
abbrev TDb:=DE->(Bool->Prop)->Prop
abbrev TDs:=DE->(List EV->Prop)->Prop
structure DZ where
 nx:DE->Prop
 rt:EV->Prop
 bk:DE->Prop:=λ_=>False
 ct:DE->Prop:=λ_=>False
abbrev TDS:=DE->DZ->Prop
def RVs(K:W.Frag)(H0 H:Hp)(O:List Addr):List EV->List V->Prop
 |[],vs=>vs=[]
 |r::rs,vs=>∃v ws,vs=v::ws/\RV K H0 H O r v/\RVs K H0 H O rs ws
theorem RVs.start{K:W.Frag}{H0 H1 H:Hp}{O:List Addr}(s:Same H1 H0):∀{rs:List EV}{vs:List V},RVs K H0 H O rs vs->RVs K H1 H O rs vs
 |[],_,h=>h
 |r::rs,vs,h=>by
  obtain⟨v,a,e,q,t⟩:=h;exact⟨v,a,e,q.start s,t.start s⟩
theorem RVs.reps{K:W.Frag}{H0 H:Hp}{O:List Addr}:∀{rs:List EV}{vs:List V},RVs K H0 H O rs vs->(∀r∈rs,r.k≠.own)->Reps K H O (rs.map EV.d) vs
 |[],_,h,_=>h
 |r::rs,vs,h,n=>by
  obtain⟨v,a,e,q,t⟩:=h;exact⟨v,a,e,q.solid (n r (zao ..)),t.reps λg h'=>n g (zal _ h')⟩
theorem RVs.reps0{K:W.Frag}{H0 H:Hp}{O:List Addr}:∀{rs:List EV}{vs:List V},RVs K H0 H O rs vs->Reps K H [] (rs.map EV.d) vs
 |[],_,h=>h
 |r::rs,vs,h=>by
  obtain⟨v,a,e,q,t⟩:=h;exact⟨v,a,e,q.view.rep0,t.reps0⟩
def qh(K:W.Frag)(H_:Hp)(t:TD):TE:=λY H Q=>∃U o,REnv K H_ H Y U o/\∃M,t U M/\∀v r H',Same H H'->RV K H H' (o.map Prod.snd) r v->M r->Q v H'
def b8(K:W.Frag)(H_:Hp)(t:TDb):TT:=λY H Q=>∃U o,REnv K H_ H Y U o/\∃M,t U M/\∀b H',Same H H'->M b->Q b H'
def Fc(K:W.Frag)(H_:Hp)(t:TDs):TA:=λY H Q=>∃U o,REnv K H_ H Y U o/\∃M,t U M/\∀vs rs H',Same H H'->RVs K H H' (o.map Prod.snd) rs vs->M rs->Q vs H'
def Ph(K:W.Frag)(H_:Hp)(t:TDS):TS:=λD Y H=>∃U o,REnv K H_ H Y U o/\∃Z,t U Z /\
 (∀ρ' σ' H' o',Grow (o.map Prod.snd) (o'.map Prod.snd) H H'->REnv K H_ H' σ' ρ' o'->Z.nx ρ'->D.nx σ' H') /\
 (∀ρ' σ' H' o',Grow (o.map Prod.snd) (o'.map Prod.snd) H H'->REnv K H_ H' σ' ρ' o'->Z.bk ρ'->D.bk σ' H') /\
 (∀ρ' σ' H' o',Grow (o.map Prod.snd) (o'.map Prod.snd) H H'->REnv K H_ H' σ' ρ' o'->Z.ct ρ'->D.ct σ' H') /\
 (∀v r H',Same H_ H'->RV K H_ H' [] r v->Z.rt r->D.rt v H')
def ED(G:Hp->Prop)(X:Cx)(e:Expr)(t:TD):Prop:=∀H_:{H:Hp // G H},PE X e (qh X.K H_.1 t)
def ET(G:Hp->Prop)(X:Cx)(e:Expr)(t:TDb):Prop:=∀H_:{H:Hp // G H},PT X e (b8 X.K H_.1 t)
def EW(G:Hp->Prop)(X:Cx)(e:Expr)(t:TDb):Prop:=∀H_:{H:Hp // G H},PW X e (b8 X.K H_.1 t)
def EA(G:Hp->Prop)(X:Cx)(J:List Expr)(t:TDs):Prop:=∀H_:{H:Hp // G H},PA X J (Fc X.K H_.1 t)
def SD(G:Hp->Prop)(X:Cx)(st:Stmt)(t:TDS):Prop:=∀H_:{H:Hp // G H},PS X st (Ph X.K H_.1 t)
def SDs(G:Hp->Prop)(X:Cx)(st:List Stmt)(t:TDS):Prop:=∀H_:{H:Hp // G H},PSs X st (Ph X.K H_.1 t)
def impE(h:PE X e t)(i:∀ Y H Q,t' Y H Q->t Y H Q):PE X e t':=λpn s Y H Q I q=>h pn s Y H Q I (i Y H Q q)
def impT(h:PT X e t)(i:∀ Y H Q,t' Y H Q->t Y H Q):PT X e t':=λpn s Y H Q I q=>h pn s Y H Q I (i Y H Q q)
def impW(h:PW X e t)(i:∀ Y H Q,t' Y H Q->t Y H Q):PW X e t':=λa pn s Y H Q I q=>h a pn s Y H Q I (i Y H Q q)
def impA(h:PA X J t)(i:∀ Y H Q,t' Y H Q->t Y H Q):PA X J t':=λpos pn s Y H Q I q=>h pos pn s Y H Q I (i Y H Q q)
def impS{X:Cx}{st:Stmt}{t t':TS}(h:PS X st t)(i:∀ D Y H,t' D Y H->t D Y H):PS X st t':=λpn s Y H D I q=>h pn s Y H D I (i D Y H q)
def Vi{X:Cx}{st:List Stmt}{t t':TS}(h:PSs X st t)(i:∀ D Y H,t' D Y H->t D Y H):PSs X st t':=λpn s Y H D I q=>h pn s Y H D I (i D Y H q)
variable{L:Hp->Prop}
noncomputable def slot:DE->Nat->Option EV
 |[],_=>none
 |x::_,0=>x
 |_::r,i+1=>slot r i
theorem wu:∀{U:DE}{i:Nat}{r:EV},slot U i=some r->U[i]?=some (some r)
 |[],_,_,h=>by cases h
 |x::_,0,_,h=>by cases h;rfl
 |_::l,i+1,r,h=>by rw[zeS];exact wu (U:=l) h
def u4(i:Nat):TD:=λU M=>match slot U i with
 |some r=>M r
 |none=>False
def dC(d:D):TD:=λ_ M=>M (dv d)
section
variable{a b c e:Expr}{ta tb:TD}{pos:Pos}
def z9(i:Nat){x:Str}(u:autoParam (X.N[i]?=some x) zSr)(l:Vis X.env.scope x:=by walk_at "o")(q:autoParam (D_ x) zSd)(j:autoParam ((x==("__classdict__" : Str))=false) zSd):ED L X (.Name x pos) (u4 i):=λH_=>impE (uv u l q j) λY H Q h=>by
 obtain⟨U,o,R,M,g,k⟩:=h;cases e:slot U i with
 |none =>
  simp only[u4,e]at g
 |some r =>
  simp only[u4,e]at g;obtain⟨v,y,h⟩:=R.slots i r (wu e);refine⟨v,y,k v r H (Same.refl H) ?_ g⟩;obtain⟨kd,d⟩:=r;rcases h with⟨rfl,h⟩|⟨rfl,a,e1,m,c⟩
  ·exact h
  exact⟨a,e1,zah.mpr ⟨_,m,rfl⟩,c⟩
def ed_c{x:Expr}(h:PE X x (tC v))(hr:∀ H O,Rep X.K H O d v):ED L X x (dC d):=λH_=>impE h λY H Q h=>by
 obtain⟨U,o,R,M,a,k⟩:=h;exact k v (dv d) H (Same.refl H) (hr H _) a
def zc {j pos}:ED L X (.Constant (.int i) j pos) (dC (.int i)):=ed_c uw λ_ _=>rfl
def wy{b:Bool} {j pos}:ED L X (.Constant (.bool b) j pos) (dC (.bl b)):=ed_c z1c λ_ _=>rfl
def uk {j pos}:ED L X (.Constant .none j pos) (dC .non):=ed_c Ce λ_ _=>rfl
def zg{x:Str} {j pos}:ED L X (.Constant (.str x) j pos) (dC (.str x)):=ed_c Cb λ_ _=>rfl
structure GC(K:W.Frag)(mg:Str->Option Value)(x:Str)(d:D):Prop where
 ex:∃u v,mg x=some u/\RelV v u/\∀H O,Rep K H O d v
def Oj{x:Str}(G:GC X.K X.mg x d)(e:autoParam (Gl X x) zSr)(g:autoParam (D_ x) zSd):ED L X (.Name x pos) (dC d):=by
 obtain⟨u,v,a,r,h⟩:=G.ex;exact ed_c (Gq e a r g) h
def t6{x:Str}(e:X.mg x=none)(a:bootBuiltins x=some (.type n))(g:autoParam (Gl X x) zSr)(d:autoParam (x≠"__name__") zSd)(j:autoParam (D_ x) zSd):ED L X (.Name x pos) (dC (.ty n)) :=
 ed_c (Gu g e a (v:=.ty n) rfl d j) λ_ _=>rfl
def ga(K:W.Frag)(d:R2)(s:D->D->(EV->Prop)->Prop):Prop :=
 ∀(H:Hp)(O:List Addr)(x y:D)(vx vy:V)(M:EV->Prop)(Q:VK),(∀a,H a=none->a∉O)->View K H O x vx->View K H O y vy->s x y M ->
  (∀v r H',Same H H'->RV K H H' O r v->M r->Q v H')->d vx vy H Q
def d2(s:D->D->(EV->Prop)->Prop)(ta tb:TD):TD:=λU M=>ta U λx=>tb U λy=>s x.d y.d M
def Mz{s:D->D->(EV->Prop)->Prop}(hl:ga X.K rr s):∀Y H Q,qh X.K H_ (d2 s ta tb) Y H Q->tOp rr (qh X.K H_ ta) (qh X.K H_ tb) Y H Q:=λY H Q h=>by
 obtain⟨U,o,R,M,l,k⟩:=h;refine⟨U,o,R,_,l,λu B H1 s1 j h1=>⟨U,o,R.to s1,_,h1,λq z H2 s2 g h2=>?_⟩⟩;exact hl H2 _ B.d z.d u q M Q (λa e=>R.ofree ((s1.trans s2).free e)) (j.same s2).view g.view h2 λv r H' x y h=>k v r H' (s1.trans (s2.trans x)) (y.start (s1.trans s2)) h
def Zi{s:D->D->(EV->Prop)->Prop}(ho:OpR X (binaryOp op) rr)(hl:ga X.K rr s)(e:ED L X a ta)(d:ED L X b tb):ED L X (.BinOp a op b pos) (d2 s ta tb):=λH_ =>
 impE (S7 ho (e H_) (d H_)) (Mz hl)
def W9{s:D->D->(EV->Prop)->Prop}(ho:OpR X (compareOp op) rr)(hl:ga X.K rr s)(g:ED L X a ta)(e:ED L X b tb)(d:behindInMarks op b=false):ED L X (.Compare a [op] [b] pos) (d2 s ta tb):=λH_ =>
 impE (Gs ho (g H_) (e H_) d) (Mz hl)
def Gx:OpR X (binaryOp .Mult) (rI IntMulOk λi j=>.int (i*j)):=opI λ_ _ _ _ _ _ _ a q=>PyProof.Rows.mul_int q a
def FdOk(i j:Int):Prop:=j≠0/\j.natAbs.log2<9000
def Mi:OpR X (binaryOp .FloorDiv) (rI FdOk λi j=>.int (i.fdiv j)):=opI λ_ _ _ _ _ _ _ a q=>floordiv_int a.1 q (.inl (PyProof.noPylong_of_log2 a.2))
def sI(C:Int->Int->Prop)(g:Int->Int->D):D->D->(EV->Prop)->Prop:=λx y M=>match x,y with
 |.int i,.int j=>C i j/\M (dv (g i j))
 |_,_=>False
def Pe{K:W.Frag}{C:Int->Int->Prop}{g:Int->Int->D}{gv:Int->Int->V}(e:∀ i j H O,Rep K H O (g i j) (gv i j)):ga K (rI C gv) (sI C g):=by
 intro H O x y q l M Q ho d a h k;unfold sI at h;split at h
 ·exact⟨_,_,d,a,h.1,k _ _ H (Same.refl H) (by exact e _ _ H O) h.2⟩
 exact h.elim
def sI0(g:Int->Int->D):D->D->(EV->Prop)->Prop:=λx y M=>match x,y with
 |.int i,.int j=>M (dv (g i j))
 |_,_=>False
def qv{K:W.Frag}{g:Int->Int->D}{gv:Int->Int->V}(e:∀ i j H O,Rep K H O (g i j) (gv i j)):ga K (rI0 gv) (sI0 g):=by
 intro H O x y q l M Q ho d a h k;unfold sI0 at h;split at h
 ·exact⟨_,_,d,a,k _ _ H (Same.refl H) (by exact e _ _ H O) h⟩
 exact h.elim
abbrev sSub:=sI0 λi j=>.int (i-j)
abbrev sFd:=sI FdOk λi j=>.int (i.fdiv j)
abbrev sMod:=sI (λ_ j=>j≠0) λi j=>.int (i.fmod j)
abbrev sPow:=sI CPow λi j=>.int (i ^ j.toNat)
abbrev sLt:=sI0 λi j=>.bl (decide (i<j))
abbrev sLe:=sI0 λi j=>.bl (decide (i<=j))
abbrev sGt:=sI0 λi j=>.bl (decide (j<i))
abbrev sGe:=sI0 λi j=>.bl (decide (j<=i))
def Ta(e:ED L X a ta)(d:ED L X b tb):ED L X (.BinOp a .Sub b pos) (d2 sSub ta tb):=Zi Ku (qv λ_ _ _ _=>rfl) e d
def ka(e:ED L X a ta)(d:ED L X b tb):ED L X (.BinOp a .FloorDiv b pos) (d2 sFd ta tb):=Zi Mi (Pe λ_ _ _ _=>rfl) e d
def xb(e:ED L X a ta)(d:ED L X b tb):ED L X (.BinOp a .Mod b pos) (d2 sMod ta tb):=Zi Qz (Pe λ_ _ _ _=>rfl) e d
def jh(e:ED L X a ta)(d:ED L X b tb):ED L X (.BinOp a .Pow b pos) (d2 sPow ta tb):=Zi Kv (Pe λ_ _ _ _=>rfl) e d
def Ah(e:ED L X a ta)(d:ED L X b tb):ED L X (.Compare a [.Lt] [b] pos) (d2 sLt ta tb):=W9 Cj (qv λ_ _ _ _=>rfl) e d (ug _)
def Ai(e:ED L X a ta)(d:ED L X b tb):ED L X (.Compare a [.LtE] [b] pos) (d2 sLe ta tb):=W9 Ck (qv λ_ _ _ _=>rfl) e d (ug _)
def sAdd:D->D->(EV->Prop)->Prop:=λx y M=>match x,y with
 |.int i,.int j=>M (dv (.int (i+j)))
 |.str p,.str q=>p.length+q.length<=sizeLine/\M (dv (.str (p++q)))
 |.lst p,.lst q=>p.length+q.length<=sizeLine/\M (df (.lst (p++q)))
 |.tup p,.tup q=>p≠[]/\q≠[]/\p.length+q.length<=sizeLine/\M (dv (.tup (p++q)))
 |_,_=>False
def y9(h:H p=none)(o:HO):Same H (upd H p o):=λb u q=>by rw[zx (zp q h)];exact q
def M2{K:W.Frag}{H:Hp}{O:List Addr}{p:Addr}{o:HO}{S:List D}{E:List V}(a:H p=none)(r:Reps K H O S E):Reps K (upd H p o) O S E:=zj.grow (Grow.same (y9 a o)) _ _ r
def Yj{o:HO}(a:H p=none):Grow O (p::O) H (upd H p o) :=
 ⟨λb u h n=>⟨y9 a o b u h,λz=>(zam.mp z).elim (λe=>zp h a e) n⟩,λb E h=>y9 a o b _ h,λb d u h=>y9 a o b _ h⟩
def qj{K:W.Frag}{H:Hp}{O:List Addr}{p:Addr}{S:List D}{E:List V}(ho:∀ a,H a=none->a∉O)(d:H p=none)(r:Reps K H O S E):RV K H (upd H p (.lst E)) O (df (.lst S)) (.ref p) :=
 ⟨p,rfl,d,ho p d,E,zk,zj.grow (Yj d) _ _ r⟩
def X8{K:W.Frag}{H:Hp}{O:List Addr}{p:Addr}{S:List D}{E:List V}(a:H p=none)(r:Reps K H O S E):RV K H (upd H p (.tup E)) O (dv (.tup S)) (.ref p) :=
 ⟨p,E,rfl,⟨SqT.of zk,zk⟩,M2 a r⟩
def Mw:ga X.K (λx y H Q=>rI0 (λi j=>.int (i+j)) x y H Q\/(∃i j,x=.str i/\y=.str j/\i.length+j.length<=sizeLine/\Q (.str (i++j)) H)\/rCat x y H Q\/Dq X.K x y H Q) sAdd:=by
 intro H O x y es I M Q ho q l h k;unfold sAdd at h;split at h
 ·exact .inl ⟨_,_,q,l,k _ _ H (Same.refl H) aH h⟩
 ·exact .inr (.inl ⟨_,_,q,l,h.1,k _ _ H (Same.refl H) aH h.2⟩)
 ·obtain⟨a1,E,rfl,v,d⟩:=q;obtain⟨a2,ys,rfl,u,a⟩:=l;refine .inr (.inr (.inl ⟨a1,a2,E,ys,rfl,rfl,v,u,by rw[d.length,a.length];exact h.1,λp r=>?_⟩))
  exact k _ _ _ (y9 r _) (qj ho r (d.append a)) h.2
 ·obtain⟨D,B,G,r⟩:=h;obtain⟨a1,E,rfl,v,d⟩:=q;obtain⟨a2,ys,rfl,u,a⟩:=l;refine .inr (.inr (.inr ⟨a1,a2,E,ys,rfl,rfl,v.1,u.1,?_,by rw[d.length,a.length];exact G,λz=>?_,λ_ p g=>?_⟩))
  ·intro z;have e:=d.length;rw[z]at e;exact D (zcG e.symm)
  ·exfalso;have e:=a.length;rw[z]at e;exact B (zcG e.symm)
  exact k _ _ _ (y9 g _) (X8 g (d.append a)) r
 exact h.elim
def x3(e:ED L X a ta)(d:ED L X b tb):ED L X (.BinOp a .Add b pos) (d2 sAdd ta tb):=Zi (Kz.or (S9.or (Cq.or P3))) Mw e d
def sMul:D->D->(EV->Prop)->Prop:=λx y M=>match x,y with
 |.int i,.int j=>IntMulOk i j/\M (dv (.int (i*j)))
 |.lst p,.int k=>-(2 ^ 63)<=k/\k<2 ^ 63/\p.length*k.toNat<=sizeLine/\M (df (.lst (List.replicate k.toNat p).flatten))
 |_,_=>False
end
mutual
noncomputable def eqD:D->D->Bool
 |.non,.non=>true
 |.bl a,.bl b=>a==b
 |.bl a,.int b=>(if a then 1 else 0)==b
 |.int a,.bl b=>a==(if b then 1 else 0)
 |.int a,.int b=>a==b
 |.str a,.str b=>a==b
 |.tup a,.tup b=>eqDs a b
 |.lst a,.lst b=>eqDs a b
 |_,_=>false
noncomputable def eqDs:List D->List D->Bool
 |[],[]=>true
 |a::as,b::bs=>eqD a b&&eqDs as bs
 |_,_=>false
end
def okD:Nat->D->Prop
 |0,d=>match d with
  |.non=>True
  |.bl _=>True
  |.int _=>True
  |.str _=>True
  |_=>False
 |n+1,d=>match d with
  |.non=>True
  |.bl _=>True
  |.int _=>True
  |.str _=>True
  |.tup S=>∀x∈S,okD n x
  |.lst S=>∀x∈S,okD n x
  |_=>False
theorem cr:∀{S J:List D},eqDs S J=true ↔ S.length=J.length/\∀(j:Nat)(x y:D),S[j]?=some x->J[j]?=some y->eqD x y=true
 |[],[]=>by simp[eqDs]
 |[],y::J=>by simp[eqDs]
 |x::S,[]=>by simp[eqDs]
 |x::S,y::J=>by
  rw[eqDs,zcF,cr];constructor
  ·rintro⟨h,hl,q⟩;refine⟨by simp[hl],λj a b e d=>?_⟩
   cases j with
   |zero=>simp at e d;subst e d;exact h
   |succ j=>exact q j a b (by simpa using e) (by simpa using d)
  rintro⟨hl,q⟩;exact⟨q 0 x y rfl rfl,by simpa using hl,λj a b e d=>q (j+1) a b (by simpa using e) (by simpa using d)⟩
def jz(S J:List D):eqDs S J=((List.range (min S.length J.length)).all (λj=>eqD (S.getD j .non) (J.getD j .non))&&S.length==J.length):=by
 rw[Bool.eq_iff_iff,cr,zcF,List.all_eq_true];constructor
 ·rintro⟨hl,q⟩;refine⟨λj k=>?_,by simp[hl]⟩
  have g:=zcZ.mp k;have h1:j<S.length:=by lia
  have h2:j<J.length:=by lia
  have e1:S[j]?=some S[j]:=by simp[h1]
  have e2:J[j]?=some J[j]:=by simp[h2]
  have:=q j _ _ e1 e2;simpa [List.getD,e1,e2] using this
 rintro⟨q,hl⟩;have a:S.length=J.length:=by simpa using hl
 refine⟨a,λj x y d e=>?_⟩;have h1:=(zag.mp d).1;have:=q j (zcZ.mpr aD)
 simpa [List.getD,d,e] using this
def Xh{n:Nat}{d:D}{S:List D}(e:d=.tup S\/d=.lst S)(h:okD n d):∃m,n=m+1/\∀x∈S,okD m x:=by
 cases n with
 |zero=>rcases e with rfl|rfl <;> exact h.elim
 |succ m=>rcases e with rfl|rfl <;> exact⟨m,rfl,h⟩
noncomputable def svD:D->Option V
 |.non=>some .non
 |.bl b=>some (.bl b)
 |.int i=>some (.int i)
 |.str x=>some (.str x)
 |_=>none
noncomputable def vsD:V->D
 |.bl b=>.bl b
 |.int i=>.int i
 |.str x=>.str x
 |_=>.non
def Rh{d:D}{w:V}(h:svD d=some w):vsD w=d/\(∀a,w≠.ref a)/\eqD d d=true:=by
 cases d <;> first|cases h;exact⟨rfl,nofun,by simp[eqD]⟩|cases h
def Y6{n:Nat}{d:D}(h:okD n d):(∃w,svD d=some w/\∀K H v,Rep K H [] d v->v=w)\/∃S,d=.tup S\/d=.lst S:=by
 cases n <;> cases d <;> first|exact h.elim|exact .inl ⟨_,rfl,λ_ _ _ h=>h⟩|exact .inr ⟨_,.inl rfl⟩|exact .inr ⟨_,.inr rfl⟩
def fg(n:Nat):∀d:D,okD n d->eqD d d=true:=by
 induction n using Nat.strongRecOn with
 |_ n ih =>
  intro d h;rcases Y6 h with⟨w,e,_⟩|⟨S,e⟩
  ·exact(Rh e).2.2
  obtain⟨m,rfl,o⟩:=Xh e h;have q:eqDs S S=true:=cr.mpr ⟨rfl,λj x y g a=>by
   rw[g]at a;cases a;exact ih m (zbY m) x (o x (zan g))⟩
  rcases e with rfl|rfl <;> exact q
def RepN.inj(I:Inv X pn Y H s)(n:Nat):∀(d e:D)(v:V),okD n d->okD n e->Rep X.K H [] d v->Rep X.K H [] e v->d=e:=by
 induction n using Nat.strongRecOn with
 |_ n ih =>
  intro d e v hd he h1 h2;have u:∀(a:Addr)(E ys:List V),SqT X.K H a E->H a=some (.lst ys)->False:=λa E ys l k=>by
   obtain⟨its,_,p1,_⟩:=I.tuple l;obtain⟨Z,_,p2,_⟩:=I.list (SqL.of k);exact SeqAt.ne_of_list_tuple p2.isList (show s.heap.IsTuple a its.toArray from p1) rfl
  have G:∀{d:D}{S:List D},d=.tup S\/d=.lst S->Rep X.K H [] d v->∃a,v=.ref a:=λ{d S} e h=>by
   rcases e with rfl|rfl
   ·exact let ⟨a,_,e,_⟩:=h;⟨a,e⟩
   exact let ⟨a,_,e,_⟩:=h;⟨a,e⟩
  rcases Y6 hd with⟨w,ew,Q⟩|⟨S,O⟩ <;> rcases Y6 he with⟨w',es,B⟩|⟨J,N⟩
  ·rw[<- (Rh ew).1,<- (Rh es).1,<- Q _ _ _ h1,<- B _ _ _ h2]
  ·exact let ⟨a,z⟩:=G N h2;absurd ((Q _ _ _ h1).symm.trans z) ((Rh ew).2.1 a)
  ·exact let ⟨a,z⟩:=G O h1;absurd ((B _ _ _ h2).symm.trans z) ((Rh es).2.1 a)
  obtain⟨m,rfl,W⟩:=Xh O hd;obtain⟨_,em,R⟩:=Xh N he;cases em;have g:∀(S J:List D)(E:List V),(∀x∈S,okD m x)->(∀x∈J,okD m x)->Reps X.K H [] S E->Reps X.K H [] J E->S=J:=by
   intro S
   induction S with
   |nil =>
    intro J E _ _ y j;have:=y.length;rw[j.length]at this;exact(zcG this).symm
   |cons d S ih2 =>
    intro J E h1 h2 ⟨v,r,e0,q,t⟩ j;subst e0;cases J with
    |nil=>cases j
    |cons e J =>
     obtain⟨v',r',e1,q',t'⟩:=j;cases e1;rw[ih m (zbY m) d e v (h1 d (zao ..)) (h2 e (zao ..)) q q',ih2 J r (λx L=>h1 x (zal _ L)) (λx L=>h2 x (zal _ L)) t t']
  rcases O with rfl|rfl <;> rcases N with rfl|rfl
  ·obtain⟨a,E,rfl,l,y⟩:=h1;obtain⟨a',ys,e1,k,j⟩:=h2;cases e1;cases I.tuple_inj l.1 k.1;rw[g S J E W R y j]
  ·obtain⟨a,E,rfl,l,y⟩:=h1;obtain⟨a',ys,e1,k,_,j⟩:=h2;cases e1;exact(u _ _ _ l.1 k).elim
  ·obtain⟨a,E,rfl,l,_,y⟩:=h1;obtain⟨a',ys,e1,k,j⟩:=h2;cases e1;exact(u _ _ _ k.1 l).elim
  obtain⟨a,E,rfl,l,_,y⟩:=h1;obtain⟨a',ys,e1,k,_,j⟩:=h2;cases e1;cases I.list_inj (SqL.of l) (SqL.of k);rw[g S J E W R y j]
inductive Sh(K:W.Frag)(H:Hp)(s:Shared):D->Value->Prop where
 |non:Sh K H s .non .none
 |bl (b:Bool):Sh K H s (.bl b) (.bool b)
 |int (i:Int) (t:Tok):Sh K H s (.int i) (.int i t)
 |str (x:Str) (t:Tok):Sh K H s (.str x) (.str x t)
 |tup {a:Addr} {S:List D} {E:List V} {its:List Value} (p:s.heap.IsTuple a its.toArray) (r:Vals E its) (q:Reps K H [] S E):Sh K H s (.tup S) (.ref a)
 |lst {a:Addr} {S:List D} {E:List V} {its:List Value} (p:s.heap.IsList a its.toArray) (r:Vals E its) (q:Reps K H [] S E):Sh K H s (.lst S) (.ref a)
def Ws(I:Inv X pn Y H s){x:V}(g:okD n d)(h:Rep X.K H [] d x)(r:RelV x u):Sh X.K H s d u:=by
 cases d with
 |non=>cases (show x=_ from h);cases r;exact .non
 |bl b=>cases (show x=_ from h);cases r;exact .bl b
 |int b=>cases (show x=_ from h);obtain⟨t,rfl⟩:=r;exact .int b t
 |str b=>cases (show x=_ from h);obtain⟨t,rfl⟩:=r;exact .str b t
 |tup S =>
  obtain⟨a,E,rfl,q,t⟩:=h;cases r;obtain⟨its,e,p,_⟩:=I.tuple q.1;exact .tup (show s.heap.IsTuple a its.toArray from p) e t
 |lst S =>
  obtain⟨a,E,rfl,q,_,t⟩:=h;cases r;obtain⟨its,e,p,_⟩:=I.list (SqL.of q);exact .lst p.isList e t
 |_=>cases n <;> exact g.elim
section
open SeqAt in
def Yp(I:Inv X pn Y H s):∀(n:Nat)(d e:D)(x y:V)(u v:Value)(A:Around),okD n d->okD n e->Rep X.K H [] d x->Rep X.K H [] e y->RelV x u->RelV y v->A.units+n<cLine ->
  RcAt A s u v (eqD d e)/\RcNeAt A s u v (!eqD d e)/\EqAt A s u v (eqD d e):=by
 intro n
 induction n using Nat.strongRecOn with
 |_ n ih =>
  intro d e x y u v A Z Q h1 h2 W O hu;have g:A.units<cLine:=by lia
  have es:∀{l b:Addr}{k:Bool},u=.ref l->v=.ref b->k=eqD d e->RcAt A s (.ref l) (.ref b) k->EqAt A s (.ref l) (.ref b) k:=λ{l b k} e1 e2 N h=>by
   by_cases hlb:l=b
   ·subst hlb;have hv:x=y:=by
     have z1:x=.ref l:=by
      cases x <;> subst e1 <;> first|(have:=(show Value.ref l=Value.ref _ from W);cases this;rfl)|(obtain⟨t,z⟩:=W;cases z)|cases W
     have z2:y=.ref l:=by
      cases y <;> subst e2 <;> first|(have:=(show Value.ref l=Value.ref _ from O);cases this;rfl)|(obtain⟨t,z⟩:=O;cases z)|cases O
     rw[z1,z2]
    subst hv;have a4:=RepN.inj I n d e x Z Q h1 h2;subst a4;rw[N,fg n d Z];exact EqAt.same _
   exact EqAt.of_refs hlb h
  have items:∀{S J:List D}{E ys:List V}{its B:List Value},(d=.tup S\/d=.lst S)->(e=.tup J\/e=.lst J)->Reps X.K H [] S E->Reps X.K H [] J ys->Vals E its->Vals ys B ->
    ∀j (h1:j<its.toArray.size) (h2:j<B.toArray.size),EqAt A.in1 s its.toArray[j] B.toArray[j] (eqD (S.getD j .non) (J.getD j .non)):=λ{S J E ys its B} o1 o2 q1 q2 w1 w2 j h1 h2=>by
   obtain⟨m,rfl,o1⟩:=Xh o1 Z;obtain⟨_,em,o2⟩:=Xh o2 Q;cases em;have a0:A.in1.units+m<cLine:=by
    have:A.in1.units=A.units+1:=rfl;lia
   have l1:=w1.length;have l2:=w2.length;have k1:=q1.length;have k2:=q2.length;have g1:j<S.length:=by simp at h1;lia
   have g2:j<J.length:=by simp at h2;lia
   have e1:S[j]?=some S[j]:=by simp[g1]
   have e2:J[j]?=some J[j]:=by simp[g2]
   obtain⟨x',ex,rx⟩:=q1.get e1;obtain⟨y',ey,ry⟩:=q2.get e2;obtain⟨u',eu,ru⟩:=w1.get ex;obtain⟨v',ev,rv⟩:=w2.get ey;have f1:its.toArray[j]=u':=by
    have:=(zag.mp eu).2;simpa using this
   have f2:B.toArray[j]=v':=by
    have:=(zag.mp ev).2;simpa using this
   rw[f1,f2,show S.getD j .non=S[j] by simp[List.getD,e1],show J.getD j .non=J[j] by simp[List.getD,e2]]
   exact(ih m (zbY m) S[j] J[j] x' y' u' v' A.in1 (o1 _ (zeH g1)) (o2 _ (zeH g2)) rx ry ru rv a0).2.2
  cases Ws I Z h1 W with
  |non =>
   cases Ws I Q h2 O with
   |non=>exact⟨RcAt.none_none,RcNeAt.none_none,EqAt.same _⟩
   |bl b=>exact⟨RcAt.none_bool b,RcNeAt.none_bool b,EqAt.none_bool b⟩
   |int i t=>exact⟨RcAt.none_int i t,RcNeAt.none_int i t,EqAt.none_int i t⟩
   |str i t=>exact⟨RcAt.none_str i t,RcNeAt.none_str i t,EqAt.none_str i t⟩
   |tup p _ _=>exact⟨RcAt.none_tuple p g,RcNeAt.none_tuple p g,EqAt.none_tuple p g⟩
   |lst p _ _=>exact⟨RcAt.none_list p g,RcNeAt.none_list p g,EqAt.none_list p g⟩
  |bl a =>
   cases Ws I Q h2 O with
   |non=>exact⟨RcAt.bool_none a,RcNeAt.bool_none a,EqAt.bool_none a⟩
   |bl b=>exact⟨RcAt.bool_bool a b,RcNeAt.bool_bool a b,EqAt.bool_bool a b⟩
   |int i t=>exact⟨RcAt.bool_int a i t,RcNeAt.bool_int a i t,EqAt.bool_int a i t⟩
   |str i t=>exact⟨RcAt.bool_str a i t,RcNeAt.bool_str a i t,EqAt.bool_str a i t⟩
   |tup p _ _=>exact⟨RcAt.bool_tuple a p g,RcNeAt.bool_tuple a p g,EqAt.bool_tuple a p g⟩
   |lst p _ _=>exact⟨RcAt.bool_list a p g,RcNeAt.bool_list a p g,EqAt.bool_list a p g⟩
  |int a t =>
   cases Ws I Q h2 O with
   |non=>exact⟨RcAt.int_none a t,RcNeAt.int_none a t,EqAt.int_none a t⟩
   |bl b=>exact⟨RcAt.int_bool a t b,RcNeAt.int_bool a t b,EqAt.int_bool a t b⟩
   |int i t'=>exact⟨RcAt.int_int a t i t',RcNeAt.int_int a t i t',EqAt.int_int a t i t'⟩
   |str i t'=>exact⟨RcAt.int_str a t i t',RcNeAt.int_str a t i t',EqAt.int_str a t i t'⟩
   |tup p _ _=>exact⟨RcAt.int_tuple a t p g,RcNeAt.int_tuple a t p g,EqAt.int_tuple a t p g⟩
   |lst p _ _=>exact⟨RcAt.int_list a t p g,RcNeAt.int_list a t p g,EqAt.int_list a t p g⟩
  |str a t =>
   cases Ws I Q h2 O with
   |non=>exact⟨RcAt.str_none a t,RcNeAt.str_none a t,EqAt.str_none a t⟩
   |bl b=>exact⟨RcAt.str_bool a t b,RcNeAt.str_bool a t b,EqAt.str_bool a t b⟩
   |int i t'=>exact⟨RcAt.str_int a t i t',RcNeAt.str_int a t i t',EqAt.str_int a t i t'⟩
   |str i t'=>exact⟨RcAt.str_str a t i t',RcNeAt.str_str a t i t',EqAt.str_str a t i t'⟩
   |tup p _ _=>exact⟨RcAt.str_tuple a t p g,RcNeAt.str_tuple a t p g,EqAt.str_tuple a t p g⟩
   |lst p _ _=>exact⟨RcAt.str_list a t p g,RcNeAt.str_list a t p g,EqAt.str_list a t p g⟩
  |@tup l S E its p r q =>
   cases Ws I Q h2 O with
   |non=>exact⟨RcAt.tuple_none p g,RcNeAt.tuple_none p g,EqAt.tuple_none p g⟩
   |bl b=>exact⟨RcAt.tuple_bool b p g,RcNeAt.tuple_bool b p g,EqAt.tuple_bool b p g⟩
   |int i t=>exact⟨RcAt.tuple_int i t p g,RcNeAt.tuple_int i t p g,EqAt.tuple_int i t p g⟩
   |str i t=>exact⟨RcAt.tuple_str i t p g,RcNeAt.tuple_str i t p g,EqAt.tuple_str i t p g⟩
   |lst p2 _ _=>exact⟨RcAt.tuple_list p p2 g,RcNeAt.tuple_list p p2 g,EqAt.tuple_list p p2 g⟩
   |@tup b J ys B p2 r' q' =>
    have e1:its.toArray.size=S.length:=by rw[zap,<- r.length,q.length]
    have e2:B.toArray.size=J.length:=by rw[zap,<- r'.length,q'.length]
    have N:eqD (.tup S) (.tup J)=((List.range (min its.toArray.size B.toArray.size)).all (λj=>eqD (S.getD j .non) (J.getD j .non))&&its.toArray.size==B.toArray.size):=by
     rw[e1,e2];exact jz S J
    rw[N];have L:=items (.inl rfl) (.inl rfl) q q' r r';have G:=RcAt.tuples p p2 g L;exact⟨G,RcNeAt.tuples p p2 g L,es rfl rfl N.symm G⟩
  |@lst l S E its p r q =>
   cases Ws I Q h2 O with
   |non=>exact⟨RcAt.list_none p g,RcNeAt.list_none p g,EqAt.list_none p g⟩
   |bl b=>exact⟨RcAt.list_bool b p g,RcNeAt.list_bool b p g,EqAt.list_bool b p g⟩
   |int i t=>exact⟨RcAt.list_int i t p g,RcNeAt.list_int i t p g,EqAt.list_int i t p g⟩
   |str i t=>exact⟨RcAt.list_str i t p g,RcNeAt.list_str i t p g,EqAt.list_str i t p g⟩
   |tup p2 _ _=>exact⟨RcAt.list_tuple p p2 g,RcNeAt.list_tuple p p2 g,EqAt.list_tuple p p2 g⟩
   |@lst b J ys B p2 r' q' =>
    have e1:its.toArray.size=S.length:=by rw[zap,<- r.length,q.length]
    have e2:B.toArray.size=J.length:=by rw[zap,<- r'.length,q'.length]
    by_cases hsz:its.toArray.size=B.toArray.size
    ·have N:eqD (.lst S) (.lst J)=(List.range its.toArray.size).all (λj=>eqD (S.getD j .non) (J.getD j .non)):=by
      show eqDs S J=_;rw[jz,<- e1,<- e2,<- hsz];simp
     rw[N];have L:=items (.inr rfl) (.inr rfl) q q' r r';have G:=RcAt.lists p p2 hsz g L;exact⟨G,RcNeAt.lists p p2 hsz g L,es rfl rfl N.symm G⟩
    have N:eqD (.lst S) (.lst J)=false:=by
     show eqDs S J=_;have hb:(its.toArray.size==B.toArray.size)=false:=zbA.mpr hsz;rw[jz,<- e1,<- e2,hb,Bool.and_false]
    rw[N];have R:(its.toArray.size != B.toArray.size)=true:=by simpa using hsz
    have G:=RcAt.lists_lengths p p2 R g;exact⟨G,RcNeAt.lists_lengths p p2 R g,es rfl rfl N.symm G⟩
end
section
variable{a b:Expr}{ta tb:TD}{pos:Pos}
def rEqD(K:W.Frag)(a:Bool):R2:=λx y H Q=>∃d e,Rep K H [] d x/\Rep K H [] e y/\okD 40 d/\okD 40 e/\Q (.bl (if a then !eqD d e else eqD d e)) H
def Ky(hu:X.A.units+64<cLine):OpR X (compareOp .Eq) (rEqD X.K false):=by
 intro pn s Y H x y v u Q I g a h;obtain⟨d,e,h1,h2,k,j,q⟩:=h;exact(Yp I 40 d e x y v u X.A k j h1 h2 g a aD).1 X.prog X.w X.xe _ ⟨.bl _,H,I,rfl,q⟩
def Kw(hu:X.A.units+64<cLine):OpR X (compareOp .NotEq) (rEqD X.K true):=by
 intro pn s Y H x y v u Q I g a h;obtain⟨d,e,h1,h2,k,j,q⟩:=h;exact(Yp I 40 d e x y v u X.A k j h1 h2 g a aD).2.1 X.prog X.w X.xe _ ⟨.bl _,H,I,rfl,q⟩
def sEq:D->D->(EV->Prop)->Prop:=λx y M=>okD 40 x/\okD 40 y/\M (dv (.bl (eqD x y)))
def sNe:D->D->(EV->Prop)->Prop:=λx y M=>okD 40 x/\okD 40 y/\M (dv (.bl (!eqD x y)))
def Ak(hu:X.A.units+64<cLine)(j:ED L X a ta)(g:ED L X b tb):ED L X (.Compare a [.Eq] [b] pos) (d2 sEq ta tb) :=
 W9 (Ky hu) (λH O x y q l M Q ho e d h k=>⟨x,y,e.rep0,d.rep0,h.1,h.2.1,k _ _ H (Same.refl H) aH h.2.2⟩) j g (ug _)
def z1y(hu:X.A.units+64<cLine)(j:ED L X a ta)(g:ED L X b tb):ED L X (.Compare a [.NotEq] [b] pos) (d2 sNe ta tb) :=
 W9 (Kw hu) (λH O x y q l M Q ho e d h k=>⟨x,y,e.rep0,d.rep0,h.1,h.2.1,k _ _ H (Same.refl H) aH h.2.2⟩) j g (ug _)
end
section
variable{a b c e:Expr}{J:List Expr}{ta tb te:TD}{t:TDs}{pos:Pos}
def Mr:ga X.K (λx y H Q=>rI IntMulOk (λi j=>.int (i*j)) x y H Q\/rRep x y H Q) sMul:=by
 intro H O x y v u M Q ho e d h k;unfold sMul at h;split at h
 ·exact .inl ⟨_,_,e,d,h.1,k _ _ H (Same.refl H) aH h.2⟩
 ·obtain⟨h1,h2,r,q⟩:=h;obtain⟨a1,E,rfl,l,a⟩:=e;refine .inr ⟨a1,_,E,rfl,d,l,h1,h2,by rw[a.length];exact r,λp g=>?_⟩
  exact k _ _ _ (y9 g _) (qj ho g (a.rep _)) q
 exact h.elim
def Zh(e:ED L X a ta)(d:ED L X b tb):ED L X (.BinOp a .Mult b pos) (d2 sMul ta tb):=Zi (Gx.or Cg) Mr e d
def sNeg:D->(EV->Prop)->Prop:=λx M=>match x with
 |.int i=>M (dv (.int (-i)))
 |_=>False
def d1(s:D->(EV->Prop)->Prop)(ta:TD):TD:=λU M=>ta U λx=>s x.d M
def ji(q:ED L X a ta):ED L X (.UnaryOp .USub a pos) (d1 sNeg ta):=λH_=>impE (z1b Ej (q H_)) λY H Q h=>by
 obtain⟨U,o,R,M,g,k⟩:=h;refine⟨U,o,R,_,g,λr j H1 s1 e h1=>?_⟩;obtain⟨kd,d⟩:=j;have l:=e.view;cases d with
 |int i=>exact⟨i,l,k _ _ H1 s1 aH h1⟩
 |_=>exact h1.elim
noncomputable def truD:D->Option Bool
 |.non=>some false
 |.bl b=>some b
 |.int i=>some (i != 0)
 |.str x=>if x.length<=sizeLine then some ((x.length:Int) != 0) else none
 |.lst S=>some (!S.isEmpty)
 |.scr ns=>some (!ns.isEmpty)
 |.tup S=>some (!S.isEmpty)
 |.dk _ S=>some (!S.isEmpty)
 |.ty _=>none
 |.fo _=>none
 |.sx _=>none
 |.ob _ _ _=>none
def gi{K:W.Frag}{H:Hp}{O:List Addr}{S:List D}{E:List V}(r:Reps K H O S E):E.isEmpty=S.isEmpty:=by
 have:=r.length;cases E <;> cases S <;> simp_all
def Nh{K:W.Frag}{H:Hp}{O:List Addr}{d:D}{v:V}{b:Bool}(h:View K H O d v)(e:truD d=some b):TruV K v H b:=by
 cases d with
 |non=>cases (show v=_ from h);cases e;rfl
 |bl i=>cases (show v=_ from h);cases e;rfl
 |int i=>cases (show v=_ from h);cases e;rfl
 |str x =>
  cases (show v=_ from h)
  have g:(if x.length<=sizeLine then some ((x.length:Int) != 0) else none)=some b:=e
  split at g
  ·rename_i j;cases g;exact⟨j,rfl⟩
  cases g
 |ty _=>cases e
 |fo _=>cases e
 |sx _=>cases e
 |ob _ _ _=>cases e
 |lst S =>
  obtain⟨a,E,rfl,q,r⟩:=h;cases e;exact .inl ⟨E,SqL.of q,by rw[gi r]⟩
 |scr ns =>
  obtain⟨a,rfl,q⟩:=h;cases e;exact .inl ⟨_,q.seq,by cases ns <;> rfl⟩
 |tup S =>
  obtain⟨a,E,rfl,q,r⟩:=h;cases e;exact .inr (.inl ⟨E,q.1,by rw[gi r]⟩)
 |dk ks S =>
  obtain⟨a,E,rfl,q,l,_,r⟩:=h;cases e;refine .inr (.inr ⟨_,q,?_⟩);have:=r.length;cases ks <;> cases S <;> cases E <;> simp_all
def tTru(t:TD):TDb:=λU M=>t U λr=>match truD r.d with
 |some b=>M b
 |none=>False
def x4(h:ED L X a ta)(r:∀ whole,isTrue a X.env whole=(do let v <- whole;standAt a.pos;holding [v] (truthy v)):=by intro _;rfl):ET L X a (tTru ta):=λH_=>impT (M9 (h H_) r) λY H Q q=>by
 obtain⟨U,o,R,M,j,k⟩:=q;refine⟨U,o,R,_,j,λu l H1 s1 g h1=>?_⟩;cases e:truD l.d with
 |none=>simp only[e]at h1
 |some b =>
  simp only[e]at h1;exact⟨b,Nh g.view e,k b H1 s1 h1⟩
def tBo(t:TD):TDb:=λU M=>t U λr=>match r.d with
 |.bl b=>M b
 |_=>False
def rj{s:D->D->(EV->Prop)->Prop}(ho:OpR X (compareOp op) rr)(hl:ga X.K rr s)(q:ED L X a ta)(l:ED L X b tb)(j:behindInMarks op b=false):ET L X (.Compare a [op] [b] pos) (tBo (d2 s ta tb)):=λH_ =>
 impT (Qk ho (q H_) (l H_) j) λY H Q h=>by
  obtain⟨U,o,R,M,e,k⟩:=h;refine Mz (ta:=ta) (tb:=tb) (H_:=H_.1) hl Y H _ ⟨U,o,R,_,e,λv r H' s1 g h1=>?_⟩;obtain⟨kd,d⟩:=r;cases d with
  |bl b=>exact⟨b,g.view,k b H' s1 h1⟩
  |_=>exact h1.elim
def Sw(e:ED L X a ta)(d:ED L X b tb):ET L X (.Compare a [.Lt] [b] pos) (tBo (d2 sLt ta tb)):=rj Cj (qv λ_ _ _ _=>rfl) e d (ug _)
def z1x(e:ED L X a ta)(d:ED L X b tb):ET L X (.Compare a [.LtE] [b] pos) (tBo (d2 sLe ta tb)):=rj Ck (qv λ_ _ _ _=>rfl) e d (ug _)
def Sy(e:ED L X a ta)(d:ED L X b tb):ET L X (.Compare a [.Gt] [b] pos) (tBo (d2 sGt ta tb)):=rj Cp (qv λ_ _ _ _=>rfl) e d (ug _)
def R5(e:ED L X a ta)(d:ED L X b tb):ET L X (.Compare a [.GtE] [b] pos) (tBo (d2 sGe ta tb)):=rj z1e (qv λ_ _ _ _=>rfl) e d (ug _)
def xy(hu:X.A.units+64<cLine)(j:ED L X a ta)(g:ED L X b tb):ET L X (.Compare a [.Eq] [b] pos) (tBo (d2 sEq ta tb)) :=
 rj (Ky hu) (λH O x y q l M Q ho e d h k=>⟨x,y,e.rep0,d.rep0,h.1,h.2.1,k _ _ H (Same.refl H) aH h.2.2⟩) j g (ug _)
def Yn(hu:X.A.units+64<cLine)(j:ED L X a ta)(g:ED L X b tb):ET L X (.Compare a [.NotEq] [b] pos) (tBo (d2 sNe ta tb)) :=
 rj (Kw hu) (λH O x y q l M Q ho e d h k=>⟨x,y,e.rep0,d.rep0,h.1,h.2.1,k _ _ H (Same.refl H) aH h.2.2⟩) j g (ug _)
noncomputable def L9:D->Bool
 |.non=>true
 |_=>false
def sIs:D->D->(EV->Prop)->Prop:=λx y M=>match y with
 |.non=>M (dv (.bl (L9 x)))
 |_=>False
def U6:D->D->(EV->Prop)->Prop:=λx y M=>match y with
 |.non=>M (dv (.bl (!L9 x)))
 |_=>False
def U0{K:W.Frag}{H:Hp}{O:List Addr}{d:D}{v:V}(h:View K H O d v):decide (v=.non)=L9 d:=by
 cases d with
 |tup S=>obtain⟨a,E,rfl,_⟩:=h;rfl
 |lst S=>obtain⟨a,E,rfl,_⟩:=h;rfl
 |scr ns=>obtain⟨a,rfl,_⟩:=h;rfl
 |fo _=>obtain⟨a,rfl,_⟩:=h;rfl
 |sx _=>obtain⟨a,_,rfl,_⟩:=h;rfl
 |ob _ _ _=>obtain⟨a,dx,E,rfl,_⟩:=h;rfl
 |dk ks S=>obtain⟨a,E,rfl,_⟩:=h;rfl
 |_=>cases (show v=_ from h);rfl
def F9{K:W.Frag}:ga K (λx y H Q=>y=.non/\Q (.bl (decide (x=.non))) H) sIs:=by
 intro H O x y g e M Q ho d a h k;unfold sIs at h;split at h
 ·refine⟨a,?_⟩;rw[U0 d];exact k _ _ H (Same.refl H) aH h
 exact h.elim
def Si{K:W.Frag}:ga K (λx y H Q=>y=.non/\Q (.bl (!decide (x=.non))) H) U6:=by
 intro H O x y g e M Q ho d a h k;unfold U6 at h;split at h
 ·refine⟨a,?_⟩;rw[U0 d];exact k _ _ H (Same.refl H) aH h
 exact h.elim
def A8(e:ED L X a ta)(d:ED L X b tb):ET L X (.Compare a [.Is] [b] pos) (tBo (d2 sIs ta tb)):=rj Cm F9 e d (ug _)
def Yo(e:ED L X a ta)(d:ED L X b tb):ET L X (.Compare a [.IsNot] [b] pos) (tBo (d2 U6 ta tb)):=rj Gw Si e d (ug _)
variable{tA tB':TDb}{rest:List Expr}
def bAnd(t u:TDb):TDb:=λU M=>t U λc=>(c=true->u U M)/\(c=false->M false)
def bOr(t u:TDb):TDb:=λU M=>t U λc=>(c=true->M true)/\(c=false->u U M)
def bNot(t:TDb):TDb:=λU M=>t U λc=>M (!c)
def rh(d:ET L X a tA):EW L X (.BoolOp .And [a] pos) tA:=λH_=>Ga (d H_)
def uj(d:ET L X a tA):EW L X (.BoolOp .Or [a] pos) tA:=λH_=>Dx (d H_)
def jg(g:ET L X a tA)(e:EW L X (.BoolOp .And (b::rest) pos) tB'):EW L X (.BoolOp .And (a::b::rest) pos) (bAnd tA tB'):=λH_=>impW (Dy (g H_) (e H_)) λY H Q h=>by
 obtain⟨U,o,R,M,d,k⟩:=h;refine⟨U,o,R,_,d,λc H1 s1 h1=>?_⟩;cases c with
 |true=>exact iteT ⟨U,o,R.to s1,M,h1.1 rfl,λb H2 s2 q=>k b H2 (s1.trans s2) q⟩
 |false=>exact iteF (k false H1 s1 (h1.2 rfl))
def ua(g:ET L X a tA)(e:EW L X (.BoolOp .Or (b::rest) pos) tB'):EW L X (.BoolOp .Or (a::b::rest) pos) (bOr tA tB'):=λH_=>impW (z0y (g H_) (e H_)) λY H Q h=>by
 obtain⟨U,o,R,M,d,k⟩:=h;refine⟨U,o,R,_,d,λc H1 s1 h1=>?_⟩;cases c with
 |true=>exact iteT (k true H1 s1 (h1.1 rfl))
 |false=>exact iteF ⟨U,o,R.to s1,M,h1.2 rfl,λb H2 s2 q=>k b H2 (s1.trans s2) q⟩
def EW.et(h:EW L X a tA):ET L X a tA:=λH_=>PW.pt (h H_)
def xu(e:ET L X a tA):ET L X (.UnaryOp .Not a pos) (bNot tA):=λH_=>impT (C5 (e H_)) λY H Q h=>by
 obtain⟨U,o,R,M,d,k⟩:=h;exact⟨U,o,R,_,d,λc H1 s1 h1=>k _ H1 s1 h1⟩
def vAnd(ta tb:TD):TD:=λU M=>ta U λx=>match x.d with
 |.bl c=>(c=true->tb U M)/\(c=false->M (dv (.bl false)))
 |_=>False
def vNot(ta:TD):TD:=λU M=>ta U λx=>match x.d with
 |.bl c=>M (dv (.bl (!c)))
 |_=>False
def W8 {op} (h:ED L X a ta):ED L X (.BoolOp op [a] pos) ta:=λH_=>Cc (h H_)
def Wa(y:ED L X a ta)(x:ED L X (.BoolOp .And (b::rest) pos) tb):ED L X (.BoolOp .And (a::b::rest) pos) (vAnd ta tb):=λH_=>impE (Cf (y H_) (x H_)) λY H Q h=>by
 obtain⟨U,o,R,M,g,k⟩:=h;refine⟨U,o,R,_,g,λv r H1 s1 l h1=>?_⟩;obtain⟨kd,d⟩:=r;cases d with
 |bl c =>
  refine⟨c,l.view,?_⟩;cases c with
  |true=>exact iteT ⟨U,o,R.to s1,M,h1.1 rfl,λj u H2 s2 e q=>k j u H2 (s1.trans s2) (e.start s1) q⟩
  |false=>exact iteF (k _ _ H1 s1 aH (h1.2 rfl))
 |_=>exact h1.elim
def Oh(j:ED L X a ta):ED L X (.UnaryOp .Not a pos) (vNot ta):=λH_=>impE (Cd (j H_)) λY H Q h=>by
 obtain⟨U,o,R,M,e,k⟩:=h;refine⟨U,o,R,_,e,λv r H1 s1 g h1=>?_⟩;obtain⟨kd,d⟩:=r;cases d with
 |bl c=>exact⟨c,g.view,k _ _ H1 s1 aH h1⟩
 |_=>exact h1.elim
def vIf(t:TDb)(ta tb:TD):TD:=λU M=>t U λc=>(c=true->ta U M)/\(c=false->tb U M)
def fh(l:ET L X c tA)(u:ED L X a ta)(r:ED L X b tb):ED L X (.IfExp c a b pos) (vIf tA ta tb):=λH_=>impE (Mg (l H_) (u H_) (r H_)) λY H Q h=>by
 obtain⟨U,o,R,M,j,k⟩:=h;refine⟨U,o,R,_,j,λc H1 s1 h1=>?_⟩;cases c with
 |true=>exact iteT ⟨U,o,R.to s1,M,h1.1 rfl,λe g H2 s2 d q=>k e g H2 (s1.trans s2) (d.start s1) q⟩
 |false=>exact iteF ⟨U,o,R.to s1,M,h1.2 rfl,λe g H2 s2 d q=>k e g H2 (s1.trans s2) (d.start s1) q⟩
def aNil:TDs:=λ_ M=>M []
def w6(te:TD)(t:TDs):TDs:=λU M=>te U λr=>t U λrs=>M (r::rs)
def zb:EA L X [] aNil:=λH_=>impA su λY H Q h=>by
 obtain⟨U,o,R,M,a,k⟩:=h;exact k [] [] H (Same.refl H) aH a
def za(l:ED L X e te)(hr:EA L X J t)(j:autoParam (S_ X e J) zSr):EA L X (e::J) (w6 te t):=λH_=>impA (vz (l H_) (hr H_) j) λY H Q h=>by
 obtain⟨U,o,R,M,d,k⟩:=h;refine⟨U,o,R,_,d,λv r H1 s1 g h1=>⟨U,o,R.to s1,_,h1,λvs rs H2 s2 a h2=>?_⟩⟩;exact k (v::vs) (r::rs) H2 (s1.trans s2) ⟨v,vs,rfl,g.same s2,a.start s1⟩ h2
noncomputable def fq:List EV->Bool
 |[]=>true
 |r::rs=>(match r.k with|.own=>false|_=>true)&&fq rs
theorem rm:∀{rs:List EV},fq rs=true->∀r∈rs,r.k≠.own
 |[],_=>λr h=>nomatch h
 |⟨k,d⟩::rs,h=>λr hr=>by
  rw[fq,zcF]at h;rcases zam.mp hr with rfl|hr
  ·intro z;have a:k=.own:=z;subst a;exact absurd h.1 aE
  exact rm h.2 r hr
def dTup(t:TDs):TD:=λU M=>t U λrs=>fq rs=true/\Nat.ble rs.length 1000=true/\M (dv (.tup (rs.map EV.d)))
def dLst(t:TDs):TD:=λU M=>t U λrs=>fq rs=true/\Nat.ble rs.length 1000=true/\M (df (.lst (rs.map EV.d)))
def ww(h:Nat.ble n 1000=true):n<=sizeLine:=zak (zaP h) aB
theorem RVs.length{K:W.Frag}{H0 H:Hp}{O:List Addr}:∀{rs:List EV}{vs:List V},RVs K H0 H O rs vs->vs.length=rs.length
 |[],_,h=>by cases h;rfl
 |r::rs,vs,h=>by
  obtain⟨v,a,rfl,_,t⟩:=h;simp[RVs.length t]
def zh {x1} (h:EA L X J t):ED L X (.Tuple J x1 pos) (dTup t):=λH_=>impE (Qs (h H_)) λY H Q q=>by
 obtain⟨U,o,R,M,d,k⟩:=q;refine⟨U,o,R,_,d,λvs rs H1 s1 a h1=>⟨by rw[a.length];exact ww h1.2.1,λp e=>?_⟩⟩
 exact k _ _ _ (s1.trans (y9 e _)) (RV.start (X8 e (a.reps (rm h1.1))) s1) h1.2.2
def x5(h:EA L X J t):ED L X (.List J pos) (dLst t):=λH_=>impE (Kr (h H_)) λY H Q q=>by
 obtain⟨U,o,R,M,g,k⟩:=q;refine⟨U,o,R,_,g,λvs rs H1 s1 d h1=>⟨by rw[d.length];exact ww h1.2.1,λp j=>?_⟩⟩
 exact k _ _ _ (s1.trans (y9 j _)) (RV.start (qj (λa e=>R.ofree (s1.free e)) j (d.reps (rm h1.1))) s1) h1.2.2
def sIx1:D->D->(EV->Prop)->Prop:=λx y M=>match x,y with
 |.lst S,.int i=>match atI S i with
  |some d=>M (dv d)
  |none=>False
 |.tup S,.int i=>match atI S i with
  |some d=>M (dv d)
  |none=>False
 |.scr ns,.int i=>match atI ns i with
  |some n=>M (dv (.int n))
  |none=>False
 |.str z,.int i=>z.length<=sizeLine/\match atI z.cps.toList i with
  |some c=>M (dv (.str ⟨#[c]⟩))
  |none=>False
 |_,_=>False
def Th{K:W.Frag}{H:Hp}{O:List Addr}{S:List D}{E:List V}{i:Int}{d:D}(r:Reps K H O S E)(h:atI S i=some d):∃v,atI E i=some v/\Rep K H O d v:=by
 unfold atI at h ⊢;rw[r.length];cases e:ixN S.length i with
 |none=>rw[e]at h;cases h
 |some j =>
  rw[e]at h;exact r.get h
def F8:ga X.K (rIx X.K) sIx1:=by
 intro H O x y G D M Q ho l g h k;unfold sIx1 at h;split at h
 ·obtain⟨a,E,rfl,q,r⟩:=l;split at h
  ·rename_i d e;obtain⟨v,z,u⟩:=Th r e;exact .inl ⟨a,E,_,v,rfl,g,SqL.of q,z,k _ _ H (Same.refl H) (RV.val u) h⟩
  exact h.elim
 ·obtain⟨a,E,rfl,q,r⟩:=l;split at h
  ·rename_i d e;obtain⟨v,z,u⟩:=Th r e;exact .inr (.inl ⟨a,E,_,v,rfl,g,q.1,z,k _ _ H (Same.refl H) (RV.val u) h⟩)
  exact h.elim
 ·obtain⟨a,rfl,q⟩:=l;split at h
  ·rename_i n e;refine .inl ⟨a,_,_,.int n,rfl,g,q.seq,?_,k _ _ H (Same.refl H) aH h⟩
   unfold atI at e ⊢;rw[zLm];cases e2:ixN _ _ with
   |none=>rw[e2]at e;cases e
   |some j =>
    rw[e2]at e;exact(zai ..).trans (zbP (Option.map V.int) e)
  exact h.elim
 ·obtain⟨B,h⟩:=h;split at h
  ·rename_i c e;exact .inr (.inr ⟨_,_,c,l,g,B,e,k _ _ H (Same.refl H) aH h⟩)
  exact h.elim
 exact h.elim
abbrev TDo:=DE->(Option Int->Prop)->Prop
def z1k(K:W.Frag)(H_:Hp)(t:TDo):TO:=λY H Q=>∃U o,REnv K H_ H Y U o/\∃M,t U M/\∀b H',Same H H'->M b->Q b H'
def EO(G:Hp->Prop)(X:Cx)(e:Option Expr)(t:TDo):Prop:=∀H_:{H:Hp // G H},PO X e (z1k X.K H_.1 t)
def F3:TDo:=λ_ M=>M none
def F2(t:TD):TDo:=λU M=>t U λr=>match r.d with
 |.int i=>M (some i)
 |_=>False
def impO{e:Option Expr}{t t':TO}(h:PO X e t)(i:∀ Y H Q,t' Y H Q->t Y H Q):PO X e t':=λpn s Y H Q I q=>h pn s Y H Q I (i Y H Q q)
def xk:EO L X none F3:=λH_=>impO Gh λY H Q h=>by
 obtain⟨U,o,R,M,a,k⟩:=h;exact k none H (Same.refl H) a
def yg(h:ED L X e te):EO L X (some e) (F2 te):=λH_=>impO (Gg (h H_)) λY H Q q=>by
 obtain⟨U,o,R,M,a,k⟩:=q;refine⟨U,o,R,_,a,λv r H1 s1 g h1=>?_⟩;obtain⟨kd,d⟩:=r;cases d with
 |int i=>exact⟨i,g.view,k _ H1 s1 h1⟩
 |_=>exact h1.elim
noncomputable def cutD(E:List D)(lo hi:Option Int):List D:=(E.drop (ZZ.sIx E.length 0 lo)).take (ZZ.sIx E.length E.length hi-ZZ.sIx E.length 0 lo)
def gz{K:W.Frag}{H:Hp}{O:List Addr}{S:List D}{E:List V}(r:Reps K H O S E)(lo hi:Option Int):Reps K H O (cutD S lo hi) (cutV E lo hi):=by
 unfold cutD cutV;rw[r.length];exact(r.drop _).take _
def sSl:D->Option Int->Option Int->(EV->Prop)->Prop:=λx lo hi M=>match x with
 |.lst S=>M (df (.lst (cutD S lo hi)))
 |.scr ns=>M (df (.lst (cutD (ns.map D.int) lo hi)))
 |.tup S=>¬ (ZZ.sIx S.length 0 lo=0/\ZZ.sIx S.length S.length hi=S.length)/\M (dv (.tup (cutD S lo hi)))
 |_=>False
def dSl(te:TD)(tl th:TDo):TD:=λU M=>te U λx=>tl U λl=>th U λu=>sSl x.d l u M
def yq{lo hi:Option Expr}{tl th:TDo}{p2:Pos}(I:ED L X e te)(hl:EO L X lo tl)(hu:EO L X hi th):ED L X (.Subscript e (.Slice lo hi none p2) pos) (dSl te tl th):=λH_ =>
 impE (Ul (Ho.or Kl) (I H_) (hl H_) (hu H_)) λY H Q q=>by
  obtain⟨U,o,R,M,B,k⟩:=q;refine⟨U,o,R,_,B,λv r H1 s1 G h1=>⟨U,o,R.to s1,_,h1,λl H2 s2 h2=>⟨U,o,R.to (s1.trans s2),_,h2,λu es D x=>?_⟩⟩⟩;have z:=s1.trans s2;have g:=z.trans D;have y:=(G.same (s2.trans D)).view;obtain⟨kd,d⟩:=r;cases d with
  |lst S =>
   obtain⟨a,E,rfl,q,r⟩:=y;refine .inl ⟨a,E,rfl,SqL.of q,λp j=>?_⟩;exact k _ _ _ (g.trans (y9 j _)) (RV.start (qj (λa e=>R.ofree (g.free e)) j (gz r l u)) g) x
  |scr ns =>
   obtain⟨a,rfl,q⟩:=y;refine .inl ⟨a,_,rfl,q.seq,λp j=>?_⟩;exact k _ _ _ (g.trans (y9 j _)) (RV.start (qj (λa e=>R.ofree (g.free e)) j (gz (zj.ints ns) l u)) g) x
  |tup S =>
   obtain⟨a,E,rfl,q,r⟩:=y;refine .inr ⟨a,E,rfl,q.1,by rw[r.length];exact x.1,λp j=>?_⟩
   exact k _ _ _ (g.trans (y9 j _)) (RV.start (X8 j (gz r l u)) g) x.2
  |_=>exact x.elim
end
def qm(r:EV):Prop:=match r.k with
 |.val=>zi r.d
 |.own=>False
 |.fre=>match r.d with
  |.lst S=>zu S
  |.dk _ S=>zu S
  |_=>False
 |.new=>True
def RV.lift{K:W.Frag}{H0 H:Hp}{O:List Addr}{r:EV}{v:V}(h:RV K H0 H [] r v)(p:qm r)(ho:∀ a,H0 a=none->a∉O):RV K H0 H O r v:=by
 obtain⟨k,d⟩:=r;cases k with
 |val=>exact RepN.pure _ _ p h
 |own=>exact p.elim
 |fre =>
  obtain⟨a,e,m,n,c⟩:=h;refine⟨a,e,m,ho a m,?_⟩;cases d with
  |lst S=>obtain⟨E,q,r⟩:=c;exact⟨E,q,zj.pure _ _ p r⟩
  |dk ks S=>obtain⟨E,q,l,g,r⟩:=c;exact⟨E,q,l,g,zj.pure _ _ p r⟩
  |_=>exact c.elim
 |new=>exact RepN.to (Same.refl H) (λa z=>⟨ho a z.2,z.2⟩) _ _ h
abbrev FT:=List D->(EV->Prop)->Prop
def spD(K:W.Frag)(n:Nat)(T:FT):Sp:=λvs H Q _=>∃S M,S.length=n/\Reps K H [] S vs/\T S M/\∀v r H',Same H H'->RV K H H' [] r v->qm r->M r->Q v H'
structure FD(P:Program)(w:World)(K:W.Frag)(mg:Str->Option Value)(base:Heap)(k:Nat)(x:Str)(ps:List Str)(T:FT):Prop where
 ex:∃f fd,FnOk P w K mg base CX0 k f fd ps (spD K ps.length T)/\um K fd ps []/\W.keepIn K (.ref f)=true/\mg x=some (.ref f)
def Ys(n:Nat)(T:FT)(t:TDs):TD:=λU M=>t U λrs=>Nat.beq rs.length n=true/\T (rs.map EV.d) M
section
variable{x:Str}{ps:List Str}{T:FT}{k:Nat}{e:Expr}{J:List Expr}{t:TDs}{p pos:Pos}
def Pg:∀Y H Q,qh X.K H_ (Ys ps.length T t) Y H Q->D5 (spD X.K ps.length T) [] E0 (Fc X.K H_ t) Y H Q:=λY H Q q=>by
 obtain⟨U,o,R,M,j,l⟩:=q;refine⟨U,o,R,_,j,λvs rs H1 s1 g h1=>?_⟩;show spD X.K ps.length T (vs++[]) H1 Q E0;rw[zaX];refine⟨rs.map EV.d,M,by rw[zLm];exact zdF h1.1,g.reps0,h1.2,λv r H2 s2 k pr h2=>?_⟩
 exact l v r H2 (s1.trans s2) (RV.start (k.lift pr λa e=>R.ofree (s1.free e)) s1) h2
def zy(F:FD X.prog X.w X.K X.mg X.base k x ps T)(hr:Room k X.A)(q:EA L X (e::J) t)(j:autoParam (Gl X x) zSr)(d:autoParam (D_ x) zSd)(l:autoParam (S_ X e J) zSr)(a:autoParam (B_ X J pos) zSr):ED L X (.Call (.Name x p) (e::J) [] pos) (Ys ps.length T t):=λH_=>by
 obtain⟨f,fd,ok,b,g,m⟩:=F.ex;exact impE (V1 ok hr j m g b .nil Xg (q H_) d l a) Pg
def Eb(K:W.Frag)(H:Hp)(O:List Addr):List D->List V->Prop
 |[],vs=>vs=[]
 |d::S,vs=>∃v ws,vs=v::ws/\View K H O d v/\Eb K H O S ws
theorem RVs.views{K:W.Frag}{H0 H:Hp}{O:List Addr}:∀{rs:List EV}{vs:List V},RVs K H0 H O rs vs->Eb K H O (rs.map EV.d) vs
 |[],_,h=>h
 |r::rs,vs,h=>by
  obtain⟨v,a,e,q,t⟩:=h;exact⟨v,a,e,q.view,t.views⟩
def N7(K:W.Frag)(r:List V->Hp->VK->Prop)(s:FT):Prop :=
 ∀(H:Hp)(O:List Addr)(S:List D)(vs:List V)(M:EV->Prop)(Q:VK),(∀a,H a=none->a∉O)->Eb K H O S vs->s S M->(∀v r H',Same H H'->RV K H H' O r v->M r->Q v H')->r vs H Q
def dCB(s:FT)(t:TDs):TD:=λU M=>t U λrs=>s (rs.map EV.d) M
def Pf{r:List V->Hp->VK->Prop}{s:FT}(hl:N7 X.K r s):∀Y H Q,qh X.K H_ (dCB s t) Y H Q->tCB r (Fc X.K H_ t) Y H Q:=λY H Q q=>by
 obtain⟨U,o,R,M,g,k⟩:=q;refine⟨U,o,R,_,g,λvs rs H1 s1 d h1=>?_⟩;exact hl H1 _ _ vs M Q (λa e=>R.ofree (s1.free e)) d.views h1 λv r H2 s2 j h2=>k v r H2 (s1.trans s2) (j.start s1) h2
def qg{id:String}{r:List V->Hp->VK->Prop}{s:FT}(u:t8 X (.builtin id) r)(hl:N7 X.K r s)(k:X.mg x=none)(g:bootBuiltins x=some (.builtin id))(v:EA L X (e::J) t)(l:autoParam (Gl X x) zSr)(j:autoParam (x≠"__name__") zSd)(d:autoParam (D_ x) zSd)(q:autoParam (S_ X e J) zSr)(a:autoParam (B_ X J pos) zSr):ED L X (.Call (.Name x p) (e::J) [] pos) (dCB s t):=λH_ =>
 impE (Y5 u l k g (v H_) j d q a) (Pf hl)
def jm{T:String}{r:List V->Hp->VK->Prop}{s:FT}(u:t8 X (.type T) r)(hl:N7 X.K r s)(k:X.mg x=none)(g:bootBuiltins x=some (.type T))(v:EA L X (e::J) t)(l:autoParam (Gl X x) zSr)(j:autoParam (x≠"__name__") zSd)(d:autoParam (D_ x) zSd)(q:autoParam (S_ X e J) zSr)(a:autoParam (B_ X J pos) zSr):ED L X (.Call (.Name x p) (e::J) [] pos) (dCB s t):=λH_ =>
 impE (Qv u l k g (v H_) j d q a) (Pf hl)
def sLen:FT:=λS M=>match S with
 |[.lst l]=>M (dv (.int l.length))
 |[.tup l]=>M (dv (.int l.length))
 |[.scr l]=>M (dv (.int l.length))
 |[.str z]=>z.length<=sizeLine/\M (dv (.int z.length))
 |_=>False
def Ms:N7 X.K (λE H Q=>(∃p ys,E=[.ref p]/\(SqL X.K H p ys\/SqT X.K H p ys)/\Q (.int ys.length) H)\/∃z,E=[.str z]/\z.length<=sizeLine/\Q (.int z.length) H) sLen:=by
 intro H O S vs M Q ho d h k;unfold sLen at h;split at h
 ·obtain⟨v,e,rfl,⟨a,E,rfl,q,r⟩,rfl⟩:=d;refine .inl ⟨a,E,rfl,.inl (SqL.of q),?_⟩;rw[r.length];exact k _ _ H (Same.refl H) aH h
 ·obtain⟨v,e,rfl,⟨a,E,rfl,q,r⟩,rfl⟩:=d;refine .inl ⟨a,E,rfl,.inr q.1,?_⟩;rw[r.length];exact k _ _ H (Same.refl H) aH h
 ·obtain⟨v,e,rfl,⟨a,rfl,q⟩,rfl⟩:=d;refine .inl ⟨a,_,rfl,.inl q.seq,?_⟩;rw[zLm];exact k _ _ H (Same.refl H) aH h
 ·obtain⟨v,e,rfl,g,rfl⟩:=d;cases (show v=_ from g);exact .inr ⟨_,rfl,h.1,k _ _ H (Same.refl H) aH h.2⟩
 exact h.elim
def yo(d:X.mg "len" = none)(k:EA L X (e::J) t)(g:autoParam (Gl X "len") zSr)(j:autoParam (S_ X e J) zSr)(a:autoParam (B_ X J pos) zSr):ED L X (.Call (.Name "len" p) (e::J) [] pos) (dCB sLen t) :=
 qg (gn.or Wd) Ms d PySem.boot_len k g aB aB j a
def sAbs:FT:=λS M=>match S with
 |[.int i]=>M (dv (.int (if i<0 then -i else i)))
 |_=>False
def On(j:X.mg "abs" = none)(r:EA L X (e::J) t)(l:autoParam (Gl X "abs") zSr)(q:autoParam (S_ X e J) zSr)(a:autoParam (B_ X J pos) zSr):ED L X (.Call (.Name "abs" p) (e::J) [] pos) (dCB sAbs t) :=
 qg K5 (λH O S vs M Q ho g h k=>by
  unfold sAbs at h;split at h
  ·obtain⟨v,u,rfl,d,rfl⟩:=g;cases (show v=_ from d);exact⟨_,rfl,k _ _ H (Same.refl H) aH h⟩
  exact h.elim) j (by kernel_rfl) r l aB aB q a
end
noncomputable def EV.sto(r:EV):EV:=⟨match r.k with
 |.fre=>.own
 |.new=>.val
 | k=>k,r.d⟩
noncomputable def EV.ret(r:EV):EV:=⟨match r.k with
 |.own=>.fre
 | k=>k,r.d⟩
noncomputable def setS:DE->Nat->EV->DE
 |[],_,_=>[]
 |_::r,0,v=>some v::r
 |x::r,i+1,v=>x::setS r i v
theorem wa:∀(U:DE)(i:Nat)(v:EV),setS U i v=U.set i (some v)
 |[],_,_=>rfl
 |_::_,0,_=>rfl
 |x::r,i+1,v=>by rw[setS,wa r i v,List.set_cons_succ]
def Con1.grow{K:W.Frag}{H H':Hp}{O O':List Addr}{d:D}{a:Addr}(h:Con1 K H O d a)(s:∀ u,H a=some u->H' a=some u)(g:Grow O O' H H'):Con1 K H' O' d a:=by
 cases d with
 |lst S=>obtain⟨E,q,r⟩:=h;exact⟨E,s _ q,zj.grow g _ _ r⟩
 |dk ks S=>obtain⟨E,q,l,n,r⟩:=h;exact⟨E,s _ q,l,n,zj.grow g _ _ r⟩
 |_=>exact h.elim
def Con1.mtb{K:W.Frag}{H:Hp}{O:List Addr}{d:D}{a:Addr}(h:Con1 K H O d a):(∃u,H a=some u)/\(∀E,H a≠some (.tup E))/\∀e u,H a≠some (.frz e u):=by
 cases d with
 |lst S=>obtain⟨E,q,r⟩:=h;exact⟨⟨_,q⟩,(λE z=>by rw[q]at z;cases z),(λe u z=>by rw[q]at z;cases z)⟩
 |dk ks S=>obtain⟨E,q,r⟩:=h;exact⟨⟨_,q⟩,(λE z=>by rw[q]at z;cases z),(λe u z=>by rw[q]at z;cases z)⟩
 |_=>exact h.elim
def REnv.setV(R:REnv K H_ H Y U o)(i:Nat)(h:Rep K H (o.map Prod.snd) d v):REnv K H_ H (Y.set i (some v)) (setS U i (dv d)) o where
 same:=R.same
 fresh:=R.fresh
 trk:=R.trk
 mtb:=R.mtb
 nda:=R.nda
 len:=by rw[wa,zaY,zaY];exact R.len
 slots:=λj r e=>by
  rw[wa]at e;by_cases hj:j=i
  ·subst hj;have hl:j<U.length:=by
    rcases zcQ j U.length with z|z
    ·exact z
    rw[zbW (by rw[zaY];exact z)]at e
    cases e
   rw[zaV hl]at e;cases e;exact⟨v,zaV (by rw[R.len];exact hl),.inl ⟨rfl,h⟩⟩
  rw[zaN (Ne.symm hj)]at e;obtain⟨w,a,q⟩:=R.slots j r e;exact⟨w,by rw[zaN (Ne.symm hj)];exact a,q⟩
def REnv.setO(R:REnv K H_ H Y U o)(s:Same H H')(i:Nat)(v:H a=none)(c:Con1 K H' (a::o.map Prod.snd) d a) :
  REnv K H_ H' (Y.set i (some (.ref a))) (setS U i (dO d)) ((i,a)::o)/\Grow (o.map Prod.snd) (((i,a)::o).map Prod.snd) H H':=by
 have g:Grow (o.map Prod.snd) (((i,a)::o).map Prod.snd) H H':=by
  refine⟨λb u h n=>⟨s b u h,λz=>?_⟩,λb E h=>s b _ h,λb D u h=>s b _ h⟩;rw[zaB]at z;rcases zam.mp z with z|z
  ·exact zp h v z
  exact n z
 refine⟨?_,g⟩;have x:=R.to s;exact {
  same:=x.same
  fresh:=λp l=>by
   rcases zam.mp l with rfl|l
   ·exact R.same.free v
   exact R.fresh p l
  trk:=λp l=>by
   rcases zam.mp l with rfl|l
   ·exact c.mtb.1
   exact x.trk p l
  mtb:=λp l=>by
   rcases zam.mp l with rfl|l
   ·exact c.mtb.2
   exact x.mtb p l
  nda:=by
   rw[zaB,zaQ];exact⟨λz=>R.ofree v z,R.nda⟩
  len:=by rw[wa,zaY,zaY];exact R.len
  slots:=λj r e=>by
   rw[wa]at e;by_cases hj:j=i
   ·subst hj;have hl:j<U.length:=by
     rcases zcQ j U.length with z|z
     ·exact z
     rw[zbW (by rw[zaY];exact z)]at e
     cases e
    rw[zaV hl]at e;cases e;exact⟨_,zaV (by rw[R.len];exact hl),.inr ⟨rfl,a,rfl,zao ..,c⟩⟩
   rw[zaN (Ne.symm hj)]at e;obtain⟨w,y,q⟩:=R.slots j r e;refine⟨w,by rw[zaN (Ne.symm hj)];exact y,?_⟩
   rcases q with⟨k,q⟩|⟨k,a',e1,m,B⟩
   ·exact .inl ⟨k,RepN.grow g _ _ q⟩
   exact .inr ⟨k,a',e1,zal _ m,B.grow (λu q=>s _ _ q) g⟩}
def REnv.put(R:REnv K H_ H Y U o)(s:Same H H')(i:Nat)(h:RV K H H' (o.map Prod.snd) r v)(e:r.k≠.own) :
  ∃o',REnv K H_ H' (Y.set i (some v)) (setS U i r.sto) o'/\Grow (o.map Prod.snd) (o'.map Prod.snd) H H':=by
 obtain⟨k,d⟩:=r;cases k with
 |val=>exact⟨_,(R.to s).setV i h,Grow.same s⟩
 |own=>exact absurd rfl e
 |fre =>
  obtain⟨a,rfl,m,n,c⟩:=h;exact⟨_,R.setO s i m c⟩
 |new=>exact⟨_,(R.to s).setV i (RepN.rep (λa z=>z.1) _ _ h),Grow.same s⟩
theorem Yh:∀{o:List (Nat×Addr)},(o.map Prod.snd).Nodup->∀{p q:Nat×Addr},p∈o->q∈o->p.2=q.2->p=q
 |[],_,_,_,h,_,_=>nomatch h
 |x::o,nd,p,q,hp,hq,e=>by
  rw[zaB,zaQ]at nd;rcases zam.mp hp with h1|hp
  ·rcases zam.mp hq with h2|hq
   ·rw[h1,h2]
   exact absurd (zah.mpr ⟨q,hq,by rw[<- e,h1]⟩) nd.1
  rcases zam.mp hq with h2|hq
  ·exact absurd (zah.mpr ⟨p,hp,by rw[e,h2]⟩) nd.1
  exact Yh nd.2 hp hq e
def REnv.chg(R:REnv K H_ H Y U o){i:Nat}{a:Addr}{d d':D}{ho:HO}(O:U[i]?=some (some (dO d)))(G:Y[i]?=some (some (.ref a)))(x:(i,a)∈o)(y:(∀ E,ho≠.tup E)/\∀ l u,ho≠.frz l u)(c:(∀ S E,Reps K H (o.map Prod.snd) S E->Reps K (upd H a ho) (o.map Prod.snd) S E)->Con1 K (upd H a ho) (o.map Prod.snd) d' a) :
  REnv K H_ (upd H a ho) Y (setS U i (dO d')) o/\Grow (o.map Prod.snd) (o.map Prod.snd) H (upd H a ho):=by
 have W:a∈o.map Prod.snd:=zah.mpr ⟨_,x,rfl⟩;obtain⟨V,Q⟩:=R.mtb _ x;have g:Grow (o.map Prod.snd) (o.map Prod.snd) H (upd H a ho) :=
  ⟨λb u h n=>⟨by rw[zx (show b≠a from λz=>n (by rw[z];exact W))];exact h,n⟩,λb E h=>by rw[zx (show b≠a from λz=>V E (by rw[<- z];exact h))];exact h,λb l u h=>by rw[zx (show b≠a from λz=>Q l u (by rw[<- z];exact h))];exact h⟩
 refine⟨?_,g⟩;exact {
  same:=λb u h=>by
   have:b≠a:=λz=>by
    have:=R.fresh _ x;rw[<- z,h]at this;cases this
   rw[zx this];exact R.same b u h
  fresh:=R.fresh
  trk:=λp I=>by
   by_cases e:p.2=a
   ·exact⟨ho,by rw[e];exact zk⟩
   rw[zx e];exact R.trk p I
  mtb:=λp I=>by
   by_cases e:p.2=a
   ·rw[e,zk];exact⟨λE z=>y.1 E (zaM z),λl u z=>y.2 l u (zaM z)⟩
   rw[zx e];exact R.mtb p I
  nda:=R.nda
  len:=by rw[wa,zaY];exact R.len
  slots:=λj r e=>by
   rw[wa]at e;by_cases hj:j=i
   ·subst hj;have hl:j<U.length:=(zag.mp O).1;rw[zaV hl]at e;cases e;obtain⟨v,N,q⟩:=R.slots j _ O;rcases q with⟨k,_⟩|⟨_,a',e1,B,_⟩
    ·cases k
    have L:a'=a:=by
     rw[G]at N;cases N;cases e1;rfl
    subst L;exact⟨v,N,.inr ⟨rfl,a',e1,x,c λS E q=>zj.grow g _ _ q⟩⟩
   rw[zaN (Ne.symm hj)]at e;obtain⟨w,Z,q⟩:=R.slots j r e;refine⟨w,Z,?_⟩;rcases q with⟨k,q⟩|⟨k,a',e1,B,c'⟩
   ·exact .inl ⟨k,RepN.grow g _ _ q⟩
   refine .inr ⟨k,a',e1,B,c'.grow (λu q=>?_) g⟩;have es:a'≠a:=λz=>by
    exact hj (zbP Prod.fst (Yh R.nda B x z))
   rw[zx es];exact q}
section
variable{st:Stmt}{rest:List Stmt}{t u:TDS}{e:Expr}{te:TD}{tc:TDb}{pos:Pos}
def sNil:TDS:=λU Z=>Z.nx U
def sSeq(t u:TDS):TDS:=λU Z=>t U {Z with nx:=λρ'=>u ρ' Z}
def yr:SDs L X [] sNil:=λH_=>Vi Y4 λD Y H h=>by
 obtain⟨U,o,R,Z,d,a,_⟩:=h;exact a U Y H o Grow.refl R d
def ze(h1:SD L X st t)(h2:SDs L X rest u):SDs L X (st::rest) (sSeq t u):=λH_=>Vi (vh (h1 H_) (h2 H_)) λD Y H h=>by
 obtain⟨U,o,R,Z,y,x,r,l,k⟩:=h;refine⟨U,o,R,_,y,λρ' v H' o' g z q=>?_,r,l,k⟩;exact⟨ρ',o',z,Z,q,λd a H2 j g2 R2 e=>x d a H2 j (g.trans g2) R2 e,λd a H2 j g2 R2 e=>r d a H2 j (g.trans g2) R2 e,λd a H2 j g2 R2 e=>l d a H2 j (g.trans g2) R2 e,k⟩
def zm(h1:SD L X st t):SDs L X [st] t:=λH_=>qt (h1 H_)
def Wt:SD L X (.Continue pos) (λU Z=>Z.ct U):=λH_=>impS Wy λD Y H h=>by
 obtain⟨U,o,R,Z,d,_,_,a,_⟩:=h;exact a U Y H o Grow.refl R d
def Y3:SD L X st (λ_ _=>False):=λH_=>impS Mb λD Y H h=>by
 obtain⟨_,_,_,_,a,_⟩:=h;exact a.elim
def sRet(te:TD):TDS:=λU Z=>te U λr=>Z.rt r.ret
theorem RV.ret{K:W.Frag}{H_ H H':Hp}{Y:St}{U:DE}{o:List (Nat×Addr)}(R:REnv K H_ H Y U o){r:EV}{v:V}(h:RV K H H' (o.map Prod.snd) r v):RV K H_ H' [] r.ret v:=by
 obtain⟨k,d⟩:=r;cases k with
 |val=>exact RepN.sub (O':=[]) (λ_ z=>absurd z aE) _ _ h
 |own =>
  obtain⟨a,e,m,c⟩:=h;obtain⟨p,j,ep⟩:=zah.mp m;subst ep;exact⟨p.2,e,R.fresh p j,by simp,c.sub λb g=>by
   have:b=p.2:=by simpa using g
   rw[this];exact m⟩
 |fre =>
  obtain⟨a,e,m,n,c⟩:=h;exact⟨a,e,R.same.free m,by simp,c.sub λb g=>by
   have:b=a:=by simpa using g
   rw[this];exact zao ..⟩
 |new=>exact RepN.to (Same.refl H') (λa z=>⟨by simp,R.same.free z.2⟩) _ _ h
def yb(g:ED L X e te):SD L X (.Return (some e) pos) (sRet te):=λH_=>impS (Z9 (g H_)) λD Y H h=>by
 obtain⟨U,o,R,Z,j,q,l,k,d⟩:=h;refine⟨U,o,R,_,j,λv r H1 s1 a h1=>?_⟩;exact d v r.ret H1 (R.same.trans s1) (RV.ret R a) h1
def sIf(tc:TDb)(t u:TDS):TDS:=λU Z=>tc U λc=>(c=true->t U Z)/\(c=false->u U Z)
def xn{c:Expr}{a b:List Stmt}(B:ET L X c tc)(I:SDs L X a t)(G:SDs L X b u):SD L X (.If c a b pos) (sIf tc t u):=λH_=>impS (Mc (B H_) (I H_) (G H_)) λD Y H h=>by
 obtain⟨U,o,R,Z,es,y,x,r,q⟩:=h;refine⟨U,o,R,_,es,λc H1 s1 h1=>?_⟩;have g:Grow (o.map Prod.snd) (o.map Prod.snd) H H1:=Grow.same s1;have l:∀{v:TDS},v U Z->Ph X.K H_.1 v D Y H1:=λz=>⟨U,o,R.to s1,Z,z,λe d H2 k g2 R2 j=>y e d H2 k (g.trans g2) R2 j,λe d H2 k g2 R2 j=>x e d H2 k (g.trans g2) R2 j,λe d H2 k g2 R2 j=>r e d H2 k (g.trans g2) R2 j,q⟩;cases c with
 |true=>exact iteT (l (h1.1 rfl))
 |false=>exact iteF (l (h1.2 rfl))
def sCut(t:TDS):TDS:=λU Z=>∃es:DE->Prop,t U {Z with nx:=es}/\∀ρ',es ρ'->Z.nx ρ'
def yj(h:SD L X st t):SD L X st (sCut t):=λH_=>impS (h H_) λD Y H h=>by
 obtain⟨U,o,R,Z,⟨es,r,u⟩,q,l,k,j⟩:=h;exact⟨U,o,R,_,r,λa d H2 g g2 R2 e=>q a d H2 g g2 R2 (u a e),l,k,j⟩
def Df(te:TD):TDS:=λU Z=>te U λ_=>Z.nx U
def Hw(g:ED L X e te)(d:autoParam (swapsWith e none pos.line X.env=pure false) zSr):SD L X (.Expr e pos) (Df te):=λH_=>impS (qu (g H_) d) λD Y H h=>by
 obtain⟨U,o,R,Z,j,a,u,q,l⟩:=h;exact⟨U,o,R,_,j,λv r H1 s1 k h1=>a U Y H1 o (Grow.same s1) (R.to s1) h1⟩
def sSet(i:Nat)(te:TD):TDS:=λU Z=>te U λr=>(match r.k with|.own=>False|_=>True)/\Z.nx (setS U i r.sto)
def uf{r:EV}(h:match r.k with|.own=>False|_=>True):r.k≠.own:=by
 obtain⟨k,d⟩:=r;cases k with
 |own=>exact h.elim
 |val=>exact λz=>nomatch z
 |fre=>exact λz=>nomatch z
 |new=>exact λz=>nomatch z
def zw(i:Nat){x:Str}(y:X.N.Nodup)(q:ED L X e te)(hi:autoParam (X.N[i]?=some x) zSr)(j:Loc X.env.scope x:=by first|exact Or.inl rfl|exact Or.inr rfl)(k:autoParam (swapsWith e (some (.Name x pos')) pos.line X.env=pure false) zSr)(l:X.fn x=true\/X.env.scope.names.lookup x=some .local:=by first|exact .inl rfl|exact .inr rfl|assumption):SD L X (.Assign [.Name x pos'] e pos) (sSet i te):=λH_=>impS (gf y hi j (q H_) k l) λD Y H h=>by
 obtain⟨U,o,R,Z,u,d,I,G,B⟩:=h;refine⟨U,o,R,_,u,λv r H1 s1 a h1=>?_⟩;obtain⟨o',z,g⟩:=R.put s1 i a (uf h1.1);exact d _ _ H1 o' g z h1.2
abbrev TGD:=D->DE->(DE->Prop)->Prop
def jp(K:W.Frag)(g2:TG)(g:TGD):Prop:=∀(H_ H:Hp)(Y:St)(U:DE)(o:List (Nat×Addr))(d:D)(v:V)(G:DE->Prop)(Q:St->Hp->Prop),REnv K H_ H Y U o->Rep K H (o.map Prod.snd) d v->g d U G ->
 (∀ρ' σ',REnv K H_ H σ' ρ' o->G ρ'->Q σ' H)->g2 v Y H Q
def gN(i:Nat):TGD:=λd U G=>G (setS U i (dv d))
def ym{K:W.Frag}(i:Nat):jp K (u9 i) (gN i):=λH_ H Y U o d v G Q R h a k=>k _ _ (R.setV i h) a
def gT2(i j:Nat):TGD:=λd U G=>match d with
 |.tup [a,b]=>G (setS (setS U i (dv a)) j (dv b))
 |_=>False
def rg{K:W.Frag}(i j:Nat):jp K (gTup K 2 (uz (u9 i) (uz (u9 j) gNil))) (gT2 i j):=λH_ H Y U o d v G Q R h e k=>by
 unfold gT2 at e;split at e
 ·rename_i a b;obtain⟨p,E,rfl,q,r⟩:=h;obtain⟨l,y,rfl,h1,g,x,rfl,h2,rfl⟩:=r;refine⟨p,_,rfl,q.1,rfl,l,_,rfl,g,_,rfl,rfl,?_⟩;have u:=R.setV i h1;have R2:=u.setV j h2;exact k _ _ R2 e
 exact e.elim
def sUn(te:TD)(g:TGD):TDS:=λU Z=>te U λr=>(match r.k with|.own=>False|_=>True)/\g r.d U Z.nx
def Nr{tg:Expr}{g2:TG}(y:ED L X e te)(x:PG X tg g2)(hl:jp X.K g2 g)(u:autoParam (swapsWithSole [tg] e pos.line X.env=pure false) zSr)(l:autoParam (swappedStores [tg] e X.env=pure none) zSr)(h1:autoParam ((assignEach [tg] X.env).map (·.2)=[assign tg X.env]) zSr):SD L X (.Assign [tg] e pos) (sUn te g):=λH_=>impS (Xe (y H_) x u l h1) λD Y H h=>by
 obtain⟨U,o,R,Z,z,k,es,I,G⟩:=h;refine⟨U,o,R,_,z,λv r H1 s1 j h1=>?_⟩;exact hl H_.1 H1 Y U o r.d v _ _ (R.to s1) (j.solid (uf h1.1)) h1.2 λρ' a B q=>k ρ' a H1 o (Grow.same s1) B q
def sWh(tc:TDb)(tb:TDS):TDS:=λU Z=>∃(P:DE->Prop)(μ:DE->Nat),P U/\∀U,P U->tc U λc =>
 (c=true->tb U {Z with nx:=λρ'=>P ρ'/\μ ρ'<μ U,ct:=λρ'=>P ρ'/\μ ρ'<μ U,bk:=Z.nx})/\(c=false->Z.nx U)
def Y2{c:Expr}(G:ET L X c tc)(I:SDs L X body tb)(B:PassesOwn (model X.prog X.w) X.A X.env X.xe:=by exact PassesOwn.never):SD L X (.While c body [] pos) (sWh tc tb):=λH_=>impS (Ui B (G H_) (I H_)) λD Y H h=>by
 obtain⟨U,o,R,Z,⟨P,u,es,j⟩,x,Q,N,z⟩:=h;refine⟨λm a H'=>∃ρ' o',Grow (o.map Prod.snd) (o'.map Prod.snd) H H'/\REnv X.K H_ H' a ρ' o'/\P ρ'/\u ρ'=m,⟨_,U,o,Grow.refl,R,es,rfl⟩,?_⟩;rintro m r H1 ⟨d,k,g1,v,y,rfl⟩;refine⟨d,k,v,_,j d y,λc H2 s2 h2=>?_⟩;have g2:=g1.trans (Grow.same (O:=k.map Prod.snd) s2);cases c with
 |true =>
  refine iteT ⟨λa H'=>∃ρ' o',Grow (o.map Prod.snd) (o'.map Prod.snd) H H'/\REnv X.K H_ H' a ρ' o'/\P ρ'/\u ρ'<u d,λa H' ⟨ρ',o',g,e,p,l⟩=>⟨_,l,ρ',o',g,e,p,rfl⟩,?_⟩;exact⟨d,k,v.to s2,_,h2.1 rfl,λρ' a H' o' g e q=>⟨ρ',o',g2.trans g,e,q.1,q.2⟩,λρ' a H' o' g e q=>x ρ' a H' o' (g2.trans g) e q,λρ' a H' o' g e q=>⟨ρ',o',g2.trans g,e,q.1,q.2⟩,z⟩
 |false=>exact iteF (x d r H2 k g2 (v.to s2) (h2.2 rfl))
structure ItD(K:W.Frag)(es:It)(S:List D)(P:Hp->List Addr->Prop):Prop where
 go:∀(H:Hp)(O:List Addr)(i:Nat)(d:D),P H O->S[i]?=some d->es.go i H/\∀x H',es.yld i H x H'->Same H H'/\Rep K H' O d x
 stop:∀(H:Hp)(O:List Addr),P H O->es.stop S.length H
 keep:∀(O O':List Addr)(H H':Hp),P H O->Grow O O' H H'->P H' O'
abbrev TID:=DE->(List D->Prop)->Prop
def Mx(K:W.Frag)(H_:Hp)(t:TID):TI:=λY H R=>∃U o,REnv K H_ H Y U o/\∃M,t U M/\∀es S P H',Same H H'->ItD K es S P->P H' (o.map Prod.snd)->M S->R es H'
def EI(G:Hp->Prop)(X:Cx)(tg iter:Expr)(t:TID):Prop:=∀H_:{H:Hp // G H},PI X tg iter (Mx X.K H_.1 t)
def sFor(ti:TID)(g:TGD)(tb:TDS):TDS:=λU Z=>ti U λS=>∃P:Nat->DE->Prop,P 0 U/\(∀i d U,S[i]?=some d->P i U->g d U λρ'=>tb ρ' {Z with nx:=P (i+1),ct:=P (i+1),bk:=Z.nx})/\∀U,P S.length U->Z.nx U
def uu{tg iter:Expr}{g2:TG}(hi:EI L X tg iter ti)(hg:PG X tg g2)(hl:jp X.K g2 g)(hb:SDs L X body tb)(hc:autoParam (X.calm=true) zSr)(hp:PassesOwn (model X.prog X.w) X.A X.env X.xe:=by exact PassesOwn.never)(hs:∀ x,foldedSetIterable iter X.env x=pure x:=by intro _;rfl):SD L X (.For tg iter body [] pos) (sFor ti g tb):=λH_=>impS (C6 hp hc (hi H_) hg (hb H_) hs) λD Y H h=>by
 obtain⟨U,o,R,Z,hZ,k1,k2,k3,k4⟩:=h;refine⟨U,o,R,_,hZ,λes S PJ H1 s1 I hP Zh=>?_⟩;obtain⟨P,p0,q,V⟩:=Zh;refine⟨λi m d H'=>m=S.length-i/\i<=S.length/\∃ρ' o',Grow (o.map Prod.snd) (o'.map Prod.snd) H1 H'/\REnv X.K H_ H' d ρ' o'/\P i ρ',⟨_,rfl,zcB _,U,o,Grow.refl,R.to s1,p0⟩,?_⟩;rintro i m d H' ⟨rfl,a4,ρ',o',g',R',p'⟩;have v:=I.keep _ _ _ _ hP g';have gg:Grow (o.map Prod.snd) (o'.map Prod.snd) H H':=(Grow.same s1).trans g';by_cases hlt:i<S.length
 ·have ed:S[i]?=some S[i]:=by simp[hlt]
  obtain⟨j1,j2⟩:=I.go H' _ i _ v ed;refine .inr ⟨j1,λl H2=>∃j N,Grow (o.map Prod.snd) (N.map Prod.snd) H1 H2/\REnv X.K H_ H2 l j N/\P (i+1) j,λl H2 ⟨j,N,g2,R2,p2⟩=>⟨_,(by lia:S.length-(i+1)<S.length-i),rfl,hlt,j,N,g2,R2,p2⟩,λx H2 y=>?_⟩
  obtain⟨s2,rp⟩:=j2 x H2 y;refine hl H_.1 H2 d ρ' o' _ x _ _ (R'.to s2) rp (q i _ ρ' ed p') λO a0 R3 q3=>?_;have B:Grow (o.map Prod.snd) (o'.map Prod.snd) H1 H2:=g'.trans (Grow.same s2);have Q:Grow (o.map Prod.snd) (o'.map Prod.snd) H H2:=gg.trans (Grow.same s2);exact⟨O,o',R3,_,q3,λa k W u z G r=>⟨a,u,B.trans z,G,r⟩,λa k W u z G r=>k1 a k W u (Q.trans z) G r,λa k W u z G r=>⟨a,u,B.trans z,G,r⟩,k4⟩
 have e:i=S.length:=by lia
 subst e;exact .inl ⟨I.stop H' _ v,k1 ρ' d H' o' gg R' (V ρ' p')⟩
end
section
variable{tg e:Expr}{te:TD}{t:TDs}{pos:Pos}
def impI{t t':TI}(h:PI X tg iter t)(i:∀ Y H R,t' Y H R->t Y H R):PI X tg iter t':=λpn s Y H R I q=>h pn s Y H R I (i Y H R q)
def PV(X:Cx)(tg:Expr)(r:V->Hp->(It->Hp->Prop)->Prop):Prop :=
 ∀(pn:List (Addr×Obj))(s:Shared)(Y:St)(H:Hp)(x:V)(v:Value)(R:It->Hp->Prop),Inv X pn Y H s->RelV x v->r x H R->wpAny (model X.prog X.w) X.A (pyIter v) (PIE X pn Y tg R) X.xe s
def z0z{l:Expr}{r:V->Hp->(It->Hp->Prop)->Prop}(hl:PE X l tl)(e:PV X tg r):PI X tg l (λY H R=>tl Y H λx H1=>r x H1 R):=λpn s Y H R I h =>
 thn (hl pn s Y H _ I h) λv s1 ⟨x,H1,g,a,d⟩=>e pn s1 Y H1 x v R g a d
def Gb:PV X tg (λx H R=>∃a,x=.ref a/\(∃E,SqL X.K H a E)/\R (Itl X.K a) H):=by
 intro pn s1 Y H1 x v R d g j;obtain⟨a,e,⟨E,k⟩,q⟩:=j;subst e;cases g;obtain⟨its,r,p,u⟩:=d.list k;refine zcT p.isList ?_;refine⟨s1.heap.objs.size,[s1.heap.objs.size],_,_,H1,rfl,d.kept (t':=s1.toks) λb o e=>zac _ e,Rl a _,⟨_,zad _ rfl,rfl,rfl⟩,λb l=>?_,q⟩;have e:b=s1.heap.objs.size:=by simpa using l
 subst e;exact d.fpOk (zaj _) (d.hok.fresh (zaj _))
def C1:PV X tg (λx H R=>∃a,x=.ref a/\(∃E,SqT X.K H a E)/\R (Itt X.K a) H):=by
 intro pn s1 Y H1 x v R d g j;obtain⟨a,e,⟨E,k⟩,q⟩:=j;subst e;cases g;obtain⟨its,r,p,u⟩:=d.tuple k;refine zdE (show s1.heap.IsTuple a its.toArray from p) ?_;refine⟨s1.heap.objs.size,[s1.heap.objs.size],_,_,H1,rfl,d.kept (t':=s1.toks) λb o e=>zac _ e,Tq a _,⟨_,zad _ rfl,rfl,rfl⟩,λb l=>?_,q⟩;have e:b=s1.heap.objs.size:=by simpa using l
 subst e;exact d.fpOk (zaj _) (d.hok.fresh (zaj _))
def C2:PV X tg (λx H R=>∃z,x=.str z/\R (Itv z.cps.size (Ec z)) H):=by
 intro pn s1 Y H1 x v R g j k;obtain⟨z,e,q⟩:=k;subst e;obtain⟨t,rfl⟩:=j;have a:∀(T:String),(∀A:Around,A.handled=none->Walks X.prog X.w A s1.heap.objs.size [s1.heap.objs.size] [s1.heap.objs.size] z.cps.size (SignAt z) (λi h=>h.IsStrIter s1.heap.objs.size T z t i)) ->
   (∀(A:Around)(i:Nat)(s:Shared)(Q:Value->Shared->Prop)(xs:Value->Shared->Prop),s.heap.IsStrIter s1.heap.objs.size T z t i->Q (.ref s1.heap.objs.size) s->wpAny (model X.prog X.w) A (pyIter (.ref s1.heap.objs.size)) Q xs s) ->
   ["enumerate","zip","dict_itemiterator","dict_reverseitemiterator","odict_iterator","itertools.zip_longest","itertools.pairwise"].contains T=false ->
   PIE X pn Y tg R (.ref s1.heap.objs.size) {s1 with heap:=s1.heap.push {cls:=.type T,data:=.fields #[.str z t,.int 0 0]}}:=λT W l hT=>by
  have y:Inv X pn Y H1 {s1 with heap:=s1.heap.push {cls:=.type T,data:=.fields #[.str z t,.int 0 0]}}:=g.kept (t':=s1.toks) λb u e=>zac _ e;refine⟨s1.heap.objs.size,[s1.heap.objs.size],_,_,H1,rfl,y,Ng W l hT,⟨_,zad _ rfl,rfl,rfl⟩,λb r=>?_,q⟩;have e:b=s1.heap.objs.size:=by simpa using r
  subst e;exact g.fpOk (zaj _) g.fresh
 cases ha:z.cps.all (·<128)
 ·exact wpAny_pyIter_wide ha (a "str_iterator" (λA d=>Walks.strWide d _ z t) (λA i s Q xs st q=>wpAny_pyIter_striter_wide st q) aB)
 exact wpAny_pyIter_ascii ha (a "str_ascii_iterator" (λA d=>Walks.strAscii d _ z t) (λA i s Q xs st q=>wpAny_pyIter_striter_ascii st q) aB)
noncomputable def Jd:D->Option (List D)
 |.lst S=>some S
 |.tup S=>some S
 |.scr ns=>some (ns.map D.int)
 |.str z=>some (z.cps.toList.map λc=>D.str ⟨#[c]⟩)
 |_=>none
def iSeq(te:TD):TID:=λU M=>te U λr=>(match r.k with|.own=>False|_=>True)/\match Jd r.d with
 |some S=>M S
 |none=>False
def Bp{K:W.Frag}{a:Addr}{S:List D}:ItD K (Itl K a) S (λH O=>∃E,H a=some (.lst E)/\a∉O/\Reps K H O S E) where
 go:=λH O i d ⟨E,q,n,r⟩ e=>by
  obtain⟨v,j,k⟩:=r.get e;refine⟨⟨E,v,SqL.of q,j⟩,λx H' y=>?_⟩;obtain⟨e1,y⟩:=y;subst e1;have:=y E (SqL.of q);rw[j]at this;cases this;exact⟨Same.refl _,k⟩
 stop:=λH O ⟨E,q,n,r⟩=>⟨E,SqL.of q,by rw[r.length];exact zaj _⟩
 keep:=λO O' H H' ⟨E,q,n,r⟩ g=>⟨E,(g.keep _ _ q n).1,(g.keep _ _ q n).2,zj.grow g _ _ r⟩
def Bm{K:W.Frag}{a:Addr}{S:List D}:ItD K (Itt K a) S (λH O=>∃E,SqT K H a E/\Reps K H O S E) where
 go:=λH O i d ⟨E,q,r⟩ e=>by
  obtain⟨v,j,k⟩:=r.get e;refine⟨⟨E,v,q,j⟩,λx H' y=>?_⟩;obtain⟨e1,y⟩:=y;subst e1;have:=y E q;rw[j]at this;cases this;exact⟨Same.refl _,k⟩
 stop:=λH O ⟨E,q,r⟩=>⟨E,q,by rw[r.length];exact zaj _⟩
 keep:=λO O' H H' ⟨E,q,r⟩ g=>⟨E,Q1 g.tups g.frzs q,zj.grow g _ _ r⟩
def Bo{K:W.Frag}{a:Addr}{ns:List Int}:ItD K (Itl K a) (ns.map D.int) (λH _=>Scr K H a ns) where
 go:=λH O i d q e=>by
  rw[zai]at e;cases en:ns[i]? with
  |none=>rw[en]at e;cases e
  |some n =>
   rw[en]at e;cases e;have j:(ns.map V.int)[i]?=some (.int n):=by rw[zai,en];rfl
   refine⟨⟨_,_,q.seq,j⟩,λx H' y=>?_⟩;obtain⟨e1,y⟩:=y;subst e1;have:=y _ q.seq;rw[j]at this;cases this;exact⟨Same.refl _,rfl⟩
 stop:=λH O q=>⟨_,q.seq,by rw[zLm,zLm];exact zaj _⟩
 keep:=λO O' H H' q g=>U5 g.frzs q
def Bn{K:W.Frag}{z:Str}:ItD K (Itv z.cps.size (Ec z)) (z.cps.toList.map λc=>D.str ⟨#[c]⟩) (λ_ _=>True) where
 go:=λH O i d _ e=>by
  rw[zai]at e;cases en:z.cps.toList[i]? with
  |none=>rw[en]at e;cases e
  |some n =>
   rw[en]at e;cases e;have hl:=(zag.mp en).1;refine⟨(show i<z.cps.size by simpa using hl),λx H' y=>?_⟩
   obtain⟨e1,c,a,ex⟩:=y;subst e1 ex;have:z.cps.toList[i]?=some c:=by rw[zfF];exact a
   rw[en]at this;cases this;exact⟨Same.refl _,rfl⟩
 stop:=λH O _=>by show _=_;simp
 keep:=λ_ _ _ _ _ _=>trivial
noncomputable def rngD(lo:Int)(n:Nat):List D:=(List.range n).map λ(i:Nat)=>D.int (lo+(i:Int))
def Je{K:W.Frag}{lo:Int}{n:Nat}:ItD K (Itr lo n) (rngD lo n) (λ_ _=>True) where
 go:=λH O i d _ e=>by
  unfold rngD at e;rw[zai]at e;cases en:(List.range n)[i]? with
  |none=>rw[en]at e;cases e
  |some m =>
   rw[en]at e;cases e;have hl:=(zag.mp en).1;rw[zbM]at hl;have:m=i:=by
    rw[List.getElem?_range hl]at en;exact(zaM en).symm
   subst this;refine⟨hl,λx H' y=>?_⟩;obtain⟨e1,ex⟩:=y;subst e1 ex;exact⟨Same.refl _,rfl⟩
 stop:=λH O _=>by show n<=_;unfold rngD;simp
 keep:=λ_ _ _ _ _ _=>trivial
def PV.or{r d:V->Hp->(It->Hp->Prop)->Prop}(h:PV X tg r)(h':PV X tg d):PV X tg (λx H R=>r x H R\/d x H R):=λpn s Y H x v R I a q=>q.elim (h pn s Y H x v R I a) (h' pn s Y H x v R I a)
def xo(u:ED L X e te):EI L X tg e (iSeq te):=λH_=>impI (z0z (u H_) (Gb.or (C1.or C2))) λY H R q=>by
 obtain⟨U,o,x,M,j,k⟩:=q;refine⟨U,o,x,_,j,λv r H1 s1 l h1=>?_⟩;obtain⟨h0,h1⟩:=h1;have g:=l.solid (uf h0);obtain⟨kd,d⟩:=r;cases d with
 |lst S =>
  obtain⟨a,E,rfl,q,n,r⟩:=g;exact .inl ⟨a,rfl,⟨E,SqL.of q⟩,k _ _ _ H1 s1 Bp ⟨E,q,n,r⟩ h1⟩
 |tup S =>
  obtain⟨a,E,rfl,q,r⟩:=g;exact .inr (.inl ⟨a,rfl,⟨E,q.1⟩,k _ _ _ H1 s1 Bm ⟨E,q.1,r⟩ h1⟩)
 |scr ns =>
  obtain⟨a,rfl,q⟩:=g;exact .inl ⟨a,rfl,⟨_,q.seq⟩,k _ _ _ H1 s1 Bo q h1⟩
 |str z =>
  cases (show v=_ from g)
  exact .inr (.inr ⟨z,rfl,k _ _ _ H1 s1 Bn trivial h1⟩)
 |_=>exact h1.elim
def iR1(t:TDs):TID:=λU M=>t U λrs=>match rs with
 |[⟨_,.int j⟩]=>-(2 ^ 62)<=j/\j<2 ^ 62/\M (rngD 0 j.toNat)
 |_=>False
def iR2(t:TDs):TID:=λU M=>t U λrs=>match rs with
 |[⟨_,.int i⟩,⟨_,.int j⟩]=>(-(2 ^ 62)<=i/\i<2 ^ 62/\-(2 ^ 62)<=j/\j<2 ^ 62)/\M (rngD i (j-i).toNat)
 |_=>False
def vn{a:Expr}(r:X.mg "range" = none)(x:EA L X [a] t)(u:autoParam (Gl X "range") zSr)(l:autoParam (starEach [a] X.env=[(false,eval a X.env)]) zSr):EI L X tg (.Call (.Name "range" p) [a] [] pos) (iR1 t):=λH_=>impI (Qo u r (x H_) l) λY H R q=>by
 obtain⟨U,o,y,M,e,k⟩:=q;refine⟨U,o,y,_,e,λvs rs H1 s1 d h1=>?_⟩;split at h1
 ·rename_i kd j;obtain⟨v,z,rfl,g,rfl⟩:=d;cases (show v=_ from g.view);exact⟨j,rfl,h1.1,h1.2.1,k _ _ _ H1 s1 Je trivial h1.2.2⟩
 exact h1.elim
def Og{a b:Expr}(B:X.mg "range" = none)(G:EA L X [a,b] t)(D:autoParam (Gl X "range") zSr)(z:autoParam (starEach [a,b] X.env=[(false,eval a X.env),(false,eval b X.env)]) zSr)(l:autoParam (starEach [b] X.env=[(false,eval b X.env)]) zSr):EI L X tg (.Call (.Name "range" p) [a,b] [] pos) (iR2 t):=λH_=>impI (Qn D B (G H_) z l) λY H R q=>by
 obtain⟨U,o,I,M,g,k⟩:=q;refine⟨U,o,I,_,g,λvs rs H1 s1 d h1=>?_⟩;split at h1
 ·rename_i kd i y j;obtain⟨v,es,rfl,x,u,r,rfl,e,rfl⟩:=d;cases (show v=_ from x.view);cases (show u=_ from e.view);exact⟨i,j,rfl,h1.1,k _ _ _ H1 s1 Je trivial h1.2⟩
 exact h1.elim
end
section
variable{scope:Scope}{T F:List Str}{js:List Nat}{tg iter elt:Expr}{ifs:List Expr}{pos:Pos}{ti:TID}{g2:TG}{g:TGD}{tc:TDb}{te:TD}
noncomputable def ρ0(n:Nat)(js:List Nat)(U:DE):DE:=List.replicate n none++js.map λj=>slot U j
noncomputable def ixO(n:Nat)(js:List Nat)(j:Nat):Nat:=if j∈js then n+js.idxOf j else n+js.length+1+j
theorem Zy:∀{U:DE}{i:Nat}{r:EV},slot U i=some r ↔ U[i]?=some (some r)
 |[],_,_=>by simp[slot]
 |x::_,0,_=>by simp[slot]
 |_::l,i+1,r=>by rw[slot,zeS];exact Zy (U:=l)
def Tx{K:W.Frag}{H_ H H':Hp}{Y:St}{U:DE}{o:List (Nat×Addr)}{n:Nat}{js:List Nat}{D:Addr}{ys:List V}(R:REnv K H_ H Y U o)(O:js.Nodup)(G:H D=none)(s:Same H H')(x:H' D=some (.lst ys))(L:List Str)(hT:L.length=n) :
  REnv K H_ H' (st0 L js Y) (ρ0 n js U) ((n+js.length,D)::o.map λp=>(ixO n js p.1,p.2)):=by
 have es:((n+js.length,D)::o.map λp=>(ixO n js p.1,p.2)).map Prod.snd=D::o.map Prod.snd:=by
  rw[zaB,zbI];rfl
 have g:Grow (o.map Prod.snd) (D::o.map Prod.snd) H H':=⟨λb u h Q=>⟨s b u h,λz=>(zam.mp z).elim (λe=>zp h G e) Q⟩,λb E h=>s b _ h,λb N u h=>s b _ h⟩;have I:=R.to s;exact {
  same:=I.same
  fresh:=λp d=>by
   rcases zam.mp d with rfl|d
   ·exact R.same.free G
   obtain⟨q,y,rfl⟩:=zah.mp d;exact R.fresh q y
  trk:=λp d=>by
   rcases zam.mp d with rfl|d
   ·exact⟨_,x⟩
   obtain⟨q,y,rfl⟩:=zah.mp d;exact I.trk q y
  mtb:=λp d=>by
   rcases zam.mp d with rfl|d
   ·exact⟨(λE z=>by rw[x]at z;cases z),(λN u z=>by rw[x]at z;cases z)⟩
   obtain⟨q,y,rfl⟩:=zah.mp d;exact I.mtb q y
  nda:=by
   rw[es,zaQ];exact⟨R.ofree G,R.nda⟩
  len:=by
   unfold st0 ρ0;simp[hT]
  slots:=λi r e=>by
   rw[es];unfold ρ0 at e;have hi:n<=i:=by
    rcases zcQ i n with z|z
    ·rw[zaG (by simpa using z),zcA]at e
     split at e <;> cases e
    exact z
   rw[zaC (by simpa using hi),zbU,zai]at e
   cases ej:js[i-n]? with
   |none=>rw[ej]at e;cases e
   |some j =>
    rw[ej]at e;have e':slot U j=some r:=zaM e;obtain⟨v,Z,q⟩:=R.slots j r (wu e');refine⟨v,?_,?_⟩
    ·unfold st0;rw[zaC (by simpa [hT] using hi),zbU,zai,hT,ej]
     show some ((Y[j]?).join)=_;rw[Z];rfl
    rcases q with⟨k,q⟩|⟨k,a,e1,m,c⟩
    ·exact .inl ⟨k,RepN.grow g _ _ q⟩
    refine .inr ⟨k,a,e1,zal _ (zah.mpr ⟨_,m,?_⟩),c.grow (λu q=>s _ _ q) g⟩;have l:j∈js:=zan ej;have B:js.idxOf j=i-n:=by
     have h1:=(zag.mp ej);have h2:=List.getElem_idxOf (List.idxOf_lt_length_iff.mpr l);exact(List.getElem_inj O).mp (h2.trans h1.2.symm)
    show(ixO n js j,a)=(i,a);unfold ixO;rw[zaK l,B]
    congr 1
    lia}
def bYes:TDb:=λ_ M=>M true
def K2(ti:TID)(n:Nat)(js:List Nat)(g:TGD)(tc:TDb)(te:TD):TD:=λU M=>ti U λS=>∃f:D->Option D,S.length<=100000 /\
 (∀d∈S,g d (ρ0 n js U) λρ'=>tc ρ' λc=>(c=true->te ρ' λr=>(match r.k with|.own=>False|_=>True)/\f d=some r.d)/\(c=false->f d=none))/\M (df (.lst (S.filterMap f)))
def EIf(G:Hp->Prop)(X:Cx)(ifs:List Expr)(t:TDb):Prop:=∀H_:{H:Hp // G H},PIf X ifs (b8 X.K H_.1 t)
def wg:EIf L X [] bYes:=λH_ pn s Y H Q I h=>by
 obtain⟨U,o,R,M,a,k⟩:=h;exact Gj pn s Y H Q I (k true H (Same.refl H) a)
def k9{c:Expr}(h:ET L X c tc):EIf L X [c] tc:=λH_=>Gi (h H_)
def RV.anew{K:W.Frag}{H0 H:Hp}{O:List Addr}{r:EV}{v:V}(h:RV K H0 H O r v)(p:qm r):RepN K H (λa=>a∉O/\H0 a=none) r.d v:=by
 obtain⟨k,d⟩:=r;cases k with
 |val=>exact RepN.toN _ _ p h
 |own=>exact p.elim
 |new=>exact h
 |fre =>
  obtain⟨a,rfl,m,n,c⟩:=h;cases d with
  |lst S=>obtain⟨E,q,r⟩:=c;exact⟨a,E,rfl,q,⟨n,m⟩,zj.toN _ _ p r⟩
  |dk ks S=>obtain⟨E,q,l,e,r⟩:=c;exact⟨a,E,rfl,q,⟨n,m⟩,l,e,zj.toN _ _ p r⟩
  |_=>exact c.elim
def okP(b:Bool)(r:EV):Prop:=match b with
 |true=>qm r
 |false=>match r.k with
  |.own=>False
  |_=>True
noncomputable def kdP:Bool->Kd
 |true=>.new
 |false=>.fre
def z2g(b:Bool)(n:Nat)(js:List Nat)(g:TGD)(tc:TDb)(te:TD)(U:DE)(S:List D)(M:EV->Prop):Prop:=∃(P:Nat->List D->Prop)(A:Nat->List D->EV->Prop)(B:Nat->List D->Prop),S.length<=10000000/\P 0 [] /\
 (∀(i:Nat)(d:D)(J:List D),S[i]?=some d->J.length<=i->P i J->(g d (ρ0 n js U) λρ'=>tc ρ' λc=>(c=true->te ρ' (A i J))/\(c=false->B i J))/\(∀r,A i J r->okP b r/\P (i+1) (J++[r.d]))/\(B i J->P (i+1) J))/\∀J,P S.length J->M ⟨kdP b,.lst J⟩
def Zd{H_:Hp}{W:DE->List D->(EV->Prop)->Prop}(b:Bool)(nd:js.Nodup)(hl:jp X.K g2 g)(hW:∀ U S M,W U S M->z2g b T.length js g tc te U S M):∀Y H Q,qh X.K H_ (λU M=>ti U λS=>W U S M) Y H Q->Rt (Mx X.K H_ ti) T js g2 (b8 X.K H_ tc) (qh X.K H_ te) Y H Q:=λY H Q q=>by
  obtain⟨U,o,R,M,a4,k⟩:=q;refine⟨U,o,R,_,a4,λes S P H1 s1 I hP hw j a=>?_⟩;obtain⟨PP,PA,PB,a6,P0,N,a5⟩:=hW _ _ _ hw;have R1:=R.to s1;have gD:∀{H':Hp},Same H1 H'->Grow (o.map Prod.snd) (j::o.map Prod.snd) H1 H':=λs=>⟨λb u h nb=>⟨s b u h,λz=>(zam.mp z).elim (λe=>zp h a e) nb⟩,λb E h=>s b _ h,λb ob u h=>s b _ h⟩;refine⟨λi m ys H'=>m=S.length-i/\i<=S.length/\Same H1 H'/\H' j=some (.lst ys)/\∃J,J.length<=i/\PP i J/\zj X.K H' (λc=>c∉j::o.map Prod.snd/\(b=true->H1 c=none)) J ys,
   ⟨_,rfl,zcB _,y9 a _,zk,[],zaj _,P0,rfl⟩,?_⟩
  rintro i m ys H' ⟨rfl,a8,s2,B,J,le,pe,O⟩;refine⟨B,?_⟩;have V:=I.keep _ _ _ _ hP (gD s2);by_cases hlt:i<S.length
  ·have ed:S[i]?=some S[i]:=by simp[hlt]
   obtain⟨j1,j2⟩:=I.go H' _ i _ V ed;refine .inr ⟨j1,λzs H2=>Same H1 H2/\H2 j=some (.lst zs)/\∃J,J.length<=i+1/\PP (i+1) J/\zj X.K H2 (λc=>c∉j::o.map Prod.snd/\(b=true->H1 c=none)) J zs,λzs H2 ⟨a1,a2,a3⟩=>⟨_,(by lia:S.length-(i+1)<S.length-i),rfl,hlt,a1,a2,a3⟩,λx H2 y=>?_⟩
   obtain⟨s3,rx⟩:=j2 x H2 y;have l:=s2.trans s3;have a0:=s3 _ _ B;have hO:((T.length+js.length,j)::o.map λp=>(ixO T.length js p.1,p.2)).map Prod.snd=j::o.map Prod.snd:=by
    rw[zaB,zbI];rfl
   obtain⟨t1,t2,t3⟩:=N i _ J ed le pe;refine hl H_ H2 (st0 T js Y) (ρ0 T.length js U) _ _ x _ _ (Tx (n:=T.length) R1 nd a l a0 T rfl) (by rw[hO];exact rx) t1 λρ' a7 R' q'=>?_
   refine⟨ρ',_,R',_,q',λc H3 G h4=>?_⟩;have Z:=G _ _ a0;cases c with
   |false =>
    exact iteF ⟨l.trans G,Z,J,Nat.le_succ_of_le le,t3 (h4.2 rfl),zj.to (s3.trans G) aA _ _ O⟩
   |true =>
    refine iteT ⟨ρ',_,R'.to G,_,h4.1 rfl,λv r H4 s5 rv h5=>?_⟩;obtain⟨h5,h6⟩:=t2 r h5;have L:=s5 _ _ Z;have rd:RepN X.K H4 (λc=>c∉j::o.map Prod.snd/\(b=true->H1 c=none)) r.d v:=by
     cases b with
     |true=>exact RepN.to (Same.refl _) (λc z=>⟨hO▸z.1,λ_=>(l.trans G).free z.2⟩) _ _ (rv.anew h5)
     |false=>exact RepN.to (Same.refl _) (λc z=>⟨hO▸z,nofun⟩) _ _ (rv.solid (uf h5))
    refine⟨L,zdW (show ys.length<=10000000 by rw[O.length];lia) aB,⟨λb u h=>?_,zk,J++[r.d],by rw[zLa];exact Nat.succ_le_succ le,h6,?_⟩⟩
    ·rw[zx (zp h a)];exact s5 _ _ (G _ _ (l b u h))
    refine zj.go (λb E h=>?_) (λb ob u h=>?_) (λb u z h=>⟨?_,z⟩) _ _ ((zj.to (s3.trans (G.trans s5)) aA _ _ O).append (zj.one rd))
    ·rw[zx (λz=>by rw[z,L]at h;cases h)];exact h
    ·rw[zx (λz=>by rw[z,L]at h;cases h)];exact h
    rw[zx (λy=>z.1 (zam.mpr (.inl y)))];exact h
  have e:i=S.length:=by lia
  subst e;refine .inl ⟨I.stop H' _ V,?_⟩;refine k (.ref j) ⟨kdP b,.lst J⟩ H' (s1.trans s2) ?_ (a5 J pe);cases b with
  |true=>exact⟨j,ys,rfl,B,⟨R.ofree (s1.free a),s1.free a⟩,zj.to (Same.refl _) (λb z=>⟨λy=>z.1 (zal _ y),s1.free (z.2 rfl)⟩) _ _ O⟩
  |false=>exact⟨j,rfl,s1.free a,R.ofree (s1.free a),ys,B,zj.to (Same.refl _) (λb z=>z.1) _ _ O⟩
def Jq(b:Bool)(ti:TID)(n:Nat)(js:List Nat)(g:TGD)(tc:TDb)(te:TD):TD:=λU M=>ti U λS=>∃P:Nat->List D->Prop,S.length<=10000000/\P 0 [] /\
 (∀(i:Nat)(d:D)(J:List D),S[i]?=some d->J.length<=i->P i J->g d (ρ0 n js U) λρ'=>tc ρ' λc=>(c=true->te ρ' λr=>okP b r/\P (i+1) (J++[r.d]))/\(c=false->P (i+1) J))/\∀J,P S.length J->M ⟨kdP b,.lst J⟩
def Ze{H_:Hp}{b:Bool}(q:js.Nodup)(hl:jp X.K g2 g):∀Y H Q,qh X.K H_ (Jq b ti T.length js g tc te) Y H Q->Rt (Mx X.K H_ ti) T js g2 (b8 X.K H_ tc) (qh X.K H_ te) Y H Q :=
 Zd b q hl λU S M ⟨P,hl,k,a,j⟩=>⟨P,_,_,hl,k,λi d J e l p=>⟨a i d J e l p,λ_ h=>h,λh=>h⟩,j⟩
def Xl(k:js.Nodup)(hl:jp X.K g2 g):∀Y H Q,qh X.K H_ (K2 ti T.length js g tc te) Y H Q->Rt (Mx X.K H_ ti) T js g2 (b8 X.K H_ tc) (qh X.K H_ te) Y H Q :=
 Zd false k hl λU S M Zh=>by
  obtain⟨f,hl,a,j⟩:=Zh;refine⟨λi J=>J=(S.take i).filterMap f,λi J r=>okP false r/\(S[i]?).bind f=some r.d,λi J=>(S[i]?).bind f=none,zak hl aB,rfl,λi d J e _ p=>?_,λJ p=>?_⟩
  ·have l:(S[i]?).bind f=f d:=by rw[e];rfl
   have tk:(S.take (i+1)).filterMap f=J++(f d).toList:=by
    rw[show J=_ from p,zfD,e,zfG];cases e:f d <;> simp[e]
   dsimp only
   rw[tk,l];exact⟨a d (zan e),λr h=>⟨h.1,by rw[h.2];rfl⟩,λh=>by rw[h];simp⟩
  rw[show J=_ from p,zdS];exact j
def sk(hi:EI L X tg iter ti)(ds:y0 X.env.scope scope T F)(a:Paired (λx j=>X.N[j]?=some x) F js)(d:js.Nodup)(q:∀ cl C fp s H,PG (x6 X (T++F) scope cl C fp s H) tg g2)(l:bq T.length g2)(hl:jp X.K g2 g)(e:∀ cl C fp s H,EIf L (x6 X (T++F) scope cl C fp s H) ifs tc)(r:∀ cl C fp s H,ED L (x6 X (T++F) scope cl C fp s H) elt te)(u:autoParam (X.calm=true) zSr)(k:∀ x,foldedSetIterable iter X.env x=pure x:=by intro _;rfl):ED L X (.ListComp elt [⟨tg,iter,ifs,0⟩] scope pos) (K2 ti T.length js g tc te):=λH_ =>
 impE (Qu (tc:=b8 X.K H_.1 tc) (te:=qh X.K H_.1 te) u (hi H_) ds a q l (λcl C fp s H=>e cl C fp s H H_) (λcl C fp s H=>r cl C fp s H H_) k) (Xl d hl)
def rn(i:Nat)(V:X.N.Nodup)(hi:EI L X tg iter ti)(ds:y0 X.env.scope scope T F)(e:Paired (λx j=>X.N[j]?=some x) F js)(l:js.Nodup)(I:∀ cl C fp s H,PG (x6 X (T++F) scope cl C fp s H) tg g2)(G:bq T.length g2)(hl:jp X.K g2 g)(z:∀ cl C fp s H,EIf L (x6 X (T++F) scope cl C fp s H) ifs tc)(es:∀ cl C fp s H,ED L (x6 X (T++F) scope cl C fp s H) elt te)(O:autoParam (X.calm=true) zSr)(B:∀ x,foldedSetIterable iter X.env x=pure x:=by intro _;rfl)(u:autoParam (X.N[i]?=some y) zSr)(a:autoParam (X.env.scope.names.lookup y=some .local) zSr)(d:autoParam (swapsWith (.ListComp elt [⟨tg,iter,ifs,0⟩] scope pos) (some (.Name y py)) spos.line X.env=pure true) zSr):SD L X (.Assign [.Name y py] (.ListComp elt [⟨tg,iter,ifs,0⟩] scope pos) spos) (sSet i (K2 ti T.length js g tc te)):=λH_ =>
 impS (Z8 (tc:=b8 X.K H_.1 tc) (te:=qh X.K H_.1 te) O V u (.inl a) (hi H_) ds e I G (λcl C fp s H=>z cl C fp s H H_) (λcl C fp s H=>es cl C fp s H H_) d B (.inr a)) λD Y H h=>by
  obtain⟨U,o,R,Z,Q,q,k2,k3,k4⟩:=h;refine Xl l hl Y H _ ⟨U,o,R,_,Q,λv r H1 s1 k h1=>?_⟩;obtain⟨o',W,g'⟩:=R.put s1 i k (uf h1.1);exact q _ _ H1 o' g' W h1.2
end
section
variable{x:Str}{e a b:Expr}{J:List Expr}{t:TDs}{p pos:Pos}
structure Kit(K:W.Frag):Prop where
 ne:∀q∈([("NoneType","int"),("NoneType","bool"),("NoneType","str"),("NoneType","tuple"),("NoneType","list"),("NoneType","dict"),("bool","str"),("bool","tuple"),("bool","list"),("bool","dict"),
  ("int","bool"),("int","str"),("int","tuple"),("int","list"),("int","dict"),("str","int"),("str","bool"),("str","tuple"),("str","list"),("str","dict"),
  ("tuple","int"),("tuple","bool"),("tuple","str"),("tuple","list"),("tuple","dict"),("list","int"),("list","bool"),("list","str"),("list","tuple"),("list","dict"),
  ("dict","int"),("dict","bool"),("dict","str"),("dict","tuple"),("dict","list")]:List (String×String)),W.kitOne K (.type q.1) (.type q.2)=some false
 bi:W.kitOne K (.type "bool") (.type "int")=some true
def Pk{K:W.Frag}:Kit K:=by
 constructor
 ·intro q a;simp only[zam,zaW,zdN]at a;rcases a with rfl|rfl|rfl|rfl|rfl|rfl|rfl|rfl|rfl|rfl|rfl|rfl|rfl|rfl|rfl|rfl|rfl|rfl|rfl|rfl|rfl|rfl|rfl|rfl|rfl|rfl|rfl|rfl|rfl|rfl|rfl|rfl|rfl|rfl|rfl <;> kernel_rfl
 kernel_rfl
def L6{K:W.Frag}{T:String}:W.kitOne K (.type T) (.type T)=some true:=by
 unfold W.kitOne;rw[zaK aE]
def Wg:bootBuiltins "str" = some (.type "str"):=by decide +kernel
def jo:bootBuiltins "int" = some (.type "int"):=by decide +kernel
def t7:bootBuiltins "bool" = some (.type "bool"):=by decide +kernel
def xm:bootBuiltins "tuple" = some (.type "tuple"):=by decide +kernel
def g6:bootBuiltins "list" = some (.type "list"):=by decide +kernel
def boot_dict':bootBuiltins "dict" = some (.type "dict"):=by decide +kernel
def gu:bootBuiltins "isinstance" = some (.builtin "isinstance"):=by decide +kernel
def Bc{K:W.Frag}(a T:String)(h:(a,T)∈([("NoneType","int"),("NoneType","bool"),("NoneType","str"),("NoneType","tuple"),("NoneType","list"),("NoneType","dict"),("bool","str"),("bool","tuple"),("bool","list"),("bool","dict"),
  ("int","bool"),("int","str"),("int","tuple"),("int","list"),("int","dict"),("str","int"),("str","bool"),("str","tuple"),("str","list"),("str","dict"),
  ("tuple","int"),("tuple","bool"),("tuple","str"),("tuple","list"),("tuple","dict"),("list","int"),("list","bool"),("list","str"),("list","tuple"),("list","dict"),
  ("dict","int"),("dict","bool"),("dict","str"),("dict","tuple"),("dict","list")]:List (String×String))):W.kitOne K (.type a) (.type T)=some false:=Pk.ne (a,T) h
noncomputable def Ke:D->String
 |.non=>"NoneType"
 |.bl _=>"bool"
 |.int _=>"int"
 |.str _=>"str"
 |.tup _=>"tuple"
 |.lst _=>"list"
 |.dk _ _=>"dict"
 |.ty _=>"type"
 |.scr _=>"list"
 |.fo _=>"exc"
 |.sx _=>"exc"
 |.ob _ _ _=>"exc"
noncomputable def L7:List (String×String):=[("NoneType","int"),("NoneType","bool"),("NoneType","str"),("NoneType","tuple"),("NoneType","list"),("NoneType","dict"),("bool","str"),("bool","tuple"),("bool","list"),("bool","dict"),
  ("int","bool"),("int","str"),("int","tuple"),("int","list"),("int","dict"),("str","int"),("str","bool"),("str","tuple"),("str","list"),("str","dict"),
  ("tuple","int"),("tuple","bool"),("tuple","str"),("tuple","list"),("tuple","dict"),("list","int"),("list","bool"),("list","str"),("list","tuple"),("list","dict"),
  ("dict","int"),("dict","bool"),("dict","str"),("dict","tuple"),("dict","list")]
noncomputable def isN(a T:String):Option Bool:=if a=T then some true else if a = "bool"/\T = "int" then some true else if (a,T)∈L7 then some false else none
noncomputable def isT(d:D)(T:String):Option Bool:=match d with
 |.ty _=>none
 |.scr _=>none
 |.fo _=>none
 |.sx _=>none
 |.ob _ _ _=>none
 |d=>isN (Ke d) T
def Fg{K:W.Frag}{a T:String}{b:Bool}(h:isN a T=some b):W.kitOne K (.type a) (.type T)=some b:=by
 unfold isN at h;split at h
 ·rename_i q;cases h;subst q;exact L6
 split at h
 ·rename_i q;cases h;obtain⟨rfl,rfl⟩:=q;exact Pk.bi
 split at h
 ·rename_i q;cases h;exact Bc a T q
 cases h
def Ff{K:W.Frag}{d:D}{T:String}{b:Bool}(h:isT d T=some b):W.kitOne K (.type (Ke d)) (.type T)=some b:=by
 cases d with
 |ty _=>cases h
 |scr _=>cases h
 |fo _=>cases h
 |sx _=>cases h
 |ob _ _ _=>cases h
 |_=>exact Fg h
def k5(b:Bool):isT (.bl b) "bool" = some true:=(aB:isN "bool" "bool" = some true)
def c4(i:Int):isT (.int i) "int" = some true:=(aB:isN "int" "int" = some true)
def gh(i:Int):isT (.int i) "bool" = some false:=(aB:isN "int" "bool" = some false)
def qz(x:Str):isT (.str x) "str" = some true:=(aB:isN "str" "str" = some true)
def xa(l:List D):isT (.tup l) "tuple" = some true:=(aB:isN "tuple" "tuple" = some true)
def sy(l:List D):isT (.lst l) "list" = some true:=(aB:isN "list" "list" = some true)
def K4:t8 X (.builtin "isinstance") (λE H Q=>∃d x T b,E=[x,.ty T]/\Rep X.K H [] d x/\isT d T=some b/\Q (.bl b) H):=by
 intro pn s Y H E us Q I r h;obtain⟨d,x,T,b,rfl,k,e,q⟩:=h;obtain⟨u,v,rfl,j,B⟩:=Jz r;cases B;have l:=Ff (K:=X.K) e;have g:∀tk,EP X pn Y Q (.bool b) {s with toks:=tk}:=λtk=>⟨.bl b,H,I.tok tk,rfl,q⟩;cases d with
 |non=>cases (show x=_ from k);exact uy I j .non l g
 |bl c=>cases (show x=_ from k);exact uy I j (.bl c) l g
 |int c=>cases (show x=_ from k);exact uy I j (.int c) l g
 |str c=>cases (show x=_ from k);exact uy I j (.str c) l g
 |ty _=>cases e
 |scr _=>cases e
 |fo _=>cases e
 |sx _=>cases e
 |ob _ _ _=>cases e
 |lst S=>obtain⟨a,E,rfl,y,_⟩:=k;exact uy I j (.lst y) l g
 |dk ks S=>obtain⟨a,E,rfl,y,_⟩:=k;exact uy I j (.dK y) l g
 |tup S =>
  obtain⟨a,E,rfl,y,_⟩:=k;cases (show u=Value.ref a from j);obtain⟨its,_,p,_⟩:=I.tuple y.1;obtain⟨o,h1,h2,_⟩:=p;exact zdX W.kitx_tuple I.kIn ⟨o,h1,h2⟩ l nofun g
def sIsI:FT:=λS M=>match S with
 |[d,.ty T]=>match isT d T with
  |some b=>M (dv (.bl b))
  |none=>False
 |_=>False
def yh(q:X.mg "isinstance" = none)(x:EA L X (e::J) t)(r:autoParam (Gl X "isinstance") zSr)(u:autoParam (S_ X e J) zSr)(a:autoParam (B_ X J pos) zSr):ED L X (.Call (.Name "isinstance" p) (e::J) [] pos) (dCB sIsI t) :=
 qg K4 (λH O S vs M Q ho l h k=>by
  unfold sIsI at h;split at h
  ·split at h
   ·rename_i d T b y;obtain⟨v,z,rfl,h1,j,g,rfl,h2,rfl⟩:=l;cases (show j=_ from h2);exact⟨_,v,_,_,rfl,h1.rep0,y,k _ _ H (Same.refl H) aH h⟩
   exact h.elim
  exact h.elim) q gu x r aB aB u a
def sTupC:FT:=λS M=>match S with
 |[.lst l]=>M (dv (.tup l))
 |[.tup l]=>M (dv (.tup l))
 |_=>False
def wk(u:X.mg "tuple" = none)(z:EA L X (e::J) t)(x:autoParam (Gl X "tuple") zSr)(y:autoParam (S_ X e J) zSr)(d:autoParam (B_ X J pos) zSr):ED L X (.Call (.Name "tuple" p) (e::J) [] pos) (dCB sTupC t) :=
 jm Yt (λH O S vs M Q ho g h k=>by
  unfold sTupC at h;split at h
  ·obtain⟨v,j,rfl,⟨a,E,rfl,q,r⟩,rfl⟩:=g;exact⟨a,E,rfl,.inl ⟨SqL.of q,λl hl=>k _ _ _ (y9 hl _) (X8 hl r) h⟩⟩
  ·obtain⟨v,j,rfl,⟨a,E,rfl,q,r⟩,rfl⟩:=g;exact⟨a,E,rfl,.inr ⟨q.1,k (.ref a) (dv (.tup _)) H (Same.refl H) ⟨a,E,rfl,q,r⟩ h⟩⟩
  exact h.elim) u xm z x aB aB y d
def sListC:FT:=λS M=>match S with
 |[.lst l]=>M (df (.lst l))
 |[.tup l]=>M (df (.lst l))
 |_=>False
def jj(u:X.mg "list" = none)(z:EA L X (e::J) t)(x:autoParam (Gl X "list") zSr)(y:autoParam (S_ X e J) zSr)(d:autoParam (B_ X J pos) zSr):ED L X (.Call (.Name "list" p) (e::J) [] pos) (dCB sListC t) :=
 jm Wc (λH O S vs M Q ho g h k=>by
  unfold sListC at h;split at h
  ·obtain⟨v,j,rfl,⟨a,E,rfl,q,r⟩,rfl⟩:=g;exact⟨a,E,rfl,.inl (SqL.of q),λl hl=>k _ _ _ (y9 hl _) (qj ho hl r) h⟩
  ·obtain⟨v,j,rfl,⟨a,E,rfl,q,r⟩,rfl⟩:=g;exact⟨a,E,rfl,.inr q.1,λl hl=>k _ _ _ (y9 hl _) (qj ho hl r) h⟩
  exact h.elim) u g6 z x aB aB y d
def sIntC:FT:=λS M=>match S with
 |[.bl b]=>M (dv (.int (if b then 1 else 0)))
 |[.int i]=>M (dv (.int i))
 |_=>False
def Vq(j:X.mg "int" = none)(r:EA L X (e::J) t)(l:autoParam (Gl X "int") zSr)(q:autoParam (S_ X e J) zSr)(a:autoParam (B_ X J pos) zSr):ED L X (.Call (.Name "int" p) (e::J) [] pos) (dCB sIntC t) :=
 jm N2 (λH O S vs M Q ho d h k=>by
  unfold sIntC at h;split at h
  ·obtain⟨v,g,rfl,h1,rfl⟩:=d;cases (show v=_ from h1);exact .inr ⟨_,rfl,k _ _ H (Same.refl H) aH h⟩
  ·obtain⟨v,g,rfl,h1,rfl⟩:=d;cases (show v=_ from h1);exact .inl ⟨_,rfl,k _ _ H (Same.refl H) aH h⟩
  exact h.elim) j jo r l aB aB q a
end
section
variable{x:Str}{e:Expr}{te:TD}{apos np cpos pos:Pos}
def sApp(i:Nat)(te:TD):TDS:=λU Z=>match slot U i with
 |some ⟨.own,.lst S⟩=>te U λr=>(match r.k with|.own=>False|_=>True)/\S.length<=100000/\Z.nx (setS U i (dO (.lst (S++[r.d]))))
 |_=>False
def wv(i:Nat)(W:ED L X e te)(hN:autoParam (X.N[i]?=some x) zSr)(O:Vis X.env.scope x:=by walk_at "o")(hd:autoParam (D_ x) zSd)(u:autoParam ((x==("__classdict__" : Str))=false) zSd)(Q:∀ {ta tb:TE},PE X (.Name x np) ta->PE X e tb->PS X (.Expr (.Call (.Attribute (.Name x np) "append" apos) [e] [] cpos) pos) (Tv (tBM X.K "list" Wx ta (Rr tb tNil))):=by
   intro ta tb h1 h2;exact qu (Qx zcM PySem.F.slot_list_append PySem.F.type_list_append di h1 (vz h2 su))) :
  SD L X (.Expr (.Call (.Attribute (.Name x np) "append" apos) [e] [] cpos) pos) (sApp i te):=λH_=>impS (Q (uv hN O hd u) (W H_)) λD Y H h=>by
 obtain⟨U,o,R,Z,j,es,k2,k3,k4⟩:=h;unfold sApp at j;split at j
 ·rename_i S J;obtain⟨v0,g,I⟩:=R.slots i _ (wu J);rcases I with⟨k,_⟩|⟨_,a,rfl,m,c⟩
  ·cases k
  obtain⟨E,B,y⟩:=c;refine⟨.ref a,g,.inl ⟨rfl,E,SqL.of B⟩,?_⟩;refine⟨U,o,R,_,j,λv r H1 s1 G h1=>?_⟩;obtain⟨h0,hl,V⟩:=h1;have q:=s1 _ _ B;have R1:=R.to s1;have l:=zj.grow (Grow.same s1) _ _ y;refine⟨a,E,v,rfl,rfl,q,?_,?_⟩
  ·rw[y.length];exact zdW hl aB
  obtain⟨R2,g2⟩:=R1.chg (d':=.lst (S++[r.d])) (ho:=.lst (E++[v])) (wu J) g m ⟨λ_ z=>(by cases z),λ_ _ z=>(by cases z)⟩ λgr=>⟨E++[v],zk,gr _ _ (l.append (zj.one (G.solid (uf h0))))⟩
  exact es _ Y _ o ((Grow.same s1).trans g2) R2 V
 exact j.elim
end
variable{P:Program}
noncomputable def wo(n:Nat)(S:List D):DE:=S.map (λd=>some (dv d))++List.replicate (n-S.length) none
def O2{x a:Str}{st:Stmt}{f:Addr}{fd:FuncData}{N ps:List Str}{k:Nat}{T:FT}(F:Fun K x a st f fd)(ds:zo N ps (zd st))(B:∀ (qZ:Value) (A:Around) (outer:List Env) (s:Shared) (H:Hp) (xs:XK) (S:List D) (M:EV->Prop),Room k (A.deeper (envOfC a (zd st) s.heap.objs.size f qZ))->S.length=ps.length->T S M ->
   ∃ t,SDs (λ_=>True) (cxOf CX0 P w K mg base N a (zd st) f qZ A outer s H xs).nox (yu st) t/\t (wo N.length S) {nx:=λ_=>M (dv .non),rt:=λr=>qm r/\M r}):FnOk P w K mg base CX0 (k+1) f fd ps (spD K ps.length T):=by
 refine F.ok ds (λvs H Q xs h=>?_) (λqZ A outer s H vs Q xs hr h=>?_)
 ·obtain⟨S,M,hl,r,_⟩:=h;rw[r.length,hl]
 obtain⟨S,M,hl,r,hT,l⟩:=h;obtain⟨t,G,I⟩:=B qZ A outer s H xs S M hr hl hT;have j:=r.length;refine⟨Ph K H t,G ⟨H,zaA⟩,wo N.length S,[],⟨Same.refl H,(λ_ z=>absurd z aE),(λ_ z=>absurd z aE),(λ_ z=>absurd z aE),zcK,λi r' e=>?_,?_⟩,_,I,λρ' y H' o' g O q=>?_,λ_ _ _ _ _ _ q=>q.elim,λ_ _ _ _ _ _ q=>q.elim,λv r' H' s' d q=>l v r' H' s' d q.1 q.2⟩
 ·unfold wo at e;rcases zcQ i S.length with hi|hi
  ·rw[zaG (by simpa using hi),zai]at e
   have u:S[i]?=some S[i]:=by simp[hi]
   rw[u]at e;have L:some (dv S[i])=some r':=zaM e;cases L;obtain⟨v,es,d⟩:=r.get u;refine⟨v,?_,.inl ⟨rfl,d⟩⟩;unfold ZZ.start;rw[zaG (by rw[zLm,j];exact hi),zai,es]
   rfl
  rw[zaC (by simpa using hi),zcA]at e
  split at e <;> cases e
 ·unfold ZZ.start wo;simp[j]
 exact l .non (dv .non) H' O.same rfl trivial q
def ve{x a:Str}{st:Stmt}{f:Addr}{fd:FuncData}{N ps:List Str}{k:Nat}{T:FT}(F:Fun K x a st f fd)(ds:zo N ps (zd st))(b:um K fd ps [])(m:mg x=some (.ref f))(d:∀ (qZ:Value) (A:Around) (outer:List Env) (s:Shared) (H:Hp) (xs:XK) (S:List D) (M:EV->Prop),Room k (A.deeper (envOfC a (zd st) s.heap.objs.size f qZ))->S.length=ps.length->T S M ->
   ∃ t,SDs (λ_=>True) (cxOf CX0 P w K mg base N a (zd st) f qZ A outer s H xs).nox (yu st) t/\t (wo N.length S) {nx:=λ_=>M (dv .non),rt:=λr=>qm r/\M r}):FD P w K mg base (k+1) x ps T:=⟨f,fd,O2 F ds d,b,F.kp,m⟩
def lawT:FT:=λS M=>∃ns:List Int,S=[.scr ns]/\ns.length<=63/\M (dv (.bl true))
def walkD{l:W.OpenLaw}{XP:(Str->Option Value)->Heap->Prop}{YP:World->Heap->Prop}{d:DefRec}{K:Params->W.Frag}{x:Str}{k:Nat}(y:l.most=some 63)(g:d.params.defaults=[])(hr:Room k callerA)(B:∀ (w:World) (h:Heap),YP w h->(K w.params).In h)(F:∀ (w:World) (mg:Str->Option Value) (fa:Addr) (h:Heap),(K w.params).In h->h.Ns mainGlobals mg->mg d.name=some (.ref fa) ->
   ∃ fd:FuncData,(∀ (s:Shared) (u:Value),BindsTo s fd ⟨[u],[]⟩ [(x,u)])/\∀ base:Heap,(K w.params).In base->base.Ns mainGlobals mg->FnOk l.prog w (K w.params) mg base CX0 k fa fd [x] (spD (K w.params) 1 lawT)) :
  W.WalkO q loose XP YP l.row.toRowW d [] (λf vs=>PySem.call f vs) :=
 ZZ.walk_of (n:=63) (k:=k) (x:=x) (CX:=λ_=>CX0) (sp:=λw=>spD (K w.params) 1 lawT) y aB g hr B F (λw H a ns hl ho D=>by
  refine⟨[.scr ns],λr=>r=dv (.bl true),rfl,⟨.ref a,[],rfl,⟨a,rfl,?_⟩,rfl⟩,⟨ns,rfl,hl,rfl⟩,λv r H' s j p e=>by subst e;exact j⟩
  rcases D with(h|⟨o,h⟩)|h
  ·rcases ho a with z|⟨o,E,z⟩
   ·rw[z]at h;cases h
   rw[z]at h;cases h
  ·exact .inl ⟨o,h⟩
  exact .inr h) λ_ _ _ _ _ z=>z
def Sa{E:Array Value}{x:Value}(hi:s.heap.IsTupleIter it l i)(hl:s.heap.IsTuple l E)(j:E[i]?=some x)(q:∀ g,g.IsTupleIter it l (i+1)->Heap.SameBut it s.heap g->Q x {s with heap:=g}):wpAny (model P w) A (Builtin.SmallTypes.nextOf (.ref it)) Q xs s:=by
 obtain⟨o,ho,k,a⟩:=id hi;obtain⟨r,d,_,u,e⟩:=hl;unfold Builtin.SmallTypes.nextOf;refine zaa (zbC (name:=Str.ofString "__next__") hi.typeIs zdC (zbK zdC hi.typeIs F.entry_tuple_iterator_next ?_ (F.args_tuple_iterator_next_1 _)));show wpAny _ _ (field (.ref it) 0 >>= _) _ _ s;refine zaa (zbB ho a (x:=.ref l) rfl ?_);show wpAny _ _ (if (Value.ref l==Value.none)=true then _ else _) _ _ s
 rw[zaJ (show ¬ ((Value.ref l==Value.none)=true) from zaU)];show wpAny _ _ (field (.ref it) 1 >>= _) _ _ s;refine zaa (zbB ho a (x:=.int i 0) rfl ?_);show wpAny _ _ (seqItems? (.ref l) >>= _) _ _ s;refine zaa (zcD d e ?_);simp only[zbD,j];refine zaa (zfE ho a aE (zab ⟨x,rfl,zab (q _ ⟨_,zdZ _ ho (zfH (zdG a _)),(Obj.cls_mapFields ..).trans k,?_⟩ (zcJ ..))⟩))
 rw[zdG a];simp[rawInt]
def P9{E:Array Value}(q:A.handled=none)(hi:s.heap.IsTupleIter it l i)(hl:s.heap.IsTuple l E)(r:E[i]?=none)(u:∀ g e,Heap.ExtBut it s.heap g->(∃ o,g.get? e=some o/\o.cls=.type "StopIteration")->xs (.ref e) {s with heap:=g}):wpAny (model P w) A (Builtin.SmallTypes.nextOf (.ref it)) Q xs s:=by
 obtain⟨o,ho,z,k⟩:=id hi;obtain⟨v,d,_,y,j⟩:=hl;unfold Builtin.SmallTypes.nextOf;refine zaa (zbC (name:=Str.ofString "__next__") hi.typeIs zdC (zbK zdC hi.typeIs F.entry_tuple_iterator_next ?_ (F.args_tuple_iterator_next_1 _)));show wpAny _ _ (field (.ref it) 0 >>= _) _ _ s;refine zaa (zbB ho k (x:=.ref l) rfl ?_);show wpAny _ _ (if (Value.ref l==Value.none)=true then _ else _) _ _ s
 rw[zaJ (show ¬ ((Value.ref l==Value.none)=true) from zaU)];show wpAny _ _ (field (.ref it) 1 >>= _) _ _ s;refine zaa (zbB ho k (x:=.int i 0) rfl ?_);show wpAny _ _ (seqItems? (.ref l) >>= _) _ _ s;refine zaa (zcD d j ?_);simp only[zbD,r];refine zaa (zfR (zaa (zfE ho k aE ?_)))
 show wpAny _ _ (newExc (.type "StopIteration") [] >>= _) _ _ _;refine zaa ?_;simp only[newExc,newTuple];refine zaa (zbR ?_ (by size_fits))
 refine zaa (m:=firstArgMember _ _) (zeK (a:=Value.none) (by first|rfl|(simp only[firstArgMember];rfl)) ?_)
 refine zbR ?_ (by size_fits)
 simp only[raiseNew];refine zaa (wpAny_handled ?_)
 first|rw[show A.in1.handled=none from q]|rw[q]
 exact zaa (zab (wpAny_throw (u _ _ (((zcJ ..).extBut.push _).push _) ⟨_,zad _ rfl,rfl⟩)))
def SqAt(b:Bool)(h:Heap)(l:Addr)(E:Array Value):Prop:=match b with
 |true=>h.IsTuple l E
 |false=>h.IsList l E
def ItAt(b:Bool)(h:Heap)(it l:Addr)(i:Nat):Prop:=match b with
 |true=>h.IsTupleIter it l i
 |false=>h.IsListIter it l i
theorem SqAt.at{b:Bool}{h g:Heap}{l:Addr}{E:Array Value}(x:SqAt b h l E)(k:∀ o,h.get? l=some o->g.get? l=some o):SqAt b g l E:=by
 cases b with
 |true=>exact Heap.IsTuple.at (show h.IsTuple l E from x) k
 |false=>exact Heap.IsList.at (show h.IsList l E from x) k
theorem ItAt.at{b:Bool}{h g:Heap}{it l:Addr}{i:Nat}(x:ItAt b h it l i)(k:∀ o,h.get? it=some o->g.get? it=some o):ItAt b g it l i:=by
 cases b with
 |true=>exact Heap.IsTupleIter.at (show h.IsTupleIter it l i from x) k
 |false=>exact Heap.IsListIter.at (show h.IsListIter it l i from x) k
def ux{E:Array Value}{x:Value}(hi:ItAt b s.heap it l i)(hl:SqAt b s.heap l E)(a:E[i]?=some x)(d:∀ g,ItAt b g it l (i+1)->Heap.SameBut it s.heap g->Q x {s with heap:=g}):wpAny (model P w) A (Builtin.SmallTypes.nextOf (.ref it)) Q xs s:=by
 cases b with
 |true=>exact Sa hi hl a d
 |false=>exact wpAny_nextOf_list_item hi hl a d
def dh{E:Array Value}(d:A.handled=none)(hi:ItAt b s.heap it l i)(hl:SqAt b s.heap l E)(a:E[i]?=none)(j:∀ g e,Heap.ExtBut it s.heap g->(∃ o,g.get? e=some o/\o.cls=.type "StopIteration")->xs (.ref e) {s with heap:=g}):wpAny (model P w) A (Builtin.SmallTypes.nextOf (.ref it)) Q xs s:=by
 cases b with
 |true=>exact P9 d hi hl a j
 |false=>exact wpAny_nextOf_list_end d hi hl a j
structure ZAt(b1 b2:Bool)(g:Heap)(z ti to i1 i2 l1 l2:Addr)(f:Value)(k:Nat):Prop where
 zz:IsZip g z ti to f
 its:IsPair g ti (.ref i1) (.ref i2)
 out:∃a b,IsPair g to a b
 one:ItAt b1 g i1 l1 k
 two:ItAt b2 g i2 l2 k
structure ZNe(z ti to i1 i2:Addr):Prop where
 ab:ti≠z
 ac:to≠z
 ad:i1≠z
 ae:i2≠z
 bc:ti≠to
 bd:ti≠i1
 be:ti≠i2
 cd:to≠i1
 ce:to≠i2
 de:i1≠i2
def ZOff(z to i1 i2 c:Addr):Prop:=c≠z/\c≠to/\c≠i1/\c≠i2
def N8{b1 b2:Bool}{k:Nat}{E ys:Array Value}{x y:Value}{Q:Value->Shared->Prop}(D:ZNe z ti to i1 i2)(d1:ZOff z to i1 i2 l1)(d2:ZOff z to i1 i2 l2)(Z:ZAt b1 b2 s.heap z ti to i1 i2 l1 l2 .none k)(t1:SqAt b1 s.heap l1 E)(t2:SqAt b2 s.heap l2 ys)(hx:E[k]?=some x)(hy:ys[k]?=some y)(hQ:∀ g,ZAt b1 b2 g z ti to i1 i2 l1 l2 (rawInt s.heap.objs.size) (k+1)->IsPair g s.heap.objs.size x y->(∀ c o,ZOff z to i1 i2 c->s.heap.get? c=some o->g.get? c=some o)->Q (.ref s.heap.objs.size) {s with heap:=g}) :
  wpAny (model P w) A (Builtin.«zip.__next__» ⟨[.ref z],[]⟩) (λa0 s'=>∃v,a0=.done (.ret v)/\Q v s') xs s:=by
 obtain⟨L,N,⟨a,b,Y⟩,h1,h2⟩:=Z;show wpAny _ _ (field (.ref z) 2 >>= _) _ _ _;refine zaa (zbB L rfl (x:=.bool false) rfl ?_);show wpAny _ _ (field (.ref z) 3 >>= _) _ _ _;refine zaa (zbB L rfl (x:=.ref ti) rfl ?_);refine zaa (zcD N rfl ?_);show wpAny _ _ (Builtin.SmallTypes.ownedTupleIsFree (.ref z) >>= _) _ _ _;refine zaa ?_;unfold Builtin.SmallTypes.ownedTupleIsFree;refine zaa (zbB L rfl (x:=.none) rfl (zab ?_));simp only[if_true];refine zaa (zfR ?_);refine zaa (zbB L rfl (x:=.ref to) rfl ?_);refine zaa (zcW L aE λg1 W s1=>?_)
 replace W:IsZip g1 z ti to .ellipsis:=W
 refine zaa ?_;simp only[List.zipIdx_cons,List.zipIdx_nil,zeR,List.forIn_nil];refine zaa (zaa (wpAny_onRaise ?_));show wpAny _ _ (Builtin.SmallTypes.nextOf (.ref i1) >>= _) _ _ _;refine zaa (ux (h1.at λo e=>s1.extBut _ o D.ad e) (t1.at λo e=>s1.extBut _ o d1.1 e) hx λg2 p2 s2=>zab ?_);have B:IsPair g2 to a b:=s2.extBut _ _ D.cd (s1.extBut _ _ D.ac Y);refine zaa (zcD B rfl (zaa (wpAny_updateSeq_pair B λg3 l r=>?_)))
 replace l:IsPair g3 to x b:=l
 refine zaa (wpAny_letGo (zab (zaa (zaa (wpAny_onRaise ?_)))));show wpAny _ _ (Builtin.SmallTypes.nextOf (.ref i2) >>= _) _ _ _;refine zaa (ux (h2.at λo e=>r.extBut _ o D.ce.symm (s2.extBut _ o D.de.symm (s1.extBut _ o D.ae e))) (t2.at λo e=>r.extBut _ o d2.2.1 (s2.extBut _ o d2.2.2.1 (s1.extBut _ o d2.1 e))) hy λg4 p4 I=>zab ?_);have u:IsPair g4 to x b:=I.extBut _ _ D.ce l;refine zaa (zcD u rfl (zaa (wpAny_updateSeq_pair u λd j G=>?_)))
 replace j:IsPair d to x y:=j
 refine zaa (wpAny_letGo (zab (zab (zaa (zcD j rfl (zaa (wpAny_newTuple ?_)))))));have sz:d.objs.size=s.heap.objs.size:=by rw[G.1,I.1,r.1,s2.1,s1.1]
 have z5:IsZip d z ti to .ellipsis:=G.extBut _ _ D.ac.symm (I.extBut _ _ D.ae.symm (r.extBut _ _ D.ac.symm (s2.extBut _ _ D.ad.symm W)));have es:∀c o,ZOff z to i1 i2 c->s.heap.get? c=some o->d.get? c=some o:=λc o q e=>G.extBut _ _ q.2.1 (I.extBut _ _ q.2.2.2 (r.extBut _ _ q.2.1 (s2.extBut _ _ q.2.2.1 (s1.extBut _ _ q.1 e))));have q1:ItAt b1 d i1 l1 (k+1):=p2.at λo e=>G.extBut _ o D.cd.symm (I.extBut _ o D.de (r.extBut _ o D.cd.symm e));have q2:ItAt b2 d i2 l2 (k+1):=p4.at λo e=>G.extBut _ o D.ce.symm e;have lz:z<d.objs.size:=zae z5;show wpAny _ _ (Builtin.SmallTypes.ownedTupleHandOut (.ref z) (.ref d.objs.size) >>= _) _ _ _;refine zaa ?_;unfold Builtin.SmallTypes.ownedTupleHandOut;have z6:IsZip (d.push {cls:=.type "tuple",data:=.seq #[x,y]}) z ti to .ellipsis:=zac _ z5;refine zaa (zcW z6 aE λg7 V s7=>?_)
 replace V:IsZip g7 z ti to (rawInt d.objs.size):=V
 refine zcW V aE λR O s8=>?_
 replace O:IsZip R z ti to (rawInt d.objs.size):=O
 have up:∀c o,c≠z->d.get? c=some o->R.get? c=some o:=λc o c1 e=>s8.extBut _ _ c1 (s7.extBut _ _ c1 (zac _ e));have pr:IsPair R d.objs.size x y:=s8.extBut _ _ (zcC lz) (s7.extBut _ _ (zcC lz) (zad _ rfl));rw[sz]at O pr;refine zab ⟨_,rfl,?_⟩;show Q (.ref d.objs.size) _;rw[sz];exact hQ R ⟨O,up _ _ D.ab (es _ _ ⟨D.ab,D.bc,D.bd,D.be⟩ N),⟨_,_,up _ _ D.ac j⟩,q1.at λo e=>up _ o D.ad e,q2.at λo e=>up _ o D.ae e⟩ pr λc o q e=>up c o q.1 (es c o q e)
def Jx{E ys:Array Value}{Q:Fin->Shared->Prop}(V:A.handled=none)(D:ZNe z ti to i1 i2)(d1:ZOff z to i1 i2 l1)(d2:ZOff z to i1 i2 l2)(Z:ZAt b1 b2 s.heap z ti to i1 i2 l1 l2 .none k)(t1:SqAt b1 s.heap l1 E)(t2:SqAt b2 s.heap l2 ys)(v:E[k]?=none\/ys[k]?=none)(W:∀ g e,(∀ c o,ZOff z to i1 i2 c->s.heap.get? c=some o->g.get? c=some o)->(∃ o,g.get? e=some o/\o.cls=.type "StopIteration")->xs (.ref e) {s with heap:=g}) :
  wpAny (model P w) A (Builtin.«zip.__next__» ⟨[.ref z],[]⟩) Q xs s:=by
 obtain⟨u,G,⟨a,b,B⟩,h1,h2⟩:=Z;show wpAny _ _ (field (.ref z) 2 >>= _) _ _ _;refine zaa (zbB u rfl (x:=.bool false) rfl ?_);show wpAny _ _ (field (.ref z) 3 >>= _) _ _ _;refine zaa (zbB u rfl (x:=.ref ti) rfl ?_);refine zaa (zcD G rfl ?_);show wpAny _ _ (Builtin.SmallTypes.ownedTupleIsFree (.ref z) >>= _) _ _ _;refine zaa ?_;unfold Builtin.SmallTypes.ownedTupleIsFree;refine zaa (zbB u rfl (x:=.none) rfl (zab ?_));simp only[if_true];refine zaa (zfR ?_);refine zaa (zbB u rfl (x:=.ref to) rfl ?_);refine zaa (zcW u aE λg1 y s1=>?_)
 replace y:IsZip g1 z ti to .ellipsis:=y
 refine zaa ?_;simp only[List.zipIdx_cons,List.zipIdx_nil,zeR,List.forIn_nil];refine zaa (zaa (wpAny_onRaise ?_));show wpAny _ _ (Builtin.SmallTypes.nextOf (.ref i1) >>= _) _ _ _;cases hx:E[k]? with
 |none =>
  refine zaa (dh V (h1.at λo e=>s1.extBut _ o D.ad e) (t1.at λo e=>s1.extBut _ o d1.1 e) hx λg2 e s2 I=>?_);obtain⟨oe,d,j⟩:=I;have N:IsZip g2 z ti to .ellipsis:=s2 _ _ D.ad.symm y;have es:e≠z:=λx=>by subst x;rw[N]at d;cases d;simp at j
  exact zcW N aE λg3 _ l=>W g3 e (λc o q x=>l.extBut _ _ q.1 (s2 _ _ q.2.2.1 (s1.extBut _ _ q.1 x))) ⟨oe,l.extBut _ _ es d,j⟩
 |some x =>
  have hy:ys[k]?=none:=by rcases v with h|h;rw[hx]at h;cases h;exact h
  refine zaa (ux (h1.at λo e=>s1.extBut _ o D.ad e) (t1.at λo e=>s1.extBut _ o d1.1 e) hx λg2 p2 s2=>zab ?_);have r:IsPair g2 to a b:=s2.extBut _ _ D.cd (s1.extBut _ _ D.ac B);refine zaa (zcD r rfl (zaa (wpAny_updateSeq_pair r λg3 Y l=>?_)));refine zaa (wpAny_letGo (zab (zaa (zaa (wpAny_onRaise ?_)))));show wpAny _ _ (Builtin.SmallTypes.nextOf (.ref i2) >>= _) _ _ _;refine zaa (dh V (h2.at λo e=>l.extBut _ o D.ce.symm (s2.extBut _ o D.de.symm (s1.extBut _ o D.ae e))) (t2.at λo e=>l.extBut _ o d2.2.1 (s2.extBut _ o d2.2.2.1 (s1.extBut _ o d2.1 e))) hy λg4 e R I=>?_);obtain⟨oe,d,j⟩:=I;have L:IsZip g4 z ti to .ellipsis:=R _ _ D.ae.symm (l.extBut _ _ D.ac.symm (s2.extBut _ _ D.ad.symm y));have es:e≠z:=λx=>by subst x;rw[L]at d;cases d;simp at j
  exact zcW L aE λg5 _ O=>W g5 e (λc o q x=>O.extBut _ _ q.1 (R _ _ q.2.2.2 (l.extBut _ _ q.2.1 (s2.extBut _ _ q.2.2.1 (s1.extBut _ _ q.1 x))))) ⟨oe,O.extBut _ _ es d,j⟩
def Xi{E ys:Array Value}{x y:Value}{Q:Option Value->Shared->Prop}(D:ZNe z ti to i1 i2)(d1:ZOff z to i1 i2 l1)(d2:ZOff z to i1 i2 l2)(Z:ZAt b1 b2 s.heap z ti to i1 i2 l1 l2 .none k)(t1:SqAt b1 s.heap l1 E)(t2:SqAt b2 s.heap l2 ys)(e:E[k]?=some x)(d:ys[k]?=some y)(j:∀ g,ZAt b1 b2 g z ti to i1 i2 l1 l2 (rawInt s.heap.objs.size) (k+1)->IsPair g s.heap.objs.size x y->(∀ c o,ZOff z to i1 i2 c->s.heap.get? c=some o->g.get? c=some o)->Q (some (.ref s.heap.objs.size)) {s with heap:=g}) :
  wpAny (model P w) A (pyNext (.ref z)) Q xs s:=by
 have ty:s.TypeIs (.ref z) "zip":=⟨_,Z.zz,rfl⟩;unfold pyNext;exact zaa (zeD (zbC (name:=Str.ofString "__next__") ty zdB (zbK zdB ty zfN (N8 D d1 d2 Z t1 t2 e d λg a b c=>zab (j g a b c)) (zfB _))))
def Uq{E ys:Array Value}{Q:Option Value->Shared->Prop}(j:A.handled=none)(D:ZNe z ti to i1 i2)(d1:ZOff z to i1 i2 l1)(d2:ZOff z to i1 i2 l2)(Z:ZAt b1 b2 s.heap z ti to i1 i2 l1 l2 .none k)(t1:SqAt b1 s.heap l1 E)(t2:SqAt b2 s.heap l2 ys)(a:E[k]?=none\/ys[k]?=none)(r:∀ g,(∀ c o,ZOff z to i1 i2 c->s.heap.get? c=some o->g.get? c=some o)->Q none {s with heap:=g}):wpAny (model P w) A (pyNext (.ref z)) Q xs s:=by
 have ty:s.TypeIs (.ref z) "zip":=⟨_,Z.zz,rfl⟩;unfold pyNext;refine zaa (zeD (zbC (name:=Str.ofString "__next__") ty zdB (zbK zdB ty zfN (Jx j D d1 d2 Z t1 t2 a λg e d l=>?_) (zfB _))));obtain⟨o,ho,q⟩:=l;refine zaa (zfO (T:="StopIteration") (b:=true) ⟨o,ho,q⟩ isSubtype_stop ?_);exact zab (r _ d)
noncomputable def Jf(b:Bool):String:=match b with
 |true=>"tuple_iterator"
 |false=>"list_iterator"
noncomputable abbrev zh1(b1:Bool)(h:Heap)(l1:Addr):Heap:=h.push {cls:=.type (Jf b1),data:=.fields #[.ref l1,.int 0 0]}
noncomputable abbrev zh2(b1 b2:Bool)(h:Heap)(l1 l2:Addr):Heap:=(zh1 b1 h l1).push {cls:=.type (Jf b2),data:=.fields #[.ref l2,.int 0 0]}
noncomputable abbrev zh3(b1 b2:Bool)(h:Heap)(l1 l2:Addr):Heap:=(zh2 b1 b2 h l1 l2).push {cls:=.type "tuple",data:=.seq #[.ref h.objs.size,.ref (zh1 b1 h l1).objs.size]}
noncomputable abbrev zh4(b1 b2:Bool)(h:Heap)(l1 l2:Addr):Heap:=(zh3 b1 b2 h l1 l2).push {cls:=.type "tuple",data:=.seq #[.none,.none]}
noncomputable abbrev zh5(b1 b2:Bool)(h:Heap)(l1 l2:Addr):Heap:=(zh4 b1 b2 h l1 l2).push {cls:=.type "zip",data:=.fields #[.none,.bool false,.bool false,.ref (zh2 b1 b2 h l1 l2).objs.size,.ref (zh3 b1 b2 h l1 l2).objs.size]}
def Jv(b1 b2:Bool)(l1 l2:Addr)(E ys:Array Value) :
  Meets (Builtin.«zip.__new__» ⟨[.type "zip",.ref l1,.ref l2],[]⟩) (λ_ R s=>SqAt b1 s.heap l1 E/\SqAt b2 s.heap l2 ys/\R (.ok (.ret (.ref (zh4 b1 b2 s.heap l1 l2).objs.size))) {s with heap:=zh5 b1 b2 s.heap l1 l2}) :=
 .of_wp λprog w A R s h=>by
  obtain⟨e,g,d,tk,a⟩:=s;obtain⟨a1,a2,h⟩:=h;have j:=sub_zip;cases b1 <;> cases b2
  ·have b1:Heap.IsList (Shared.heap ⟨e,g,d,tk,a⟩) l1 E:=a1;have b2:Heap.IsList (Shared.heap ⟨e.push {cls:=.type "list_iterator",data:=.fields #[.ref l1,.int 0 0]},g,d,tk,a⟩) l2 ys:=Heap.IsList.push a2 _;wp_walk using zcT b1,zcT b2;exact⟨_,rfl,h⟩
  ·have b1:Heap.IsList (Shared.heap ⟨e,g,d,tk,a⟩) l1 E:=a1;have b2:Heap.IsTuple (Shared.heap ⟨e.push {cls:=.type "list_iterator",data:=.fields #[.ref l1,.int 0 0]},g,d,tk,a⟩) l2 ys:=Heap.IsTuple.push a2 _;wp_walk using zcT b1,zdE b2;exact⟨_,rfl,h⟩
  ·have b1:Heap.IsTuple (Shared.heap ⟨e,g,d,tk,a⟩) l1 E:=a1;have b2:Heap.IsList (Shared.heap ⟨e.push {cls:=.type "tuple_iterator",data:=.fields #[.ref l1,.int 0 0]},g,d,tk,a⟩) l2 ys:=Heap.IsList.push a2 _;wp_walk using zdE b1,zcT b2;exact⟨_,rfl,h⟩
  have b1:Heap.IsTuple (Shared.heap ⟨e,g,d,tk,a⟩) l1 E:=a1;have b2:Heap.IsTuple (Shared.heap ⟨e.push {cls:=.type "tuple_iterator",data:=.fields #[.ref l1,.int 0 0]},g,d,tk,a⟩) l2 ys:=Heap.IsTuple.push a2 _;wp_walk using zdE b1,zdE b2;exact⟨_,rfl,h⟩
def Vz{E ys:Array Value}(t1:SqAt b1 s.heap l1 E)(t2:SqAt b2 s.heap l2 ys)(h:∀ g,ZAt b1 b2 g (s.heap.objs.size+4) (s.heap.objs.size+2) (s.heap.objs.size+3) s.heap.objs.size (s.heap.objs.size+1) l1 l2 .none 0->(∀ c o,s.heap.get? c=some o->g.get? c=some o)->Q (.ref (s.heap.objs.size+4)) {s with heap:=g}) :
  wpAny (model P w) A (call (.type "zip") [.ref l1,.ref l2]) Q xs s:=by
 refine callType_new F.called_zip aB (F.typeCall_zip_2 _ _) (F.newCall_zip_2 _ _) (λa=>F.args_object_init_3 a _ _) F.entry_zip_new (Jv b1 b2 l1 l2 E ys) ⟨t1,t2,?_⟩
 have k:(zh1 b1 s.heap l1).objs.size=s.heap.objs.size+1:=zdM ..;have j:(zh2 b1 b2 s.heap l1 l2).objs.size=s.heap.objs.size+2:=by rw[zdM,k]
 have d:(zh3 b1 b2 s.heap l1 l2).objs.size=s.heap.objs.size+3:=by rw[zdM,j]
 have q:(zh4 b1 b2 s.heap l1 l2).objs.size=s.heap.objs.size+4:=by rw[zdM,d]
 have l:(zh5 b1 b2 s.heap l1 l2).get? (zh4 b1 b2 s.heap l1 l2).objs.size=some _:=zad _ rfl;have r:(zh5 b1 b2 s.heap l1 l2).get? (zh3 b1 b2 s.heap l1 l2).objs.size=some _:=zac _ (zad _ rfl);have g3:(zh5 b1 b2 s.heap l1 l2).get? (zh2 b1 b2 s.heap l1 l2).objs.size=some _:=zac _ (zac _ (zad _ rfl));have g2:(zh5 b1 b2 s.heap l1 l2).get? (zh1 b1 s.heap l1).objs.size=some _:=zac _ (zac _ (zac _ (zad _ rfl)));have g1:(zh5 b1 b2 s.heap l1 l2).get? s.heap.objs.size=some _:=zac _ (zac _ (zac _ (zac _ (zad _ rfl))));show _/\_;rw[j,d,q]at l;rw[k,j]at g3;rw[d]at r;rw[k]at g2;rw[q];exact⟨⟨_,l,rfl⟩,h _ ⟨l,g3,⟨_,_,r⟩,(by cases b1 <;> exact⟨_,g1,rfl,rfl⟩),(by cases b2 <;> exact⟨_,g2,rfl,rfl⟩)⟩ λc o e=>zac _ (zac _ (zac _ (zac _ (zac _ e))))⟩
def ItAt.there(x:ItAt b h it l i):∃o,h.get? it=some o/\∀v,o.data≠.cell v:=by
 cases b with
 |true =>
  obtain⟨o,e,c,d⟩:=(show h.IsTupleIter it l i from x);exact⟨o,e,λv q=>by rw[d]at q;cases q⟩
 |false =>
  obtain⟨o,e,c,d⟩:=(show h.IsListIter it l i from x);exact⟨o,e,λv q=>by rw[d]at q;cases q⟩
def SqK(b:Bool)(K:W.Frag)(H:Hp)(l:Addr)(E:List V):Prop:=match b with
 |true=>SqT K H l E
 |false=>SqL K H l E
def X4(I:Inv X pn Y H s)(h:SqK b X.K H l E):∃its,Vals E its/\SqAt b s.heap l its.toArray:=by
 cases b with
 |true =>
  obtain⟨its,r,p,_⟩:=I.tuple h;exact⟨its,r,(show s.heap.IsTuple l its.toArray from p)⟩
 |false =>
  obtain⟨its,r,p,_⟩:=I.list h;exact⟨its,r,p.isList⟩
def Kk(I:Inv X pn Y H s)(h:SqK b X.K H l E)(h':SqK b X.K H l ys):E=ys:=by
 cases b with
 |true=>exact I.tuple_inj h h'
 |false=>exact I.list_inj h h'
def u6{l c:Addr}(I:Inv X pn Y H s)(h:SqK b X.K H l E)(f:FpOk X pn H c):l≠c:=by
 have d:∀{o:Obj},X.K.lookup l=some o->l≠c:=λ{o} a z=>by
  subst z;have e:=I.ok.mod.kin _ _ a;rcases f.2.2.2.1 with q|q
  ·exact I.ok.noex _ _ e q
  exact absurd (zaR (zae e) I.ok.bsz) (Nat.not_lt.mpr q)
 cases b with
 |true =>
  rcases h with(h|⟨o,h⟩)|⟨o,its,n,a,_⟩
  ·exact zp h f.1
  ·exact zp h f.1
  exact d a
 |false =>
  rcases h with(h|⟨o,h⟩)|⟨o,its,n,a,_⟩
  ·exact zp h f.1
  ·exact zp h f.1
  exact d a
noncomputable def Itz(b1 b2:Bool)(K:W.Frag)(l1 l2:Addr):It :=
 ⟨λi H=>∃E ys x y,SqK b1 K H l1 E/\SqK b2 K H l2 ys/\E[i]?=some x/\ys[i]?=some y,
  λi H v H'=>∃T x y,H T=none/\v=.ref T/\(∀E,SqK b1 K H l1 E->E[i]?=some x)/\(∀ys,SqK b2 K H l2 ys->ys[i]?=some y)/\H'=upd H T (.tup [x,y]),
  λi H=>∃E ys,SqK b1 K H l1 E/\SqK b2 K H l2 ys/\(E.length<=i\/ys.length<=i)⟩
def Nf{P:Program}{w:World}{K:W.Frag}{J:List Expr}{kk:Nat}{tp:Pos}{b1 b2:Bool}{z ti to i1 i2 l1 l2:Addr}(D:ZNe z ti to i1 i2) :
  Turn P w K (.Tuple J kk tp) (Itz b1 b2 K l1 l2) [z,ti,to,i1,i2] z (λi h=>ZAt b1 b2 h z ti to i1 i2 l1 l2 .none i) where
 mem:=by simp
 obj:=λi h Z b d=>by
  obtain⟨hz,l,⟨u,v,j⟩,h1,h2⟩:=Z;obtain⟨o1,e1,d1⟩:=h1.there;obtain⟨o2,e2,d2⟩:=h2.there;simp only[zam,zaW,zdN]at d;rcases d with rfl|rfl|rfl|rfl|rfl
  ·exact⟨_,hz,λv q=>(by cases q)⟩
  ·exact⟨_,l,λv q=>(by cases q)⟩
  ·exact⟨_,j,λv q=>(by cases q)⟩
  ·exact⟨o1,e1,λv q=>d1 v q⟩
  exact⟨o2,e2,λv q=>d2 v q⟩
 keep:=λi h h' Z k=>by
  obtain⟨hz,l,⟨u,v,j⟩,h1,h2⟩:=Z;exact⟨k z aE _ hz,k ti aE _ l,⟨u,v,k to aE _ j⟩,h1.at λo e=>k i1 aE o e,h2.at λo e=>k i2 aE o e⟩
 item:=by
  intro X hP hw hK O i pn s Y H xs I G Z hg;subst hP hw hK;obtain⟨E,ys,x,y,e1,e2,B,hy⟩:=hg;obtain⟨a4,r1,g1⟩:=X4 I e1;obtain⟨a0,r2,g2⟩:=X4 I e2;obtain⟨u,hu,ru⟩:=r1.get B;obtain⟨v,hv,rv⟩:=r2.get hy;have N:=G z aE
  have r:=G to aE
  have f1:=G i1 aE
  have V:=G i2 aE
  have es:∀b ho,H b=some ho->ZOff z to i1 i2 b:=λb ho e=>⟨zp e N.1,zp e r.1,zp e f1.1,zp e V.1⟩;refine Xi D ⟨u6 I e1 N,u6 I e1 r,u6 I e1 f1,u6 I e1 V⟩ ⟨u6 I e2 N,u6 I e2 r,u6 I e2 f1,u6 I e2 V⟩ Z g1 g2 (x:=u) (y:=v) (by simpa using hu) (by simpa using hv) λg Z2 pr Q=>?_
  have hn:H s.heap.objs.size=none:=I.fresh;have a:∀b,b∉[z,to,i1,i2]->ZOff z to i1 i2 b:=λb d=>by
   simp only[zam,zaW,zdN,not_or]at d;exact d
  have un:Un (frs X.stack) [z,to,i1,i2] H (upd H s.heap.objs.size (.tup [x,y])) s.heap g :=
   ⟨λb o q _ _ B=>Q b o (a b B) q,λb o q _ _ B=>⟨o.slots,Q b o (a b B) q⟩,λb o q n _=>by rw[zx (zaT (zae q))];exact n,λb o q B=>⟨o,Q b o (a b B) q⟩,
    λb zs q=>by rw[zx (zp q hn)];exact q,λb o zs q=>by rw[zx (zp q hn)];exact q,λb ps q=>⟨#[],by rw[zx (zp q hn),q];simp⟩⟩
  have hok:HOk X.prog X.w (upd H s.heap.objs.size (.tup [x,y])) g:=λb o e=>by
   by_cases d:b=s.heap.objs.size
   ·subst d;rw[zk]at e;cases e;refine⟨by simp only[zLc,zLn];rw[zbH];decide,[u,v],.cons ru (.cons rv .nil),⟨_,pr,rfl,_,rfl⟩,_,pr,rfl⟩
   rw[zx d]at e;refine(I.hok b o e).stay (λc ob O q=>Q c ob ?_ q) (λc q=>by rw[zx (zp q hn)];exact q) λc zs q=>by rw[zx (zp q hn)];exact q
   rcases O with rfl|O
   ·exact es _ _ e
   exact es _ _ O
  have I2:Inv X pn Y (upd H s.heap.objs.size (.tup [x,y])) {s with heap:=g}:=I.call' (s':={s with heap:=g}) (ch:=[z,to,i1,i2]) rfl un hok I.bare λb d=>by
   have R:b∈[z,ti,to,i1,i2]:=by
    simp only[zam,zaW,zdN]at d ⊢;rcases d with rfl|rfl|rfl|rfl <;> simp
   have q:=G b R;exact⟨q.2.2.2.1,q.2.1,q.2.2.2.2.1,q.2.2.2.2.2⟩
  have L:∀b∈[z,ti,to,i1,i2],upd H s.heap.objs.size (.tup [x,y]) b=none:=λb d=>by
   have lb:b<s.heap.objs.size:=by
    obtain⟨hz,l,⟨u,v,j⟩,h1,h2⟩:=Z;obtain⟨_,q1,_⟩:=h1.there;obtain⟨_,q2,_⟩:=h2.there;simp only[zam,zaW,zdN]at d;rcases d with rfl|rfl|rfl|rfl|rfl
    ·exact zae hz
    ·exact zae l
    ·exact zae j
    ·exact zae q1
    exact zae q2
   rw[zx (zaT lb)];exact(G b d).1
  refine⟨_,rfl,wpAny_letOwnedTupleGo_zip Z2.zz λg2 z3 sb=>?_⟩;refine⟨.ref s.heap.objs.size,_,I2.turned (t':=s.toks) (λb o d e=>sb.extBut b o d e) (L z aE) N.2.1 N.2.2.2.1 N.2.2.2.2.1 N.2.2.2.2.2,rfl,⟨_,x,y,hn,rfl,(λzs q=>by rw[<- Kk I e1 q];exact B),(λzs q=>by rw[<- Kk I e2 q];exact hy),rfl⟩,?_,L⟩
  obtain⟨_,l,⟨u2,v2,j⟩,h1,h2⟩:=Z2;exact⟨z3,sb.extBut _ _ D.ab l,⟨u2,v2,sb.extBut _ _ D.ac j⟩,h1.at λo e=>sb.extBut _ o D.ad e,h2.at λo e=>sb.extBut _ o D.ae e⟩
 done:=by
  intro X hP hw hK O i pn s Y H xs I G Z hg;subst hP hw hK;obtain⟨E,ys,e1,e2,a5⟩:=hg;obtain⟨a4,r1,g1⟩:=X4 I e1;obtain⟨a0,r2,g2⟩:=X4 I e2;have N:=G z aE
  have r:=G to aE
  have f1:=G i1 aE
  have V:=G i2 aE
  have es:∀b ho,H b=some ho->ZOff z to i1 i2 b:=λb ho e=>⟨zp e N.1,zp e r.1,zp e f1.1,zp e V.1⟩;have a7:=r1.length;have a6:=r2.length;refine Uq (I.ok.hd O) D ⟨u6 I e1 N,u6 I e1 r,u6 I e1 f1,u6 I e1 V⟩ ⟨u6 I e2 N,u6 I e2 r,u6 I e2 f1,u6 I e2 V⟩ Z g1 g2 ?_ λg Q=>?_
  ·rcases a5 with q|q
   ·exact .inl (by simp;lia)
   exact .inr (by simp;lia)
  refine⟨rfl,?_⟩;have a:∀b,b∉[z,to,i1,i2]->ZOff z to i1 i2 b:=λb d=>by
   simp only[zam,zaW,zdN,not_or]at d;exact d
  have un:Un (frs X.stack) [z,to,i1,i2] H H s.heap g :=
   ⟨λb o q _ _ B=>Q b o (a b B) q,λb o q _ _ B=>⟨o.slots,Q b o (a b B) q⟩,λb o q n _=>n,λb o q B=>⟨o,Q b o (a b B) q⟩,
    λb zs q=>q,λb o zs q=>q,λb ps q=>⟨#[],by rw[q];simp⟩⟩
  refine I.call' (s':={s with heap:=g}) (ch:=[z,to,i1,i2]) rfl un (λb o e=>(I.hok b o e).stay (λc ob O q=>Q c ob ?_ q) aA λc zs q=>q) I.bare λb d=>?_
  ·rcases O with rfl|O
   ·exact es _ _ e
   exact es _ _ O
  have R:b∈[z,ti,to,i1,i2]:=by
   simp only[zam,zaW,zdN]at d ⊢;rcases d with rfl|rfl|rfl|rfl <;> simp
  have q:=G b R;exact⟨q.2.2.2.1,q.2.1,q.2.2.2.2.1,q.2.2.2.2.2⟩
 self:=λ_ _ _ _ _ Z h=>wpAny_pyIter_zip Z.zz h
def Wf:bootBuiltins "zip" = some (.type "zip"):=by kernel_rfl
def iZip(K:W.Frag)(ta:TA):TI:=λY H R=>ta Y H λvs H1=>∃b1 b2 l1 l2 E ys,vs=[.ref l1,.ref l2]/\SqK b1 K H1 l1 E/\SqK b2 K H1 l2 ys/\R (Itz b1 b2 K l1 l2) H1
def C9{X:Cx}{J:List Expr}{N:Nat}{B:Pos}{a b:Expr}{ta:TA}{p pos:Pos}(Q:Gl X "zip")(O:X.mg "zip" = none)(W:PA X [a,b] ta)(V:autoParam (starEach [a,b] X.env=(false,eval a X.env)::starEach [b] X.env) zSr)(l:autoParam ((backTo pos (starEach [b] X.env)).any (·.1)=false) zSr):PI X (.Tuple J N B) (.Call (.Name "zip" p) [a,b] [] pos) (iZip X.K ta):=by
 intro pn s Y H R I h;refine zcL (jc I Q O Wf ?_ aB aB)
 refine zbL (thn (W pos pn s Y H _ I h) λus s1 Zh=>?_) V l;obtain⟨vs,H1,k,r,b1,b2,l1,l2,E,ys,e,e1,e2,q⟩:=Zh;subst e;obtain⟨u,v,rfl,es,G⟩:=Jz r;cases es;cases G;obtain⟨j,r,g1⟩:=X4 k e1;obtain⟨d,r2,g2⟩:=X4 k e2;refine Vz (E:=j.toArray) (ys:=d.toArray) g1 g2 λg Z L=>wpAny_pyIter_zip Z.zz ?_;have D:ZNe (s1.heap.objs.size+4) (s1.heap.objs.size+2) (s1.heap.objs.size+3) s1.heap.objs.size (s1.heap.objs.size+1):=by
  constructor <;> (intro z;exact absurd (show(_:Nat)=_ from z) aD)
 refine⟨_,_,_,_,H1,rfl,k.kept (t':=s1.toks) L,Nf D,Z,λb y=>?_,q⟩;have x:s1.heap.objs.size<=b:=by
  simp only[zam,zaW,zdN]at y;rcases y with rfl|rfl|rfl|rfl|rfl
  ·exact zcH _ _
  ·exact zcH _ _
  ·exact zcH _ _
  ·exact zaj _
  exact zcH _ _
 exact k.fpOk x (k.hok.fresh x)
structure FlyB(P:Program)(w:World)(outer:List Env)(H:Hp)(h:Heap)(H':Hp)(B:Heap)(h':Heap):Prop where
 un:Un (frs outer) [] H H' h h'
 hok:HOk P w H' h'
 cov:∀b o,h'.get? b=some o->b∉frs outer->(H' b≠none\/∃o0,h.get? b=some o0)->B.get? b=some o
def CX1(P:Program)(w:World):CXT:=λouter H s xs e s'=>∃(a C:Addr)(t:Value)(H':Hp)(B:Heap),e=.ref a/\s'.os=s.os/\AllBare s'.gens/\FlyB P w outer H s.heap H' B s'.heap /\
 Heap.FlyingW B outer a (.ref C) t s'.heap/\xs (.ref C) none H'
noncomputable def sg(t b:Int):Int:=if b<0 then -(Int.gcd t b:Int) else Int.gcd t b
noncomputable def rt(t b:Int):Int×Int:=(t.fdiv (sg t b),b.fdiv (sg t b))
open PySem.Builtin.Int (intBits)
def fdOk{i j:Int}{m:Nat}(h:j≠0)(a:intBits j<=m)(d:m<=8999:=by lia):FdOk i j:=by
 refine⟨h,?_⟩;unfold intBits at a;rw[zaJ (by simpa using h)]at a
 lia
def ye{n:Nat}{i:Int}:okD n (.int i)=True:=by cases n <;> rfl
def J2{n:Nat}{i:Bool}:okD n (.bl i)=True:=by cases n <;> rfl
def yt{n:Nat}:okD n (.str i)=True:=by cases n <;> rfl
def P5{n:Nat}:okD n .non=True:=by cases n <;> rfl
def F0{n:Nat}(h:0<n):okD n (.tup S)=∀x∈S,okD (n-1) x:=by
 cases n with
 |zero=>lia
 |succ n=>rfl
def g0{a b:Int}:eqD (.int a) (.int b)=(a==b):=rfl
def Yq{a b:Str}:eqD (.str a) (.str b)=(a==b):=rfl
def w2(g:Int->Int->(EV->Prop)->Prop):FT:=λS M=>match S with
 |[.int a,.int b]=>g a b M
 |_=>False
def w1(g:Int->(EV->Prop)->Prop):FT:=λS M=>match S with
 |[.int a]=>g a M
 |_=>False
def K7{α:Type}{x:α}{l:List α}:atI (x::l) 0=some x:=by
 rw[show(0:Int)=((0:Nat):Int) from rfl];exact Yw rfl
def Av{α:Type}{x y:α}{l:List α}:atI (x::y::l) 1=some y:=by
 rw[show(1:Int)=((1:Nat):Int) from rfl];exact Yw rfl
def z2i{α:Type}{x y z:α}{l:List α}:atI (x::y::z::l) 2=some z:=by
 rw[show(2:Int)=((2:Nat):Int) from rfl];exact Yw rfl
variable{κ:Type}[DecidableEq κ]
noncomputable def valV(kvs:List (κ×V))(k:κ):Option V:=(kvs.find? λa=>decide (a.1=k)).map (·.2)
noncomputable def putK(kvs:List (κ×V))(k:κ)(v:V):List (κ×V) :=
 if (kvs.any λa=>decide (a.1=k))=true then kvs.map (λa=>if a.1=k then(a.1,v) else a) else kvs++[(k,v)]
def gw{p:κ×V}{r:List (κ×V)}{k:κ}(e:p.1=k):valV (p::r) k=some p.2:=by simp[valV,zeA,e]
def gy{p:κ×V}{r:List (κ×V)}{k:κ}(e:¬ p.1=k):valV (p::r) k=valV r k:=by simp[valV,zeA,e]
theorem U1(k:κ):∀kvs:List (κ×V),(kvs.any λa=>decide (a.1=k))=(valV kvs k).isSome
 |[]=>rfl
 |p::r=>by
  rw[zdR];by_cases e:p.1=k
  ·simp only[gw e,zdT e,Bool.true_or,Option.isSome_some]
  rw[gy e,zbQ e,Bool.false_or];exact U1 k r
def qx(kvs:List (κ×V))(k:κ)(v:V):(putK kvs k v).length<=kvs.length+1:=by
 unfold putK;split
 ·rw[zLm];lia
 rw[zLa,zLc,zLn];lia
def RelO.isSome_eq{o:Option V}{u:Option Value}(r:RelO o u):o.isSome=u.isSome:=by
 cases o with
 |none=>cases u with
  |none=>rfl
  |some _=>exact(show False from r).elim
 |some _=>cases u with
  |none=>exact(show False from r).elim
  |some _=>rfl
def KV.val{kvs:List (κ×V)}{vs:List (κ×Value)}(r:KV kvs vs)(k:κ):RelO (valV kvs k) (valueAt vs k):=by
 unfold KV at r
 induction r with
 |nil=>exact zcR
 |@cons p q ps qs h t ih =>
  obtain⟨h1,h2⟩:=h;by_cases e:p.1=k
  ·have a:q.1=k:=h1.symm.trans e;have b:valueAt (q::qs) k=some q.2:=by simp[valueAt,zeA,a]
   rw[gw e,b];exact h2
  have a:¬ q.1=k:=λz=>e (h1.trans z);have b:valueAt (q::qs) k=valueAt qs k:=by simp[valueAt,zeA,a]
  rw[gy e,b];exact ih
theorem KV.any{kvs:List (κ×V)}{vs:List (κ×Value)}(r:KV kvs vs)(k:κ):(kvs.any λa=>decide (a.1=k))=vs.any λa=>decide (a.1=k):=by
 unfold KV at r
 induction r with
 |nil=>rfl
 |cons h t ih=>rw[zdR,zdR,ih,h.1]
def KV.repl{kvs:List (κ×V)}{vs:List (κ×Value)}(r:KV kvs vs)(k:κ){y:V}{u:Value}(d:RelV y u) :
  KV (kvs.map λa=>if a.1=k then(a.1,y) else a) (vs.map λa=>if a.1=k then(a.1,u) else a):=by
 unfold KV at r ⊢
 induction r with
 |nil=>exact .nil
 |@cons p q ps qs h t ih =>
  rw[zaB,zaB];refine .cons ?_ ih;obtain⟨h1,h2⟩:=h;by_cases e:p.1=k
  ·rw[zaK e,zaK (h1.symm.trans e)];exact⟨h1,d⟩
  rw[zaJ e,zaJ (λz=>e (h1.trans z))];exact⟨h1,h2⟩
def KV.put{kvs:List (κ×V)}{vs:List (κ×Value)}(r:KV kvs vs)(k:κ){y:V}{u:Value}(a:RelV y u):KV (putK kvs k y) (stored vs k u):=by
 unfold putK stored;rw[r.any k];by_cases e:(vs.any λd=>decide (d.1=k))=true
 ·rw[zaK e,zaK e];exact r.repl k a
 rw[zaJ e,zaJ e];exact Paired.snoc r ⟨rfl,a⟩
theorem KV.length{kvs:List (κ×V)}{vs:List (κ×Value)}(r:KV kvs vs):kvs.length=vs.length:=zfQ r
def Sk{P:Program}{w:World}{k:Key}{u:Value}(r:RelV (kV k) u):(yp P w).is k u=true:=by
 cases k with
 |inl i=>obtain⟨t,e⟩:=(show ∃t,u=Value.int i t from r);subst e;exact V4 P w i t
 |inr x=>obtain⟨t,e⟩:=(show ∃t,u=Value.str x t from r);subst e;exact dq P w x t
theorem Xq{P:Program}{w:World}:∀{ks:List Key}{us:List Value},Vals (ks.map kV) us->ItemsAre (yp P w) ks us
 |[],_,r=>by rw[zbO]at r;cases r;exact .nil
 |k::ks,_,r=>by
  rw[zaB]at r;cases r with
  |cons h t=>exact .cons (Sk h) (Xq t)
abbrev KT(H:Hp):List (List Key×V)->List (List Key×Addr×Value)->Prop:=Paired λp q=>p.1=q.1/\H q.2.1=some (.tup (p.1.map kV))/\RelV p.2 q.2.2
def KT.val{H:Hp}{kvs:List (List Key×V)}{E:List (List Key×Addr×Value)}(r:KT H kvs E)(k:List Key):RelO (valV kvs k) ((atKey E k).map (·.2)):=by
 induction r with
 |nil=>exact zcR
 |@cons p q ps qs h t ih =>
  obtain⟨h1,_,h2⟩:=h;by_cases e:p.1=k
  ·have a:q.1=k:=h1.symm.trans e;have b:atKey (q::qs) k=some q.2:=by simp[atKey,zeA,a]
   rw[gw e,b];exact h2
  have a:¬ q.1=k:=λz=>e (h1.trans z);have b:atKey (q::qs) k=atKey qs k:=by simp[atKey,zeA,a]
  rw[gy e,b];exact ih
def KT.repl{H:Hp}{kvs:List (List Key×V)}{E:List (List Key×Addr×Value)}(r:KT H kvs E)(k:List Key){y:V}{u:Value}(d:RelV y u) :
  KT H (kvs.map λa=>if a.1=k then(a.1,y) else a) (E.map (putAt k u)):=by
 induction r with
 |nil=>exact .nil
 |@cons p q ps qs h t ih =>
  rw[zaB,zaB];refine .cons ?_ ih;obtain⟨h1,h2,g⟩:=h;unfold putAt;by_cases e:p.1=k
  ·rw[zaK e,zaK (h1.symm.trans e)];exact⟨h1,h2,d⟩
  rw[zaJ e,zaJ (λz=>e (h1.trans z))];exact⟨h1,h2,g⟩
def KT.put{H:Hp}{kvs:List (List Key×V)}{E:List (List Key×Addr×Value)}(r:KT H kvs E)(k:List Key){b:Addr}{y:V}{u:Value}(g:H b=some (.tup (k.map kV)))(a:RelV y u) :
  KT H (putK kvs k y) (storedH E k b u):=by
 have e:(kvs.any λd=>decide (d.1=k))=(atKey E k).isSome:=by
  rw[U1,(r.val k).isSome_eq,Option.isSome_map]
 unfold putK storedH;rw[e];by_cases q:(atKey E k).isSome=true
 ·rw[zaK q,zaK q];exact r.repl k a
 rw[zaJ q,zaJ q];exact Paired.snoc r ⟨rfl,g,a⟩
def KT.keeps{H H':Hp}{kvs:List (List Key×V)}{E:List (List Key×Addr×Value)}(r:KT H kvs E)(a:∀ b ys,H b=some (.tup ys)->H' b=some (.tup ys)):KT H' kvs E :=
 Paired.mapP r λ_ _ z=>⟨z.1,a _ _ z.2.1,z.2.2⟩
def Dn{u:HO}(ok:HOk P w H h)(e:Rd H a u):we P w H h a u:=e.ok ok
def R7{kvs:List (Key×V)}(ok:HOk P w H h)(e:Rd H a (.dK kvs)):kvs.length<=sizeLine/\(a==sysModules)=false/\∃vs,KV kvs vs/\h.DictOf (yp P w) a vs :=
 show we P w H h a (.dK kvs) from Dn ok e
def K1{kvs:List (Key×V)}(ok:HOk P w H h)(e:H a=some (.dK kvs)):kvs.length<=sizeLine/\(a==sysModules)=false/\∃vs,KV kvs vs/\h.DictOf (yp P w) a vs:=R7 ok (.inl e)
def Uv{ks:List Key}(ok:HOk P w H h)(e:H a=some (.tup (ks.map kV))):(tupleKind (yp P w)).is h ks a:=by
 obtain⟨_,its,r,⟨o,h1,h2,n,d⟩,_⟩:=(show we P w H h a (.tup (ks.map kV)) from ok a _ e);exact⟨o,its.toArray,n,h1,h2,d,by simpa using Xq r⟩
def Oo{kvs:List (List Key×V)}(ok:HOk P w H h)(e:Rd H a (.dT kvs)):kvs.length<=sizeLine/\(a==sysModules)=false /\
  ∃E,KT H kvs E/\h.DictOfH (tupleKind (yp P w)) a E:=by
 obtain⟨z,y,E,r,o,J,ep,h1,h2,k,j,g⟩:=(show we P w H h a (.dT kvs) from Dn ok e);refine⟨z,y,E,r,o,J,ep,h1,h2,k,j,λx d=>?_,g⟩;have all:∀{l:List (List Key×V)}{m:List (List Key×Addr×Value)},KT H l m->∀x∈m,(tupleKind (yp P w)).is h x.1 x.2.1:=by
  intro l m q
  induction q with
  |nil=>intro x d;exact nomatch d
  |@cons p q ps qs hq t ih =>
   intro x d;rcases zam.mp d with e|d
   ·subst e;exact Uv ok (by rw[<- hq.1];exact hq.2.1)
   exact ih x d
 exact all r x d
def z1z{kvs:List (List Key×V)}(ok:HOk P w H h)(e:H a=some (.dT kvs)):kvs.length<=sizeLine/\(a==sysModules)=false /\
  ∃E,KT H kvs E/\h.DictOfH (tupleKind (yp P w)) a E:=Oo ok (.inl e)
def DGet(H:Hp)(a:Addr)(y:V)(r:Option V):Prop :=
 (∃kvs k,Rd H a (.dK kvs)/\y=kV k/\r=valV kvs k)\/∃kvs k b,Rd H a (.dT kvs)/\y=.ref b/\H b=some (.tup (k.map kV))/\r=valV kvs k
def DPut(H:Hp)(a:Addr)(y v:V)(H':Hp):Prop :=
 (∃kvs k,H a=some (.dK kvs)/\y=kV k/\kvs.length<sizeLine/\H'=upd H a (.dK (putK kvs k v))) \/
 ∃kvs k b,H a=some (.dT kvs)/\y=.ref b/\H b=some (.tup (k.map kV))/\kvs.length<sizeLine/\H'=upd H a (.dT (putK kvs k v))
def DGet.k{H:Hp}{a:Addr}{kvs:List (Key×V)}{k:Key}(e:H a=some (.dK kvs)):DGet H a (kV k) (valV kvs k):=.inl ⟨kvs,k,.inl e,rfl,rfl⟩
def DPut.k{H:Hp}{a:Addr}{kvs:List (Key×V)}{k:Key}{v:V}(e:H a=some (.dK kvs))(hl:kvs.length<sizeLine):DPut H a (kV k) v (upd H a (.dK (putK kvs k v))):=.inl ⟨kvs,k,e,rfl,hl,rfl⟩
variable{y:V}{u r:Value}{o:Option V}
def Inv.big(I:Inv X pn Y H s):sysModules<s.heap.objs.size:=by
 have h:mainGlobals<s.heap.objs.size:=(I.mod.glob.keeps I.bk).lt;exact zeO aB h
def Ot{Q:Value->Shared->Prop}(hu:A.units+1<cLine)(I:Inv X pn Y H s)(g:DGet H a y (some v))(D:RelV y u)(h:∀ q s',Inv X pn Y H s'->RelV v q->Q q s') :
  wpAny (model X.prog X.w) A (getItem (.ref a) u) Q xs s:=by
 rcases g with⟨kvs,k,e,B,l⟩|⟨kvs,k,b,e,B,L,l⟩
 ·subst B;obtain⟨z,es,vs,j,dd⟩:=R7 I.hok e;obtain⟨q,r,d⟩:=RelO.some_of (v:=v) (o:=valueAt vs k) (by rw[l];exact j.val k)
  exact wpAny_getItem_of (Sk D) dd.mapOf r (h q _ (I.tok _) d)
 subst B;cases (show u=Value.ref b from D);obtain⟨z,es,E,j,dd⟩:=Oo I.hok e;obtain⟨q,r,d⟩:=RelO.some_of (v:=v) (o:=(atKey E k).map (·.2)) (by rw[l];exact j.val k)
 obtain⟨p,G,x⟩:=zar.mp r;refine wpAny_getItem_heap (tupleKind_room_in1 hu) (Uv I.hok L) dd G ?_;rw[x];exact h q _ (I.tok _) d
def d_in{Q:Value->Shared->Prop}(hu:A.units+1<cLine)(I:Inv X pn Y H s)(g:DGet H a y o)(v:RelV y u)(h:∀ s',Inv X pn Y H s'->Q (.bool o.isSome) s') :
  wpAny (model X.prog X.w) A (compareOp .In u (.ref a)) Q xs s:=by
 rcases g with⟨kvs,k,e,r,l⟩|⟨kvs,k,b,e,r,x,l⟩
 ·subst r;obtain⟨z,j,vs,d,dd⟩:=R7 I.hok e;refine wpAny_in_of (Sk v) j dd.mapOf ?_;rw[<- (d.val k).isSome_eq,<- l];exact h _ (I.tok _)
 subst r;cases (show u=Value.ref b from v);obtain⟨z,j,E,d,dd⟩:=Oo I.hok e;refine wpAny_in_heap (tupleKind_room_in1 hu) (Uv I.hok x) j dd ?_;have q:=(d.val k).isSome_eq;rw[Option.isSome_map]at q;rw[<- q,<- l];exact h _ (I.tok _)
def Yr{h':Heap}{t':Nat}{d:HO}(I:Inv X pn Y H s)(g:Mut (H a))(j:Heap.SameBut a s.heap h')(k:∃ q,h'.get? a=some q)(new:we X.prog X.w (upd H a d) h' a d) :
  Inv X pn Y (upd H a d) {s with heap:=h',toks:=t'} :=
 I.write (x:=a) (e:=a) g (.inl rfl) (λb q l z=>(j.2 b l).trans z) k new
def Wb{P:Program}{w:World}{H':Hp}{h':Heap}{kvs:List (Key×V)}{vs:List (Key×Value)}(z:kvs.length<=sizeLine)(e:(a==sysModules)=false)(d:KV kvs vs)(dd:h'.DictOf (yp P w) a vs) :
  we P w H' h' a (.dK kvs):=⟨z,e,vs,d,dd⟩
def Oq{H':Hp}{Q:Unit->Shared->Prop}(hu:A.units+1<cLine)(I:Inv X pn Y H s)(g:DPut H a y v H')(N:RelV y u)(O:RelV v r)(h:∀ s',Inv X pn Y H' s'->Q () s') :
  wpAny (model X.prog X.w) A (setItem (.ref a) u r) Q xs s:=by
 rcases g with⟨kvs,k,e,es,l,L⟩|⟨kvs,k,b,e,es,V,l,L⟩
 ·subst es L;obtain⟨z,G,vs,d,dd⟩:=K1 I.hok e;have B:vs.length<=sizeLine:=by rw[<- d.length];exact z
  have hl:(putK kvs k v).length<=sizeLine:=by have:=qx kvs k v;lia
  refine wpAny_setItem_pairs (hsz:=B) (Sk N) dd λh' j D=>h _ ?_;have W:∃q,h'.get? a=some q:=let ⟨q,_,_,x,_⟩:=j;⟨q,x⟩
  exact Yr I (by rw[e];exact zcR) D W (Wb hl G (d.put k O) j)
 subst es L;cases (show u=Value.ref b from N);obtain⟨z,G,E,d,dd⟩:=z1z I.hok e;have B:E.length<=sizeLine:=by rw[<- zfQ d];exact z
 have hl:(putK kvs k v).length<=sizeLine:=by have:=qx kvs k v;lia
 refine wpAny_setItem_heap (hsz:=B) (tupleKind_room_in1 hu) (Uv I.hok V) dd λh' j D=>h _ ?_;obtain⟨q,J,ep,x,h2,h3,h4,_,Z⟩:=j;refine Yr I (by rw[e];exact zcR) D ⟨q,x⟩ ⟨hl,G,_,(d.put k V O).keeps λc ys R=>?_,q,J,ep,x,h2,h3,h4,Z⟩
 rw[zx (z1g R e nofun)];exact R
variable{kvs:List (Key×V)}
def z2a{Q:Value->Shared->Prop}(I:Inv X pn Y H s)(e:Rd H a (.dK kvs))(h:∀ t s',Inv X pn Y H s'->Q (.int kvs.length t) s'):wpAny (model X.prog X.w) A (call (.builtin "len") [.ref a]) Q xs s:=by
 obtain⟨z,g,vs,d,dd⟩:=R7 I.hok e;refine call_len_dict g dd (by rw[<- d.length];rw[zbH]at z;lia) ?_
 rw[<- d.length];exact h _ _ (I.tok _)
def Vr{X:Cx}{pn:List (Addr×Obj)}{Y:St}{H:Hp}{s:Shared}{a:Addr}{y:V}{o:Option V}(I:Inv X pn Y H s)(g:DGet H a y o):s.TypeIs (.ref a) "dict":=by
 rcases g with⟨kvs,k,e,_,_⟩|⟨kvs,k,b,e,_,_,_⟩
 ·obtain⟨_,_,vs,_,dd⟩:=R7 I.hok e;exact dd.typeIs
 obtain⟨_,_,E,_,dd⟩:=Oo I.hok e;exact dd.typeIs
def z0v(td ty tv:TE):TS:=λD Y H=>tv Y H λv H1=>td Y H1 λx H2=>ty Y H2 λy d=>∃a H4,x=.ref a/\DPut d a y v H4/\D.nx Y H4
section
variable{o i value:Expr}{pos pos':Pos}{td ty tv:TE}
def Ge(hu:X.A.units+1<cLine)(ho:PE X o td)(hi:PE X i ty)(z:PE X value tv)(B:swapsWith value (some (.Subscript o i pos')) pos.line X.env=pure false) :
  PS X (.Assign [.Subscript o i pos'] value pos) (z0v td ty tv):=by
 intro pn s Y H D I h;refine wpAny_Assign_Subscript (thn (z pn s Y H _ I h) λr s1 ⟨v,H1,N,j,q⟩=>thn (ho pn s1 Y H1 _ N q) λu s2 ⟨x,H2,L,e,l⟩=>thn (hi pn s2 Y H2 _ L l) λV R Zh=>?_) B;obtain⟨y,W,es,d,a,O,ex,g,k⟩:=Zh;subst ex;obtain rfl:u=Value.ref a:=e;exact Oq hu es g d j λQ G=>⟨Y,O,G,k⟩
end
def Td{P:Program}{w:World}{H:Hp}(h:Heap)(a:sysModules<h.objs.size):we P w H (h.push {cls:=.type "dict",data:=.dict #[]}) h.objs.size (.dK []) :=
 ⟨zcB _,zbA.mpr (Ne.symm (zaT a)),[],.nil,Heap.DictOf.new h⟩
def D3:TE:=λ_ H Q=>∀p,H p=none->Q (.ref p) (upd H p (.dK []))
section
variable{pos:Pos}
def Mh:PE X (.Dict [] [] pos) D3:=λpn s Y H Q I h =>
 wpAny_Dict_empty ⟨.ref s.heap.objs.size,_,I.laid (a:=s.heap.objs.size) (o:=.dK []) (t':=s.toks) (λ_ _ q=>zac _ q) (zaj _) (Td s.heap I.big),rfl,h _ (I.hok.fresh (zaj _))⟩
end
def Rq:List (TE×TE)->St->Hp->(List (V×V)->Hp->Prop)->Prop
 |[],_,H,Q=>Q [] H
 |(tk,tv)::r,Y,H,Q=>tk Y H λx H1=>tv Y H1 λy H2=>Rq r Y H2 λps a=>Q ((x,y)::ps) a
abbrev VV:List (V×V)->List (Value×Value)->Prop:=Paired λp q=>RelV p.1 q.1/\RelV p.2 q.2
def PPs(X:Cx)(pos:Pos)(d:List (Option Expr))(a:List Expr)(e:List (TE×TE)):Prop :=
 ∀(pn:List (Addr×Obj))(s:Shared)(Y:St)(H:Hp)(Q:List (V×V)->Hp->Prop),Inv X pn Y H s->Rq e Y H Q ->
  wpAny (model X.prog X.w) X.A (evalPairs (pairTrees d a X.env pos)) (λvs s'=>∃ps H',Inv X pn Y H' s'/\VV ps vs/\Q ps H') X.xe s
def Wz{X:Cx}{pos:Pos}:PPs X pos [] [] []:=λpn s Y H Q I h=>pairTrees_nil_walk ⟨[],H,I,.nil,h⟩
def rq{X:Cx}{pos:Pos}{k v:Expr}{ks:List (Option Expr)}{vs:List Expr}{tk tv:TE}{a:List (TE×TE)}(z:PE X k tk)(r:PE X v tv)(hr:PPs X pos ks vs a) :
  PPs X pos (some k::ks) (v::vs) ((tk,tv)::a):=λpn s Y H Q I h =>
 pairTrees_cons_walk (thn (z pn s Y H _ I h) λu s1 ⟨x,H1,G,g,q⟩=>thn (r pn s1 Y H1 _ G q) λw2 s2 ⟨y,H2,D,e,l⟩ =>
  thn (hr pn s2 Y H2 _ D l) λL N ⟨ps,es,B,d,j⟩=>⟨(x,y)::ps,es,B,.cons ⟨g,e⟩ d,j⟩)
noncomputable def sv(kvs more:List (Key×V)):List (Key×V):=more.foldl (λa d=>putK a d.1 d.2) kvs
def KV.merge:∀{more:List (Key×V)}{rs:List (Key×Value)}{kvs:List (Key×V)}{vs:List (Key×Value)},KV more rs->KV kvs vs->KV (sv kvs more) (merged vs rs):=by
 intro more rs kvs vs r;unfold KV at r
 induction r generalizing kvs vs with
 |nil=>intro q;exact q
 |@cons p q ps qs h t ih =>
  intro a;have e:KV (putK kvs p.1 p.2) (stored vs q.1 q.2):=by
   have:=a.put p.1 h.2;rw[<- h.1];exact this
  exact ih e
theorem ja:∀(more kvs:List (Key×V)),(sv kvs more).length<=kvs.length+more.length
 |[],kvs=>by show kvs.length<=kvs.length+0;lia
 |p::r,kvs=>by
  have h1:=ja r (putK kvs p.1 p.2);have h2:=qx kvs p.1 p.2;show(sv (putK kvs p.1 p.2) r).length<=_;rw[zLc];lia
theorem Zl{P:Program}{w:World}:∀{kvs:List (Key×V)}{ws:List (Value×Value)},VV (kvs.map λd=>(kV d.1,d.2)) ws->∃rs,Carries (yp P w) ws rs/\KV kvs rs
 |[],_,r=>by rw[zbO]at r;cases r;exact⟨[],zcR,.nil⟩
 |p::kvs,_,r=>by
  rw[zaB]at r;cases r with
  |@cons a b as bs h t =>
   obtain⟨rs,c,q⟩:=Zl (P:=P) (w:=w) t;obtain⟨b1,b2⟩:=b;exact⟨(p.1,b2)::rs,⟨Sk h.1,rfl,c⟩,.cons ⟨rfl,h.2⟩ q⟩
def z0p(a:List (TE×TE)):TE:=λY H Q=>∀p,H p=none->Rq a Y (upd H p (.dK [])) λps H2=>H2 p=some (.dK [])/\∃kvs:List (Key×V),ps=kvs.map (λd=>(kV d.1,d.2))/\kvs.length<=15/\Q (.ref p) (upd H2 p (.dK (sv [] kvs)))
def V0{X:Cx}{pos:Pos}{d:List (Option Expr)}{g:List Expr}{j:List (TE×TE)}(h:PPs X pos d g j)(k:d.all (·.isSome)=true)(hl:d.length=g.length)(h0:d≠[])(u:d.length<=15):PE X (.Dict d g pos) (z0p j):=by
 intro pn s Y H Q I q;have L:=I.hok.fresh (zaj s.heap.objs.size);have R:=I.laid (a:=s.heap.objs.size) (o:=.dK []) (h':=s.heap.push {cls:=.type "dict",data:=.dict #[]}) (t':=s.toks) (λ_ _ q=>zac _ q) (zaj _) (Td s.heap I.big);refine wpAny_Dict_walk (knd:=yp X.prog X.w) k hl h0 u (thn (h pn _ Y _ _ R (q _ L)) λV s2 Zh=>?_);obtain⟨ps,H2,v,r,e,kvs,ep,W,D⟩:=Zh;subst ep;obtain⟨rs,c,y⟩:=Zl (P:=X.prog) (w:=X.w) r;obtain⟨z,O,x,B,dd⟩:=K1 v.hok e;cases B;refine⟨rs,c,dd,λh' l es=>⟨.ref s.heap.objs.size,_,?_,rfl,D⟩⟩;have G:(sv [] kvs).length<=sizeLine:=by
  have h1:=ja kvs [];rw[zLn]at h1;rw[zbH];lia
 have N:∃q,h'.get? s.heap.objs.size=some q:=let ⟨q,_,_,hq,_⟩:=l;⟨q,hq⟩
 exact Yr v (by rw[e];exact zcR) es N (Wb G O (y.merge .nil) l)
structure M1(X:Cx)(o:Expr)(m:Str)(apos:Pos)(e:Expr)(cpos:Pos):Prop where
 base:attributeBase o m X.env (eval o X.env)=eval o X.env
 few:((backTo cpos (starEach [e] X.env)).all (λx=>!x.1)&&(backToKw cpos (keywordEach [] X.env)).all (λx=>x.1.isSome)
  && decide (([e]:List Expr).length+([]:List Keyword).length+(if ([]:List Keyword).isEmpty then 0 else 1)<30))=true
 line:(apos.endLine==cpos.line)=true
 trees:backTo cpos (starEach [e] X.env)=[(false,eval e X.env)]
def IsD(H:Hp)(a:Addr):Prop:=(∃kvs,Rd H a (.dK kvs))\/∃kvs,Rd H a (.dT kvs)
def Bq{X:Cx}{pn:List (Addr×Obj)}{Y:St}{H:Hp}{s:Shared}{a:Addr}(I:Inv X pn Y H s)(d:IsD H a) :
  s.TypeIs (.ref a) "dict"/\(∀b,Value.ref a=.ref b->∃g,s.heap.get? b=some g/\g.dict=none)/\(a==sysModules)=false:=by
 rcases d with⟨kvs,e⟩|⟨kvs,e⟩
 ·obtain⟨_,j,vs,_,dd⟩:=R7 I.hok e;refine⟨dd.typeIs,λb q=>?_,j⟩;cases q;obtain⟨g,_,_,h1,h2,_⟩:=dd;exact⟨g,h1,h2.2.1⟩
 obtain⟨_,j,E,_,dd⟩:=Oo I.hok e;refine⟨dd.typeIs,λb q=>?_,j⟩;cases q;obtain⟨g,_,_,h1,h2,_⟩:=dd;exact⟨g,h1,h2.2.1⟩
def N1:t8 X (.builtin "len") (λE H Q=>∃a kvs,E=[V.ref a]/\H a=some (.dK kvs)/\Q (.int kvs.length) H):=by
 intro pn s Y H E us Q I r h;obtain⟨a,kvs,rfl,e,q⟩:=h;obtain⟨u,rfl,d⟩:=kg r;cases d;exact z2a I (.inl e) λt s' g=>⟨.int kvs.length,H,g,⟨t,rfl⟩,q⟩
instance decMemKey (k:Key) (ks:List Key):Decidable (k∈ks):=decidable_of_iff (ks.any (λx=>decide (x=k))=true) aE
variable{α:Type}
noncomputable def u0:List Key->List α->Key->Option α
 |k'::ks,d::S,k=>if k'=k then some d else u0 ks S k
 |_,_,_=>none
noncomputable def kput(ks:List Key)(k:Key):List Key:=if k∈ks then ks else ks++[k]
noncomputable def dput:List Key->List α->Key->α->List α
 |k'::ks,d'::S,k,d=>if k'=k then d::S else d'::dput ks S k d
 |_,_,_,d=>[d]
theorem Zq:∀(ks:List Key)(E:List V)(k:Key),valV (ks.zip E) k=u0 ks E k
 |[],E,k=>by cases E <;> rfl
 |k'::ks,[],k=>rfl
 |k'::ks,x::E,k=>by
  rw[zaL,u0];by_cases e:k'=k
  ·rw[zaK e,gw (by exact e)]
  rw[zaJ e,gy (by exact e),Zq ks E k]
theorem qb{α:Type}:∀{ks:List Key}{E:List α}{k:Key},ks.length=E.length->(u0 ks E k=none ↔ k∉ks)
 |[],E,k,h=>by cases E <;> simp[u0] at *
 |k'::ks,[],k,h=>by simp at h
 |k'::ks,x::E,k,h=>by
  rw[u0];by_cases e:k'=k
  ·simp[e]
  rw[zaJ e,qb (by simpa using h)]
  simp[e,Ne.symm e]
theorem Pc:∀(ks:List Key)(E:List V)(k:Key)(v:V),k∉ks->(ks.zip E).map (λa=>if a.1=k then(a.1,v) else a)=ks.zip E
 |[],E,k,v,_=>by cases E <;> rfl
 |k'::ks,[],k,v,_=>rfl
 |k'::ks,x::E,k,v,h=>by
  rw[zaL,zaB,Pc ks E k v λz=>h (zal _ z)];rw[zaJ (by intro z;exact h (zam.mpr (.inl z.symm)))]
theorem Vw:∀{ks:List Key}{E:List V}{k:Key},ks.length=E.length->(((ks.zip E).any λa=>decide (a.1=k))=true ↔ k∈ks)
 |[],E,k,h=>by cases E <;> simp at *
 |k'::ks,[],k,h=>by simp at h
 |k'::ks,x::E,k,h=>by
  rw[zaL,zdR,Bool.or_eq_true,Vw (by simpa using h)]
  simp[eq_comm]
theorem J7:∀{ks:List Key}{E:List V}{k:Key}{v:V},ks.Nodup->ks.length=E.length->k∈ks->(ks.zip E).map (λa=>if a.1=k then(a.1,v) else a)=ks.zip (dput ks E k v)
 |[],_,_,_,_,_,h=>by cases h
 |k'::ks,[],_,_,_,h,_=>by simp at h
 |k'::ks,x::E,k,v,nd,hl,h=>by
  obtain⟨g,d⟩:=zaQ.mp nd;rw[zaL,zaB,dput];by_cases e:k'=k
  ·subst e;rw[zaK rfl,zaK rfl,Pc ks E k' v g,zaL]
  rw[zaJ e,zaJ e,zaL,J7 d (by simpa using hl) ((zam.mp h).resolve_left (Ne.symm e))]
theorem fi{α:Type}:∀{ks:List Key}{E:List α}{k:Key}{v:α},ks.length=E.length->k∉ks->dput ks E k v=E++[v]
 |[],E,k,v,h,_=>by
  cases E with
  |nil=>rfl
  |cons=>simp at h
 |k'::ks,[],_,_,h,_=>by simp at h
 |k'::ks,x::E,k,v,h,hn=>by
  rw[dput,zaJ (λz=>hn (zam.mpr (.inl z.symm))),fi (by simpa using h) λz=>hn (zal _ z)]
  rfl
def M6(a:ks.Nodup)(hl:ks.length=E.length):putK (ks.zip E) k v=(kput ks k).zip (dput ks E k v):=by
 unfold putK kput;by_cases h:k∈ks
 ·rw[zaK ((Vw hl).mpr h),zaK h,J7 a hl h]
 rw[zaJ (λz=>h ((Vw hl).mp z)),zaJ h,fi hl h,List.zip_append hl];rfl
def Lz{α:Type}:∀{ks:List Key}{E:List α}{k:Key}{v:α},ks.length=E.length->(kput ks k).length=(dput ks E k v).length:=λ{ks E k v} h=>by
 by_cases hk:k∈ks
 ·unfold kput;rw[zaK hk]
  induction ks generalizing E with
  |nil=>cases hk
  |cons k' ks ih =>
   cases E with
   |nil=>simp at h
   |cons x E =>
    rw[dput];by_cases e:k'=k
    ·rw[zaK e];simpa using h
    rw[zaJ e];have:=ih (E:=E) (by simpa using h) ((zam.mp hk).resolve_left (Ne.symm e))
    simp[this]
 rw[fi h hk];unfold kput;rw[zaJ hk];simp[h]
def Sj(d:ks.Nodup):(kput ks k).Nodup:=by
 unfold kput;split
 ·exact d
 rename_i h;exact zaO.mpr ⟨d,by simp,by intro a j b g e;simp at g;subst g;exact h (e▸j)⟩
theorem Xa:∀{ks:List Key}{S:List D}{E:List V}{k:Key},Reps K H O S E->(∀d,u0 ks S k=some d->∃v,u0 ks E k=some v/\Rep K H O d v)/\(u0 ks S k=none->u0 ks E k=none)
 |[],S,E,k,r=>⟨(λd h=>by cases S <;> cases h),(λ_=>by cases E <;> rfl)⟩
 |k'::ks,[],E,k,r=>by
  cases r
  exact⟨(λd h=>by cases h),λ_=>rfl⟩
 |k'::ks,d'::S,E,k,r=>by
  obtain⟨v,a,rfl,q,t⟩:=r;rw[u0,u0];by_cases e:k'=k
  ·rw[zaK e,zaK e];exact⟨(λd h=>by cases h;exact⟨v,rfl,q⟩),(λh=>by cases h)⟩
  rw[zaJ e,zaJ e];exact Xa t
theorem Xc:∀{ks:List Key}{S:List D}{E:List V}{k:Key}{d:D}{v:V},Reps K H O S E->Rep K H O d v->Reps K H O (dput ks S k d) (dput ks E k v)
 |[],S,E,k,d,v,r,q=>by
  have e1:dput ([]:List Key) S k d=[d]:=by cases S <;> rfl
  have e2:dput ([]:List Key) E k v=[v]:=by cases E <;> rfl
  rw[e1,e2];exact zj.one q
 |k'::ks,[],E,k,d,v,r,q=>by
  cases r
  exact zj.one q
 |k'::ks,d'::S,E,k,d,v,r,q=>by
  obtain⟨g,a,rfl,j,t⟩:=r;rw[dput,dput];by_cases e:k'=k
  ·rw[zaK e,zaK e];exact⟨v,a,rfl,q,t⟩
  rw[zaJ e,zaJ e];exact⟨g,_,rfl,j,Xc t q⟩
noncomputable def keyD:D->Option Key
 |.int i=>some (.inl i)
 |.str x=>some (.inr x)
 |_=>none
def f7{K:W.Frag}{H:Hp}{O:List Addr}{d:D}{v:V}{k:Key}(h:View K H O d v)(e:keyD d=some k):v=kV k:=by
 cases d with
 |int i=>cases e;exact h
 |str i=>cases e;exact h
 |_=>cases e
section
variable{a b e o:Expr}{ta tb td:TD}{t:TDs}{pos:Pos}
def Lx:ED L X (.Dict [] [] pos) (λ_ M=>M (df (.dk [] []))):=λH_=>impE Mh λY H Q q=>by
 obtain⟨U,o,R,M,a,k⟩:=q;intro p d;exact k (.ref p) (df (.dk [] [])) _ (y9 d _) ⟨p,rfl,d,R.ofree d,[],zk,rfl,zcK,rfl⟩ a
def Co(hu:X.A.units+1<cLine):OpR X (compareOp .In) (λx y H Q=>∃a kvs k,y=.ref a/\H a=some (.dK kvs)/\x=kV k/\Q (.bl (valV kvs k).isSome) H):=by
 intro pn s Y H x y v u Q I e d h;obtain⟨a,kvs,k,rfl,g,rfl,q⟩:=h;cases d;exact d_in hu I (DGet.k g) e λs' j=>⟨.bl _,H,j,rfl,q⟩
def Vg{α:Type}{ks:List Key}{E:List α}(h:ks.length=E.length):(u0 ks E k).isSome=decide (k∈ks):=by
 by_cases hk:k∈ks
 ·rw[zdT hk];cases e:u0 ks E k with
  |none=>exact absurd hk ((qb h).mp e)
  |some _=>rfl
 rw[zbQ hk,(qb h).mpr hk];rfl
noncomputable def Yl:D->Bool
 |.non=>true
 |.bl _=>true
 |.int _=>true
 |.str _=>true
 |_=>false
noncomputable def inD(x:D)(l:List D):Bool:=l.any λy=>eqD y x
def sIn(a:Bool):D->D->(EV->Prop)->Prop:=λx y M=>match y with
 |.dk ks _=>(match keyD x with|some k=>M (dv (.bl (if a then !decide (k∈ks) else decide (k∈ks))))|none=>False)
 |.lst l=>Yl x=true/\l.all Yl=true/\M (dv (.bl (if a then !inD x l else inD x l)))
 |.tup l=>Yl x=true/\l.all Yl=true/\M (dv (.bl (if a then !inD x l else inD x l)))
 |.str z=>(match x with|.str p=>M (dv (.bl (if a then !(!(Builtin.Str.occurrences z p 0 z.length 1).isEmpty) else !(Builtin.Str.occurrences z p 0 z.length 1).isEmpty)))|_=>False)
 |_=>False
def cj{K:W.Frag}{H:Hp}{O:List Addr}{d:D}{v:V}(h:View K H O d v)(f:Yl d=true):ba v=true/\∀(e:D)(w:V),View K H O e w->Yl e=true->eqV v w=eqD d e:=by
 cases d with
 |non=>cases (show v=_ from h);exact⟨rfl,λe w a g=>by cases e <;> first|(cases (show w=_ from a);rfl)|cases g⟩
 |bl b=>cases (show v=_ from h);exact⟨rfl,λe w a g=>by cases e <;> first|(cases (show w=_ from a);rfl)|cases g⟩
 |int b=>cases (show v=_ from h);exact⟨rfl,λe w a g=>by cases e <;> first|(cases (show w=_ from a);rfl)|cases g⟩
 |str b=>cases (show v=_ from h);exact⟨rfl,λe w a g=>by cases e <;> first|(cases (show w=_ from a);rfl)|cases g⟩
 |_=>cases f
theorem Vh{K:W.Frag}{H:Hp}{O:List Addr}{x:D}{v:V}(a:View K H O x v)(e:Yl x=true):∀{l:List D}{E:List V},Reps K H O l E->l.all Yl=true->E.all ba=true/\inV v E=inD x l
 |[],_,r,_=>by cases r;exact⟨rfl,rfl⟩
 |d::l,E,r,f=>by
  obtain⟨w,g,rfl,q,t⟩:=r;rw[zeQ,zcF]at f;obtain⟨i1,i2⟩:=Vh a e t f.2;obtain⟨g1,g2⟩:=cj q.view f.1;refine⟨by rw[zeQ,g1,i1];rfl,?_⟩
  unfold inV inD at *;rw[zdR,zdR,i2,g2 x v a e]
def Fa{K:W.Frag}{d:Bool}:ga K (λx y H Q=>(∃a kvs k,y=.ref a/\H a=some (.dK kvs)/\x=kV k/\Q (.bl (if d then !(valV kvs k).isSome else(valV kvs k).isSome)) H)\/rIn K d x y H Q\/∃i j,x=.str i/\y=.str j/\Q (.bl (if d then !(!(Builtin.Str.occurrences j i 0 j.length 1).isEmpty) else !(Builtin.Str.occurrences j i 0 j.length 1).isEmpty)) H) (sIn d):=by
 intro H O x y G D M Q ho e u h k;unfold sIn at h;split at h
 ·split at h
  ·rename_i ks S z B;obtain⟨a,E,rfl,q,l,I,r⟩:=u;refine .inl ⟨a,_,z,rfl,q,f7 e B,?_⟩;rw[Zq,Vg (by rw[l,r.length])]
   exact k _ _ H (Same.refl H) aH h
  exact h.elim
 ·obtain⟨g,v,h⟩:=h;obtain⟨a,E,rfl,q,r⟩:=u;obtain⟨g1,g2⟩:=Vh e g r v;refine .inr (.inl ⟨a,E,rfl,.inl (SqL.of q),(cj e g).1,g1,?_⟩);rw[g2];exact k _ _ H (Same.refl H) aH h
 ·obtain⟨g,v,h⟩:=h;obtain⟨a,E,rfl,q,r⟩:=u;obtain⟨g1,g2⟩:=Vh e g r v;refine .inr (.inl ⟨a,E,rfl,.inr q.1,(cj e g).1,g1,?_⟩);rw[g2];exact k _ _ H (Same.refl H) aH h
 ·split at h
  ·exact .inr (.inr ⟨_,_,e,u,k _ _ H (Same.refl H) aH h⟩)
  exact h.elim
 exact h.elim
def Lr(hu:X.A.units+64<cLine)(g:ED L X a ta)(e:ED L X b tb)(d:behindInMarks .In b=false:=by with_unfolding_all rfl):ET L X (.Compare a [.In] [b] pos) (tBo (d2 (sIn false) ta tb)):=rj ((Co aD).or (P2.or P1)) Fa g e d
def sIxx:D->D->(EV->Prop)->Prop:=λx y M=>match x with
 | .dk ks S=>(match keyD y with
  | some k=>(match u0 ks S k with
   |some d=>M (dv d)
   | none=>False)
  | none=>False)
 |x=>sIx1 x y M
def V7(hu:X.A.units+1<cLine):IxR X (λx y H Q=>∃a kvs k v,x=.ref a/\H a=some (.dK kvs)/\y=kV k/\valV kvs k=some v/\Q v H):=by
 intro value d pn s Y H x y v u Q I r l h z;obtain⟨a,kvs,k,w,rfl,B,rfl,e,q⟩:=h;cases r;have g:DGet H a (kV k) (some w):=by rw[<- e];exact DGet.k B
 exact tail_any (Vr I g) PySem.F.slot_dict_getitem.lookup (Ot hu I g l λG s' D j=>⟨w,H,D,j,q⟩) z
def Mt:ga X.K (λx y H Q=>rIx X.K x y H Q\/∃a kvs k v,x=.ref a/\H a=some (.dK kvs)/\y=kV k/\valV kvs k=some v/\Q v H) sIxx:=by
 intro H O x y z u M Q ho j g h k;cases x with
 |dk ks S =>
  obtain⟨a,E,rfl,q,l,es,r⟩:=j;unfold sIxx at h
  dsimp only at h
  split at h
  ·rename_i e G;split at h
   ·rename_i d I;obtain⟨v,D,B⟩:=(Xa (ks:=ks) (k:=e) r).1 d I;exact .inr ⟨a,_,e,v,rfl,q,f7 g G,by rw[Zq];exact D,k _ _ H (Same.refl H) (RV.val B) h⟩
   exact h.elim
  exact h.elim
 |_=>exact .inl (F8 H O _ y z u M Q ho j g h k)
def zf(hu:X.A.units+64<cLine)(g:ED L X a ta)(e:ED L X b tb)(d:g9 b:=by intro _ _;rfl):ED L X (.Subscript a b pos) (d2 sIxx ta tb):=λH_=>impE (db (Jc.or (V7 aD)) (g H_) (e H_) d) (Mz Mt)
end
section
variable{x:Str}{e ke:Expr}{te tk:TD}{np pos pos':Pos}
def X7(i:Nat)(tk te:TD):TDS:=λU Z=>match slot U i with
 | some ⟨.own,.dk ks S⟩=>te U λr=>tk U λa=>(match r.k with|.own=>False|_=>True)/\S.length<=100000/\(match keyD a.d with
  |some k=>Z.nx (setS U i (dO (.dk (kput ks k) (dput ks S k r.d))))
  | none=>False)
 |_=>False
def Q4(i:Nat)(hu:X.A.units+64<cLine)(I:ED L X ke tk)(he:ED L X e te)(hN:autoParam (X.N[i]?=some x) zSr)(hv:Vis X.env.scope x:=by walk_at "o")(hd:autoParam (D_ x) zSd)(es:autoParam ((x==("__classdict__" : Str))=false) zSd)(hs:autoParam (swapsWith e (some (.Subscript (.Name x np) ke pos')) pos.line X.env=pure false) zSr):SD L X (.Assign [.Subscript (.Name x np) ke pos'] e pos) (X7 i tk te):=λH_ =>
 impS (Ge aD (uv hN hv hd es) (I H_) (he H_) hs) λD Y H h=>by
  obtain⟨U,o,R,Z,q,k1,k2,k3,k4⟩:=h;unfold X7 at q;split at q
  ·rename_i ks S J;obtain⟨v0,l,q0⟩:=R.slots i _ (wu J);rcases q0 with⟨k,_⟩|⟨_,a,rfl,m,c⟩
   ·cases k
   obtain⟨E,hx,hl,Q,y⟩:=c;refine⟨U,o,R,_,q,λv r H1 s1 W h1=>⟨.ref a,l,U,o,R.to s1,_,h1,λV r2 H2 s2 B h2=>?_⟩⟩;obtain⟨h0,j,h2⟩:=h2;split at h2
   ·rename_i k ek;have I:V=kV k:=f7 B.view ek;subst I;have g:=s1.trans s2;have G:=g _ _ hx;have u:=zj.grow (Grow.same g) _ _ y;have O:ks.length=E.length:=by rw[hl,y.length]
    refine⟨a,_,rfl,DPut.k G ?_,?_⟩
    ·rw[zbG,O,zfX,y.length];exact zdW j aB
    rw[M6 Q O];obtain⟨R3,g3⟩:=(R.to g).chg (d':=.dk (kput ks k) (dput ks S k r.d)) (ho:=.dK ((kput ks k).zip (dput ks E k v))) (wu J) l m ⟨λ_ z=>(by cases z),λ_ _ z=>(by cases z)⟩ λgr =>
     ⟨dput ks E k v,zk,Lz hl,Sj Q,gr _ _ (Xc u ((W.same s2).solid (uf h0)))⟩
    exact k1 _ Y _ o ((Grow.same g).trans g3) R3 h2
   exact h2.elim
  exact q.elim
end
def XP(L:Hp->Prop)(X:Cx)(d:DE->Addr->Prop):Prop:=∀(H_:Hp),L H_->∀(U:DE)(o:List (Nat×Addr))(pn:List (Addr×Obj))(Y:St)(H:Hp)(s:Shared)(e:Value)(s':Shared),Inv X pn Y H s->REnv X.K H_ H Y U o ->
 CX1 X.prog X.w X.stack H s (λa _ H'=>Same H H'/\∃C,a=.ref C/\d U C) e s'->X.xe e s'
def jt(r:Reps K H [] S vs):REnv K H H (ZZ.start N vs) (wo N.length S) []:=by
 have a:=r.length;refine⟨Same.refl H,(λ_ z=>absurd z aE),(λ_ z=>absurd z aE),(λ_ z=>absurd z aE),zcK,λi r' e=>?_,?_⟩
 ·unfold wo at e;rcases zcQ i S.length with hi|hi
  ·rw[zaG (by simpa using hi),zai]at e
   have d:S[i]?=some S[i]:=by simp[hi]
   rw[d]at e;have k:some (dv S[i])=some r':=zaM e;cases k;obtain⟨v,j,g⟩:=r.get d;refine⟨v,?_,.inl ⟨rfl,g⟩⟩;unfold ZZ.start;rw[zaG (by rw[zLm,a];exact hi),zai,j]
   rfl
  rw[zaC (by simpa using hi),zcA]at e
  split at e <;> cases e
 unfold ZZ.start wo;simp[a]
def cp10(h0:0<=j)(h1:j<=1000):CPow 10 j=True:=by
 refine eq_true ⟨h0,by lia,by decide⟩
def Ro:((10:Int) ^ k=0)=False:=by
 refine eq_false ?_;have:(0:Int)<10 ^ k:=Int.pow_pos aB
 lia
def Ji(h:j≠0)(h1:j.natAbs<=1000000000000):FdOk i j=True:=eq_true (fdOk (m:=64) h (PySem.intBits_le_iff.mpr aD))
def cw(l:List D)(k:Nat):cutD l none (some (k:Int))=l.take k:=by
 unfold cutD;rw[ZZ.sIx_none,ZZ.sIx_nat,List.drop_zero,Nat.sub_zero];rw[List.take_eq_take_iff];lia
def Ox(l:List D)(k:Nat):cutD l (some (k:Int)) none=l.drop k:=by
 unfold cutD;rw[ZZ.sIx_none,ZZ.sIx_nat];by_cases h:k<=l.length
 ·rw[zeT h,zbS aE]
 rw[zeI aD,zdU (zaj _),zdU aD]
 simp
def Te(l:List D)(j k:Nat):cutD l (some (j:Int)) (some (k:Int))=(l.drop j).take (k-j):=by
 unfold cutD;rw[ZZ.sIx_nat,ZZ.sIx_nat];by_cases h:j<=l.length
 ·rw[zeT h,List.take_eq_take_iff,zcE];lia
 rw[show min j l.length=l.length by lia,zdU (zaj _),zdU aD]
 simp
def wz{α:Type}{l:List α}{i:Int}{x:α}(h0:0<=i)(h:l[i.toNat]?=some x):atI l i=some x:=by
 have:=Yw h
 rwa [Int.toNat_of_nonneg h0]at this
def dj(x m:Int)(h:0<m):0<=x.fmod m/\x.fmod m<m:=⟨zbJ x h,zdH x h⟩
def Jt{x:Int}(h:x.natAbs<2 ^ m):intBits x<=m:=PySem.intBits_le_iff.mpr h
def vd(S:List D)(h:∀ M:List D->Prop,M S->ti U M)(P:Nat->DE->Prop)(h0:P 0 U)(a:∀ i d U,S[i]?=some d->P i U->g d U λρ'=>tb ρ' {Z with nx:=P (i+1),ct:=P (i+1),bk:=Z.nx})(e:∀ U,P S.length U->Z.nx U):sFor ti g tb U Z:=h _ ⟨P,h0,a,e⟩
def xx(S:List D)(h:∀ G:List D->Prop,G S->ti U G)(f:D->Option D)(hl:S.length<=100000)(e:∀ d∈S,g d (ρ0 n js U) λρ'=>tc ρ' λc=>(c=true->te ρ' λr=>(match r.k with|.own=>False|_=>True)/\f d=some r.d)/\(c=false->f d=none))(a:M (df (.lst (S.filterMap f)))):K2 ti n js g tc te U M:=h _ ⟨f,hl,e,a⟩
def tw{lo:Int}(h:(rngD lo n)[i]?=some d):i<n/\d=.int (lo+(i:Int)):=by
 unfold rngD at h;rw[zai]at h;cases e:(List.range n)[i]? with
 |none=>rw[e]at h;cases h
 |some m =>
  rw[e]at h;have hi:=(zag.mp e).1;rw[zbM]at hi;rw[List.getElem?_range hi]at e;cases e;cases h;exact⟨hi,rfl⟩
def tm{lo:Int}:(rngD lo n).length=n:=by unfold rngD;simp
def E9{α a:Type}(f:α->a)(l:List α)(i:Int):atI (l.map f) i=(atI l i).map f:=by
 unfold atI;rw[zLm];cases ixN l.length i with
 |none=>rfl
 |some j=>simp
def se(g:X.K=K0)(e:X.calm=true)(h:PGs X J t)(d:autoParam ((assignEach J X.env).length=n) zSr)(a:autoParam ((assignEach J X.env).findIdx? (·.1)=none) zSr):PG X (.Tuple J k pos) (gTup K0 n t):=by
 subst g;exact Ca e h d a
noncomputable def zipD(E ys:List D):List D:=List.zipWith (λx y=>D.tup [x,y]) E ys
noncomputable def seqD:D->Option (List D)
 |.lst S=>some S
 |.tup S=>some S
 |.scr ns=>some (ns.map D.int)
 |_=>none
def SeqP(b:Bool)(K:W.Frag)(H:Hp)(O:List Addr)(l:Addr)(d:D):Prop:=match d with
 |.lst S=>b=false/\∃E,H l=some (.lst E)/\l∉O/\Reps K H O S E
 |.tup S=>b=true/\∃E,SqT K H l E/\Reps K H O S E
 |.scr ns=>b=false/\Scr K H l ns
 |_=>False
def SeqP.of{K:W.Frag}{H:Hp}{O:List Addr}{d:D}{v:V}{S:List D}(h:Rep K H O d v)(e:seqD d=some S):∃b l,v=.ref l/\SeqP b K H O l d:=by
 cases d with
 |lst J=>obtain⟨a,E,rfl,q,n,r⟩:=h;exact⟨false,a,rfl,rfl,E,q,n,r⟩
 |tup J=>obtain⟨a,E,rfl,q,r⟩:=h;exact⟨true,a,rfl,rfl,E,q.1,r⟩
 |scr ns=>obtain⟨a,rfl,q⟩:=h;exact⟨false,a,rfl,rfl,q⟩
 |_=>cases e
def SeqP.sq{b:Bool}{K:W.Frag}{H:Hp}{O:List Addr}{l:Addr}{d:D}{S:List D}(h:SeqP b K H O l d)(e:seqD d=some S):∃E,SqK b K H l E/\Reps K H O S E:=by
 cases d with
 |lst J=>obtain⟨rfl,E,q,n,r⟩:=h;cases e;exact⟨E,SqL.of q,r⟩
 |tup J=>obtain⟨rfl,E,q,r⟩:=h;cases e;exact⟨E,q,r⟩
 |scr ns=>obtain⟨rfl,q⟩:=h;cases e;exact⟨_,q.seq,zj.ints ns⟩
 |_=>cases e
theorem SeqP.grow{b:Bool}{K:W.Frag}{H H':Hp}{O O':List Addr}{l:Addr}{d:D}(h:SeqP b K H O l d)(g:Grow O O' H H'):SeqP b K H' O' l d:=by
 cases d with
 |lst J=>obtain⟨rfl,E,q,n,r⟩:=h;exact⟨rfl,E,(g.keep _ _ q n).1,(g.keep _ _ q n).2,zj.grow g _ _ r⟩
 |tup J=>obtain⟨rfl,E,q,r⟩:=h;exact⟨rfl,E,Q1 g.tups g.frzs q,zj.grow g _ _ r⟩
 |scr ns=>obtain⟨rfl,q⟩:=h;exact⟨rfl,U5 g.frzs q⟩
 |_=>exact h.elim
def Bl{K:W.Frag}{b1 b2:Bool}{l1 l2:Addr}{d1 d2:D}{E ys:List D}(e1:seqD d1=some E)(e2:seqD d2=some ys):ItD K (Itz b1 b2 K l1 l2) (zipD E ys) (λH O=>SeqP b1 K H O l1 d1/\SeqP b2 K H O l2 d2) where
 go:=λH O i d ⟨k,p2⟩ e=>by
  obtain⟨us,q,G⟩:=k.sq e1;obtain⟨vs,l,B⟩:=p2.sq e2;unfold zipD at e;rw[List.getElem?_zipWith]at e;cases ex:E[i]? with
  |none=>rw[ex]at e;cases e
  |some x =>
   cases ey:ys[i]? with
   |none=>rw[ex,ey]at e;cases e
   |some y =>
    rw[ex,ey]at e;cases e;obtain⟨u,L,R⟩:=G.get ex;obtain⟨v,es,Q⟩:=B.get ey;refine⟨⟨us,vs,u,v,q,l,L,es⟩,λz H' N=>?_⟩;obtain⟨T,Y,V,hT,rfl,j,a,rfl⟩:=N;have j:=j _ q;have a:=a _ l;rw[L]at j;rw[es]at a;cases j;cases a;have r:Same H (upd H T (.tup [u,v])):=λb w I=>by rw[zx (zp I hT)];exact I
    refine⟨r,T,[u,v],rfl,⟨.inl (.inl zk),zk⟩,?_⟩;exact⟨u,[v],rfl,RepN.grow (Grow.same r) _ _ R,v,[],rfl,RepN.grow (Grow.same r) _ _ Q,rfl⟩
 stop:=λH O ⟨k,p2⟩=>by
  obtain⟨us,q,G⟩:=k.sq e1;obtain⟨vs,l,B⟩:=p2.sq e2;refine⟨us,vs,q,l,?_⟩;have h1:=G.length;have h2:=B.length;unfold zipD;rw[List.length_zipWith,h1,h2];lia
 keep:=λO O' H H' ⟨k,p2⟩ g=>⟨k.grow g,p2.grow g⟩
def iZ(t:TDs):TID:=λU M=>t U λrs=>match rs with
 |[⟨k1,d1⟩,⟨k2,d2⟩]=>(match k1 with|.own=>False|_=>True)/\(match k2 with|.own=>False|_=>True)/\match seqD d1,seqD d2 with
  |some E,some ys=>M (zipD E ys)
  |_,_=>False
 |_=>False
def Ac{J:List Expr}{I:Nat}{x:Pos}{a b:Expr}{t:TDs}{p pos:Pos}(es:X.mg "zip" = none)(Q:EA L X [a,b] t)(N:autoParam (Gl X "zip") zSr)(O:autoParam (starEach [a,b] X.env=(false,eval a X.env)::starEach [b] X.env) zSr)(g:autoParam ((backTo pos (starEach [b] X.env)).any (·.1)=false) zSr):EI L X (.Tuple J I x) (.Call (.Name "zip" p) [a,b] [] pos) (iZ t):=λH_=>impI (C9 N es (Q H_) O g) λY H R q=>by
 obtain⟨U,o,V,M,e,k⟩:=q;refine⟨U,o,V,_,e,λvs rs H1 s1 d h1=>?_⟩;split at h1
 ·rename_i k1 d1 k2 d2;obtain⟨G,D,h1⟩:=h1;obtain⟨Z,w1,rfl,z,W,w2,rfl,y,rfl⟩:=d;have B:=z.solid (uf G);have p2:=y.solid (uf D);split at h1
  ·rename_i E ys e1 e2;obtain⟨b1,l1,rfl,l⟩:=SeqP.of B e1;obtain⟨b2,l2,rfl,j⟩:=SeqP.of p2 e2;obtain⟨us,u,_⟩:=l.sq e1;obtain⟨v,r,_⟩:=j.sq e2;exact⟨b1,b2,l1,l2,us,v,rfl,u,r,k _ _ _ H1 s1 (Bl e1 e2) ⟨l,j⟩ h1⟩
  exact h1.elim
 exact h1.elim
theorem Pq:∀{ns:List Int}{its:List Value},Vals (ns.map V.int) its->∃E:List (Int×Tok),its=E.map (λp=>Value.int p.1 p.2)/\E.map (·.1)=ns
 |[],_,h=>by cases h;exact⟨[],rfl,rfl⟩
 |n::ns,_,h=>by
  cases h with
  |cons r t =>
   obtain⟨E,e1,e2⟩:=Pq t;obtain⟨tk,rfl⟩:=r;exact⟨(n,tk)::E,by rw[e1];rfl,by rw[<- e2];rfl⟩
def N0(j:X.calm=true):t8 X (.builtin "sum") (λE H Q=>∃(p:Addr)(ns:List Int),E=[.ref p]/\SqL X.K H p (ns.map V.int)/\Q (.int ns.sum) H):=by
 intro pn s Y H E us Q I r h;obtain⟨p,ns,rfl,e,q⟩:=h;obtain⟨u,rfl,a⟩:=kg r;cases a;obtain⟨its,d,pl,k⟩:=I.list e;obtain⟨E,e1,e2⟩:=Pq d;have hl:s.heap.IsList p (intItems E.toArray):=by
  have:=pl.isList;rw[e1]at this;unfold intItems;simpa using this
 refine sum_intListG (I.ok.hd j) hl λh' tk t' g=>?_;rw[preSum_eq,zbS aE]
 rw[show E.toArray.toList.map (·.1)=ns from e2];exact⟨.int ns.sum,H,I.kept (t':=tk) g,⟨t',rfl⟩,q⟩
noncomputable def Ye:List D->Option (List Int)
 |[]=>some []
 |.int n::r=>(Ye r).map (n::·)
 |_::_=>none
theorem Uy:∀{S:List D}{ns:List Int},Ye S=some ns->S=ns.map D.int
 |[],ns,h=>by cases h;rfl
 |d::r,ns,h=>by
  cases d with
  |int n =>
   cases e:Ye r with
   |none=>unfold Ye at h;rw[e]at h;cases h
   |some ms =>
    unfold Ye at h;rw[e]at h;cases h;rw[Uy e];rfl
  |_=>cases h
theorem c7:∀(ns:List Int),Ye (ns.map D.int)=some ns
 |[]=>rfl
 |n::ns=>by rw[zaB,Ye,c7 ns];rfl
theorem Xb{K:W.Frag}{H:Hp}{O:List Addr}:∀{ns:List Int}{E:List V},Reps K H O (ns.map D.int) E->E=ns.map V.int
 |[],_,h=>h
 |n::ns,E,h=>by
  obtain⟨v,r,rfl,q,t⟩:=h;rw[Xb t];cases (show v=_ from q);rfl
def sSum:FT:=λS M=>match S with
 |[.lst l]=>match Ye l with
  |some ns=>M (dv (.int ns.sum))
  |none=>False
 |_=>False
def E2{e:Expr}{J:List Expr}{t:TDs}{p pos:Pos}(j:X.mg "sum" = none)(z:EA L X (e::J) t)(y:autoParam (X.calm=true) zSr)(u:autoParam (Gl X "sum") zSr)(x:autoParam (S_ X e J) zSr)(d:autoParam (B_ X J pos) zSr):ED L X (.Call (.Name "sum" p) (e::J) [] pos) (dCB sSum t) :=
 qg (N0 y) (λH O S vs M Q ho g h k=>by
  unfold sSum at h;split at h
  ·rename_i l;split at h
   ·rename_i ns B;obtain⟨v,G,rfl,⟨a,E,rfl,q,r⟩,rfl⟩:=g;have D:=Uy B;subst D;have:=Xb r;subst this;exact⟨a,ns,rfl,SqL.of q,k _ _ H (Same.refl H) aH h⟩
   exact h.elim
  exact h.elim) j (by kernel_rfl) z u aB aB x d
noncomputable def frzS:DE->Nat->DE
 |[],_=>[]
 |x::r,0=>x.map (λr=>dv r.d)::r
 |x::r,i+1=>x::frzS r i
theorem T2:∀(U:DE)(i j:Nat),(frzS U i)[j]?=if j=i then U[j]?.map (λx=>x.map λr=>dv r.d) else U[j]?
 |[],i,j=>by simp[frzS]
 |x::r,0,0=>rfl
 |x::r,0,j+1=>by simp[frzS]
 |x::r,i+1,0=>by simp[frzS]
 |x::r,i+1,j+1=>by
  have:=T2 r i j;simp only[frzS,zeS,this];by_cases h:j=i
  ·simp[h]
  rw[zaJ h,zaJ aD]
theorem T1:∀(U:DE)(i:Nat),(frzS U i).length=U.length
 |[],_=>rfl
 |_::_,0=>rfl
 |x::r,i+1=>by simp[frzS,T1 r i]
def REnv.frz1{K:W.Frag}{H_ H:Hp}{Y:St}{U:DE}{o:List (Nat×Addr)}(R:REnv K H_ H Y U o)(i:Nat):∃o',REnv K H_ H Y (frzS U i) o'/\∀p∈o',p∈o:=by
 refine⟨o.filter λp=>decide (p.1≠i),?_,λp l=>(zcV.mp l).1⟩;have sub:∀p∈o.filter (λp=>decide (p.1≠i)),p∈o:=λp l=>(zcV.mp l).1;have g:∀a∈(o.filter (λp=>decide (p.1≠i))).map Prod.snd,a∈o.map Prod.snd:=λa B=>by
  obtain⟨p,l,e⟩:=zah.mp B;exact zah.mpr ⟨p,sub p l,e⟩
 exact {
  same:=R.same
  fresh:=λp l=>R.fresh p (sub p l)
  trk:=λp l=>R.trk p (sub p l)
  mtb:=λp l=>R.mtb p (sub p l)
  nda:=List.Nodup.sublist (List.Sublist.map _ List.filter_sublist) R.nda
  len:=by rw[T1];exact R.len
  slots:=λj r e=>by
   rw[T2]at e;by_cases hj:j=i
   ·rw[zaK hj]at e;cases e1:U[j]? with
    |none=>rw[e1]at e;cases e
    |some x =>
     rw[e1]at e;cases x with
     |none=>cases e
     |some r' =>
      have D:some (dv r'.d)=some r:=zaM e;cases D;obtain⟨v,y,q⟩:=R.slots j r' e1;refine⟨v,y,.inl ⟨rfl,?_⟩⟩;rcases q with⟨_,q⟩|⟨_,a,rfl,m,c⟩
      ·exact RepN.sub g _ _ q
      refine(c.sub g).rep λz=>?_;obtain⟨p,l,ep⟩:=zah.mp z;have:=Yh R.nda (sub p l) m ep;have u:=zbN (zcV.mp l).2;rw[this]at u;exact u hj
   rw[zaJ hj]at e;obtain⟨v,y,q⟩:=R.slots j r e;refine⟨v,y,?_⟩;rcases q with⟨k,q⟩|⟨k,a,e1,m,c⟩
   ·exact .inl ⟨k,RepN.sub g _ _ q⟩
   exact .inr ⟨k,a,e1,zcV.mpr ⟨m,zdT hj⟩,c.sub g⟩}
def sFrz(i:Nat)(t:TDS):TDS:=λU Z=>t (frzS U i) Z
def vj(i:Nat){X:Cx}{st:Stmt}{t:TDS}(h:SD L X st t):SD L X st (sFrz i t):=λH_=>impS (h H_) λD Y H h=>by
 obtain⟨U,o,R,Z,y,v,r,q,l⟩:=h;obtain⟨o',B,sub⟩:=R.frz1 i;have g:Grow (o.map Prod.snd) (o'.map Prod.snd) H H:=⟨λb u h n=>⟨h,λz=>n (by
  obtain⟨p,x,e⟩:=zah.mp z;exact zah.mpr ⟨p,sub p x,e⟩)⟩,λb E h=>h,λb G u h=>h⟩
 exact⟨_,o',B,Z,y,λd a H2 k g2 R2 j=>v d a H2 k (g.trans g2) R2 j,λd a H2 k g2 R2 j=>r d a H2 k (g.trans g2) R2 j,λd a H2 k g2 R2 j=>q d a H2 k (g.trans g2) R2 j,l⟩
section
variable{x:Str}{e ke:Expr}{te tk:TD}{np pos pos':Pos}
def Hx(i:Nat)(tk te:TD):TDS:=λU Z=>match slot U i with
 | some ⟨.own,.lst S⟩=>te U λr=>tk U λa=>(match r.k with|.own=>False|_=>True)/\(match a.d with
  | .int k=>(match ixN S.length k with
   |some j=>Z.nx (setS U i (dO (.lst (S.set j r.d))))
   | none=>False)
  | _=>False)
 |_=>False
def Hv(i:Nat)(hu:X.A.units+64<cLine)(hk:ED L X ke tk)(he:ED L X e te)(hN:autoParam (X.N[i]?=some x) zSr)(hv:Vis X.env.scope x:=by walk_at "o")(hd:autoParam (D_ x) zSd)(es:autoParam ((x==("__classdict__" : Str))=false) zSd)(hs:autoParam (swapsWithSole [.Subscript (.Name x np) ke pos'] e pos.line X.env=pure false) zSr)(hw:autoParam (swappedStores [.Subscript (.Name x np) ke pos'] e X.env=pure none) zSr)(h1:autoParam ((assignEach [.Subscript (.Name x np) ke pos'] X.env).map (·.2)=[assign (.Subscript (.Name x np) ke pos') X.env]) zSr)(ha:∀ v,assign (.Subscript (.Name x np) ke pos') X.env v=(do
   let q <- holding [v] (eval (.Name x np) X.env)
   let G <- holding [v,q] (eval ke X.env)
   standAt pos'
   holding [v,q,G] (setItem q G v)
   release [v,q,G] []):=by intro _;rfl):SD L X (.Assign [.Subscript (.Name x np) ke pos'] e pos) (Hx i tk te):=λH_ =>
 impS (Xe (he H_) (Qq (uv hN hv hd es) (hk H_) Y0 ha) hs hw h1) λD Y H h=>by
  obtain⟨U,o,R,Z,u,k1,k2,k3,k4⟩:=h;unfold Hx at u;split at u
  ·rename_i S J;obtain⟨v0,l,q0⟩:=R.slots i _ (wu J);rcases q0 with⟨k,_⟩|⟨_,a,rfl,m,c⟩
   ·cases k
   obtain⟨E,hx,Q⟩:=c;refine⟨U,o,R,_,u,λv r H1 s1 W h1=>⟨.ref a,l,U,o,R.to s1,_,h1,λV r2 H2 s2 B h2=>?_⟩⟩;obtain⟨h0,h2⟩:=h2;have O:=B.view;split at h2
   ·rename_i k ek;rw[ek]at O;cases (show V=_ from O);split at h2
    ·rename_i j ej;have g:=s1.trans s2;have I:=g _ _ hx;have y:=zj.grow (Grow.same g) _ _ Q;refine⟨a,E,k,j,rfl,rfl,I,by rw[Q.length];exact ej,?_⟩
     obtain⟨R3,g3⟩:=(R.to g).chg (d':=.lst (S.set j r.d)) (ho:=.lst (E.set j v)) (wu J) l m ⟨λ_ z=>(by cases z),λ_ _ z=>(by cases z)⟩ λgr =>
      ⟨E.set j v,zk,gr _ _ (y.set j ((W.same s2).solid (uf h0)))⟩
     exact k1 _ Y _ o ((Grow.same g).trans g3) R3 h2
    exact h2.elim
   exact h2.elim
  exact u.elim
end
noncomputable def blsD:List D->Option (List Bool)
 |[]=>some []
 |.bl b::r=>(blsD r).map (b::·)
 |_::_=>none
theorem N3:∀{S:List D}{bs:List Bool},blsD S=some bs->S=bs.map D.bl
 |[],bs,h=>by cases h;rfl
 |d::r,bs,h=>by
  cases d with
  |bl n =>
   cases e:blsD r with
   |none=>unfold blsD at h;rw[e]at h;cases h
   |some ms =>
    unfold blsD at h;rw[e]at h;cases h;rw[N3 e];rfl
  |_=>cases h
theorem Yv:∀(bs:List Bool),blsD (bs.map D.bl)=some bs
 |[]=>rfl
 |b::bs=>by rw[zaB,blsD,Yv bs];rfl
theorem Ua{K:W.Frag}{H:Hp}{O:List Addr}:∀{bs:List Bool}{E:List V},Reps K H O (bs.map D.bl) E->E=bs.map V.bl
 |[],_,h=>h
 |n::bs,E,h=>by
  obtain⟨v,r,rfl,q,t⟩:=h;rw[Ua t];cases (show v=_ from q);rfl
section
variable{e:Expr}{J:List Expr}{t:TDs}{p pos:Pos}
def Nt(g:List Bool->Bool):FT:=λS M=>match S with
 |[.lst l]=>match blsD l with
  |some bs=>M (dv (.bl (g bs)))
  |none=>False
 |_=>False
def Mu{f:List V->Bool}{g:List Bool->Bool}(j:∀ bs:List Bool,f (bs.map V.bl)=g bs):N7 X.K (rAll X.K f) (Nt g):=by
 intro H O S vs M Q ho e h k;unfold Nt at h;split at h
 ·rename_i l;split at h
  ·rename_i bs u;obtain⟨v,z,rfl,⟨a,E,rfl,q,r⟩,rfl⟩:=e;have x:=N3 u;subst x;have:=Ua r;subst this;refine⟨a,_,rfl,.inl (SqL.of q),λy d=>?_,?_⟩
   ·obtain⟨b,_,rfl⟩:=zah.mp d;rfl
   rw[j];exact k _ _ H (Same.refl H) aH h
  exact h.elim
 exact h.elim
def Ol(d:X.mg "all" = none)(l:EA L X (e::J) t)(k:autoParam (X.calm=true) zSr)(g:autoParam (Gl X "all") zSr)(j:autoParam (S_ X e J) zSr)(a:autoParam (B_ X J pos) zSr):ED L X (.Call (.Name "all" p) (e::J) [] pos) (dCB (Nt λbs=>bs.all id) t) :=
 qg (We k) (Mu λbs=>by
  induction bs with
  |nil=>rfl
  | cons b bs ih=>rw[zaB,zeQ,zeQ,ih];cases b <;> rfl) d (by kernel_rfl) l g aB aB j a
end
def getItem_tuple_whole{t e:Addr}{items:Array Value}{q l:Value}{lo hi:Option Int}{Q:Value->Shared->Prop}(d:IsTup s.heap t items)(u:s.heap.IsSliceOf e q l .none)(pl:IsPart q lo)(v:IsPart l hi)(r:sIx items.size 0 lo=0/\sIx items.size items.size hi=items.size)(h:∀ tk,Q (.ref t) {s with toks:=tk}):wpAny (model prog w) A (getItem (.ref t) (.ref e)) Q xs s:=by
 obtain⟨x,g,j,y⟩:=id u;have k:s.TypeIs (.ref e) "slice":=⟨x,g,j⟩;unfold getItem
 try with_reducible refine zbF ?_
 first|refine zaa (zab ?_)|skip
 refine zaa (wpAny_sequenceKey d.typeIs aB ?_)
 refine zaa (zbC (name:=Str.ofString "__getitem__") d.typeIs zcS
  (zbK zcS d.typeIs entry_tuple_getitem ?_ (args_tuple_getitem _ _)))
 show wpAny _ _ (Builtin.Tuple.tupleItemsOf (.ref t) >>= _) _ _ s;refine zaa (tupleItemsOf_ d ?_);refine zaa (zeM k ?_);rw[zaK aB]
 refine zaa (sn u pl v ?_);have a:((((sIx items.size 0 lo:Nat):Int)==0&&(1:Int)==1&&(sIx items.size items.size hi-sIx items.size 0 lo)==items.size)=true):=by
  rw[r.1,r.2];simp
 show wpAny _ _ (if (((sIx items.size 0 lo:Nat):Int)==0&&(1:Int)==1&&(sIx items.size items.size hi-sIx items.size 0 lo)==items.size)=true then _ else _) _ _ s
 rw[zaK a];refine zaa (m:=Builtin.Tuple.tupleIsExact _) (zaa (zeM d.typeIs (zab ?_)));rw[zaK aB]
 exact zaa (zfR (zab ⟨_,rfl,zab (h s.toks)⟩))
def cat_tup0{t b:Addr}{l:List Value}{Q:Value->Shared->Prop}(z:IsTup s.heap t #[])(B:IsTup s.heap b l.toArray)(h1:Q (.ref b) s):wpAny (model prog w) A (binaryOp .Add (.ref t) (.ref b)) Q xs s:=by
 obtain⟨⟨D,dd,u,x⟩,ho,r,n,q⟩:=id z;obtain⟨⟨v,j,k,g⟩,a,e,y,d⟩:=id B;simp only at r q e d;subst r q e d;exact concat_meets ⟨_,ho,rfl⟩ ⟨_,a,rfl⟩ noFill_tuple_add seq_tuple_add zeZ zeP (zeL _ _)
   (tuple_addW0 t b #[] l.toArray n y dd j x g aE) ⟨ho,a,h1⟩
def rSlW(K:W.Frag):V->Option Int->Option Int->Hp->VK->Prop:=λx lo hi H Q=>∃a E,x=.ref a/\SqT K H a E /\
 (ZZ.sIx E.length 0 lo=0/\ZZ.sIx E.length E.length hi=E.length)/\Q (.ref a) H
def Hn:SlR X (rSlW X.K):=by
 intro pn s Y H x v z y lo hi B Q I g u pl j h;obtain⟨a,E,rfl,k,l,q⟩:=h;cases g;obtain⟨its,r,e,D⟩:=I.tuple k;have d:its.toArray.size=E.length:=by rw[zap];exact r.length.symm
 refine⟨"tuple",_,PyProof.Rows.slot_tuple_getitem.lookup,e.typeIs,?_⟩;exact ZZ.getItem_tuple_whole e u pl j (by rw[d];exact l) λtk=>⟨.ref a,H,I.tok tk,rfl,q⟩
def Dp(K:W.Frag):R2:=λx y H Q=>∃a b ys,x=.ref a/\y=.ref b/\SqT K H a []/\SqT K H b ys/\Q (.ref b) H
def Mj:OpR X (binaryOp .Add) (Dp X.K):=by
 intro pn s Y H x y v u Q I g e h;obtain⟨a,b,ys,rfl,rfl,r,l,q⟩:=h;cases g;cases e;obtain⟨its,j,k,_⟩:=I.tuple r;obtain⟨d,z,p2,_⟩:=I.tuple l;cases j;exact ZZ.cat_tup0 k p2 ⟨.ref b,H,I,rfl,q⟩
section
variable{a b e:Expr}{J:List Expr}{t:TDs}{ta tb te tk:TD}{pos:Pos}
def E6(ta tb:TD):TD:=λU M=>ta U λx=>tb U λy=>match x.d,y.d with
 |.tup p,.tup q=>qm x/\qm y/\p.length+q.length<=sizeLine/\M ⟨.new,.tup (p++q)⟩
 |_,_=>False
def Om(O:ED L X a ta)(N:ED L X b tb):ED L X (.BinOp a .Add b pos) (E6 ta tb):=λH_=>impE (S7 (P3.or Mj) (O H_) (N H_)) λY H Q q=>by
 obtain⟨U,o,R,M,y,k⟩:=q;refine⟨U,o,R,_,y,λW j H1 s1 u h1=>⟨U,o,R.to s1,_,h1,λV g H2 s2 r h2=>?_⟩⟩;have es:=λp=>(u.same s2).anew p;have I:=λp=>(r.start s1).anew p;obtain⟨k1,d1⟩:=j;obtain⟨Z,d2⟩:=g;cases d1 with
 |tup p =>
  cases d2 with
  |tup q =>
   obtain⟨D,p2,hl,l⟩:=h2;obtain⟨a1,E,rfl,x,j⟩:=es D;obtain⟨a2,ys,rfl,v,g⟩:=I p2;have l1:=j.length;have l2:=g.length;cases p with
   |nil =>
    have e:E=[]:=zcG l1;subst e;exact .inr ⟨a1,a2,ys,rfl,rfl,x.1,v.1,k _ ⟨.new,.tup q⟩ H2 (s1.trans s2) ⟨a2,ys,rfl,v,g⟩ l⟩
   |cons d p =>
    refine .inl ⟨a1,a2,E,ys,rfl,rfl,x.1,v.1,(λz=>by subst z;cases l1),by rw[l1,l2];exact hl,λz=>?_,λz G B=>?_⟩
    ·subst z;have e:q=[]:=zcG l2.symm;subst e;rw[zaX]at l;exact k _ ⟨.new,.tup (d::p)⟩ H2 (s1.trans s2) ⟨a1,E,rfl,x,j⟩ l
    exact k _ ⟨.new,.tup (d::p++q)⟩ _ ((s1.trans s2).trans (y9 B _)) ⟨G,E++ys,rfl,⟨SqT.of zk,zk⟩,zj.to (y9 B _) aA _ _ (j.append g)⟩ l
  |_=>exact h2.elim
 |_=>exact h2.elim
def dSlT(te:TD)(tl th:TDo):TD:=λU M=>te U λx=>tl U λl=>th U λu=>match x.d with
 |.tup S=>M (dv (.tup (cutD S l u)))
 |_=>False
def R8{l u:Option Int}(h:ZZ.sIx S.length 0 l=0/\ZZ.sIx S.length S.length u=S.length):cutD S l u=S:=by
 unfold cutD;rw[h.1,h.2];simp
def W7{lo hi:Option Expr}{tl th:TDo}{p2:Pos}(es:ED L X e te)(hl:EO L X lo tl)(hu:EO L X hi th):ED L X (.Subscript e (.Slice lo hi none p2) pos) (dSlT te tl th):=λH_ =>
 impE (Ul (Hn.or Kl) (es H_) (hl H_) (hu H_)) λY H Q q=>by
  obtain⟨U,o,R,M,x,k⟩:=q;refine⟨U,o,R,_,x,λv r H1 s1 I h1=>⟨U,o,R.to s1,_,h1,λl H2 s2 h2=>⟨U,o,R.to (s1.trans s2),_,h2,λu N B z=>?_⟩⟩⟩;have j:=s1.trans s2;have g:=j.trans B;have G:=(I.same (s2.trans B)).view;obtain⟨kd,d⟩:=r;cases d with
  |tup S =>
   obtain⟨a,E,rfl,q,r⟩:=G;by_cases hw:ZZ.sIx S.length 0 l=0/\ZZ.sIx S.length S.length u=S.length
   ·refine .inl ⟨a,E,rfl,q.1,by rw[r.length];exact hw,?_⟩
    have y:M (dv (.tup S)):=by
     have:=z;simp only[R8 hw]at this;exact this
    exact k _ (dv (.tup S)) _ g ⟨a,E,rfl,q,r⟩ y
   refine .inr ⟨a,E,rfl,q.1,by rw[r.length];exact hw,λp D=>?_⟩
   exact k _ _ _ (g.trans (y9 D _)) (RV.start (X8 D (gz r l u)) g) z
  |_=>exact z.elim
noncomputable def popD(S:List D):Option (List D×D):=match S.getLast? with
 |some d=>some (S.dropLast,d)
 |none=>none
def Uk(S:List D)(d:D):popD (S++[d])=some (S,d):=by
 unfold popD;simp
def Gf(h:popD S=some (ds',d)):S=ds'++[d]:=by
 unfold popD at h;split at h
 ·rename_i x e;cases h;obtain⟨y,a⟩:=List.getLast?_eq_some_iff.mp e;rw[a];simp
 cases h
def M0{K:W.Frag}{H:Hp}{O:List Addr}{S a:List D}{d:D}{E:List V}(r:Reps K H O S E)(h:popD S=some (a,d)):∃y,E[E.length-1]?=some y/\Rep K H O d y/\Reps K H O a E.dropLast:=by
 have e:=Gf h;subst e;have l:=r.length;rw[zLa]at l;obtain⟨y,j,g⟩:=r.get (i:=a.length) (d:=d) aE
 refine⟨y,by rw[l];simpa using j,g,?_⟩
 have:=r.dropLast;simpa using this
def sPop(i j:Nat):TDS:=λU Z=>match slot U i with
 |some ⟨.own,.lst S⟩=>match popD S with
  |some (ds',d)=>Z.nx (setS (setS U i (dO (.lst ds'))) j (dv d))
  |none=>False
 |_=>False
def Q3(i j:Nat){x y:Str}(r:X.N.Nodup)(hi:autoParam (X.N[i]?=some x) zSr)(hj:autoParam (X.N[j]?=some y) zSr)(hy:Loc X.env.scope y:=by first|exact Or.inl rfl|exact Or.inr rfl)(Q:Vis X.env.scope x:=by walk_at "o")(W:autoParam (D_ x) zSd)(q:autoParam ((x==("__classdict__" : Str))=false) zSd)(V:∀ {ta:TE},X.N.Nodup->PE X (.Name x np) ta->PS X (.Assign [.Name y pos'] (.Call (.Attribute (.Name x np) "pop" apos) [] [] cpos) pos) (tAsg (tBM0 X.K "list" rPop ta) (u9 j)):=by
   intro ta r h1;exact gf r rfl aG (Qw zcM PySem.F.slot_list_pop PySem.F.type_list_pop J5 h1)) :
  SD L X (.Assign [.Name y pos'] (.Call (.Attribute (.Name x np) "pop" apos) [] [] cpos) pos) (sPop i j):=λH_=>impS (V r (uv hi Q W q)) λD Y H h=>by
 obtain⟨U,o,R,Z,e,O,k2,k3,k4⟩:=h;unfold sPop at e;split at e
 ·rename_i S J;obtain⟨v0,g,es⟩:=R.slots i _ (wu J);rcases es with⟨k,_⟩|⟨_,a,rfl,m,c⟩
  ·cases k
  obtain⟨E,v,G⟩:=c;split at e
  ·rename_i u d ep;obtain⟨B,ey,l,I⟩:=M0 G ep;obtain⟨R2,g2⟩:=R.chg (d':=.lst u) (ho:=.lst E.dropLast) (wu J) g m ⟨λ_ z=>(by cases z),λ_ _ z=>(by cases z)⟩ λgr=>⟨E.dropLast,zk,gr _ _ I⟩
   refine⟨.ref a,g,.inl ⟨rfl,E,SqL.of v⟩,a,E,B,rfl,rfl,v,ey,?_⟩;exact O _ _ _ o g2 (R2.setV j (RepN.grow g2 _ _ l)) e
  exact e.elim
 exact e.elim
def sExt(i:Nat)(t:TDs):TDS:=λU Z=>match slot U i with
 |some ⟨.own,.lst S⟩=>t U λrs=>fq rs=true/\Nat.ble rs.length 1000=true/\S.length<=100000/\Z.nx (setS U i (dO (.lst (S++rs.map EV.d))))
 |_=>False
def X6(i:Nat){x:Str}(h:EA L X J t)(hi:autoParam (X.N[i]?=some x) zSr)(V:Vis X.env.scope x:=by walk_at "o")(hd:autoParam (D_ x) zSd)(G:autoParam ((x==("__classdict__" : Str))=false) zSd)(W:∀ {ta:TE} {tc:TA},PE X (.Name x np) ta->PA X J tc->PS X (.Expr (.Call (.Attribute (.Name x np) "extend" apos) [.List J lpos] [] cpos) pos)
    (Tv (tBM X.K "list" Ww ta (Rr (tLst tc) tNil))):=by
   intro ta tc h1 h3;exact qu (Qx zcM PySem.F.slot_list_extend PySem.F.type_list_extend Xj h1 (vz (Kr h3) su))) :
  SD L X (.Expr (.Call (.Attribute (.Name x np) "extend" apos) [.List J lpos] [] cpos) pos) (sExt i t):=λH_=>impS (W (uv hi V hd G) (h H_)) λD Y H h=>by
 obtain⟨U,o,R,Z,u,Q,k2,k3,k4⟩:=h;unfold sExt at u;split at u
 ·rename_i S r;obtain⟨v0,q,O⟩:=R.slots i _ (wu r);rcases O with⟨k,_⟩|⟨_,a,rfl,m,c⟩
  ·cases k
  obtain⟨E,es,I⟩:=c;refine⟨.ref a,q,.inl ⟨rfl,E,SqL.of es⟩,?_⟩;refine⟨U,o,R,_,u,λvs rs H1 s1 g h1=>?_⟩;obtain⟨y,l,hl,hn⟩:=h1;have l1:=g.length;have j:=zaP l;refine⟨by rw[l1];exact ww l,λp B=>?_⟩
  have s2:=y9 B (.lst vs);have e:=s1.trans s2;have R1:=R.to e;have v:=zj.grow (Grow.same e) _ _ I;refine⟨a,p,E,vs,rfl,rfl,e _ _ es,zk,?_,?_⟩
  ·rw[I.length,l1];exact zak (Nat.add_le_add hl j) aB
  obtain⟨R2,g2⟩:=R1.chg (d':=.lst (S++rs.map EV.d)) (ho:=.lst (E++vs)) (wu r) q m ⟨λ_ z=>(by cases z),λ_ _ z=>(by cases z)⟩ λgr=>⟨E++vs,zk,gr _ _ (v.append (zj.grow (Grow.same s2) _ _ (g.reps (rm y))))⟩
  exact Q _ Y _ o ((Grow.same e).trans g2) R2 hn
 exact u.elim
def sAug(i:Nat)(te:TD):TDS:=λU Z=>match slot U i with
 |some ⟨.val,.int a⟩=>te U λr=>match r.d with
  |.int b=>Z.nx (setS U i (dv (.int (a+b))))
  |_=>False
 |_=>False
def Dc(i:Nat){x:Str}(O:X.N.Nodup)(es:ED L X e te)(hi:autoParam (X.N[i]?=some x) zSr)(G:Loc X.env.scope x:=by first|exact Or.inl rfl|exact Or.inr rfl)(I:X.fn x=true\/X.env.scope.names.lookup x=some .local:=by first|exact .inl rfl|exact .inr rfl|assumption):SD L X (.AugAssign (.Name x pos') .Add e pos) (sAug i te):=λH_=>impS (C7 O hi G (es H_) Br I) λD Y H h=>by
 obtain⟨U,o,R,Z,g,B,k2,W,V⟩:=h;unfold sAug at g;split at g
 ·rename_i a q;obtain⟨y,l,j⟩:=R.slots i _ (wu q);rcases j with⟨_,j⟩|⟨k,_⟩
  ·cases (show y=_ from j)
   refine⟨.int a,l,U,o,R,_,g,λv r H1 s1 z h1=>?_⟩;have u:=z.view;split at h1
   ·rename_i b Q;rw[Q]at u;cases (show v=_ from u);exact⟨a,b,rfl,rfl,B _ _ _ o (Grow.same s1) ((R.to s1).setV i (d:=.int (a+b)) aH) h1⟩
   exact h1.elim
  cases k
 exact g.elim
end
def g1(g:D->(EV->Prop)->Prop):FT:=λS M=>match S with
 |[d]=>g d M
 |_=>False
def g2(g:D->D->(EV->Prop)->Prop):FT:=λS M=>match S with
 |[d,e]=>g d e M
 |_=>False
def g3(g:D->D->D->(EV->Prop)->Prop):FT:=λS M=>match S with
 |[d,e,f]=>g d e f M
 |_=>False
def Vo(h:g1 g S M):∃d,S=[d]/\g d M:=by
 unfold g1 at h;split at h
 ·exact⟨_,rfl,h⟩
 exact h.elim
def Lq(h:g2 g S M):∃d e,S=[d,e]/\g d e M:=by
 unfold g2 at h;split at h
 ·exact⟨_,_,rfl,h⟩
 exact h.elim
def z1w(h:g3 g S M):∃d e f,S=[d,e,f]/\g d e f M:=by
 unfold g3 at h;split at h
 ·exact⟨_,_,_,rfl,h⟩
 exact h.elim
def yx{t u:TDS}(es:DE->Prop)(h1:t U {Z with nx:=es})(h2:∀ ρ2,es ρ2->u ρ2 Z):sSeq (sCut t) u U Z:=⟨es,h1,h2⟩
def z_g{t u:TDS}{U:DE}{Z:DZ}(xs:DE)(h1:t U {Z with nx:=λU=>U=xs})(h2:u xs Z):sSeq (sCut t) u U Z:=⟨λU=>U=xs,h1,λ_ e=>by subst e;exact h2⟩
def Kb(e:slot U i=some (dO (.lst S)))(h:M (!S.isEmpty)):tTru (u4 i) U M:=by
 unfold tTru u4;rw[e];exact h
def tj(e:slot U i=some (dO (.lst S)))(h:te U λr=>(match r.k with|.own=>False|_=>True)/\S.length<=100000/\Z.nx (setS U i (dO (.lst (S++[r.d]))))):sApp i te U Z:=by
 unfold sApp;rw[e];exact h
section
variable{a e:Expr}{J:List Expr}{t:TDs}{p pos:Pos}
def sLenD:FT:=λS M=>match S with
 |[.dk ks l]=>M (dv (.int ks.length))
 |_=>False
def E4(j:X.mg "len" = none)(y:EA L X (e::J) t)(u:autoParam (Gl X "len") zSr)(x:autoParam (S_ X e J) zSr)(d:autoParam (B_ X J pos) zSr):ED L X (.Call (.Name "len" p) (e::J) [] pos) (dCB sLenD t) :=
 qg N1 (λH O S vs M Q ho g h k=>by
  unfold sLenD at h;split at h
  ·obtain⟨v,z,rfl,⟨a,E,rfl,q,l,B,r⟩,rfl⟩:=g;refine⟨a,_,rfl,q,?_⟩;rw[zbG,r.length,<- l,zfX];exact k _ _ H (Same.refl H) aH h
  exact h.elim) j PySem.boot_len y u aB aB x d
end
section
variable{a':Addr}(h':H a'=some (.dK kvs))
include h'
end
def qp:entryFor table "dict.update.loop" = some Builtin.«dict.update.loop»:=entryFor_of_tree (by kernel_rfl)
def vi:plainId "dict.update.loop" = true:=by decide +kernel
def b7:typeLookup (.type "list") "keys" = pure none:=by rw[zeU,zdI];kernel_rfl
def Pl{E:Array Value}{Q:Option Value->Shared->Prop}(hl:PlainL s.heap a E)(B:A.handled=none)(h:∀ h' tk,(∀ b o,s.heap.get? b=some o->h'.get? b=some o)->Q none {s with heap:=h',toks:=tk}):wpAny (model prog w) A (getAttr? (.ref a) "keys") Q xs s:=by
 obtain⟨o,k,r,v,u,j⟩:=hl;obtain⟨c,D,G,x⟩:=o;simp only at v j u;subst v j u;obtain⟨z,g,d,tk,y⟩:=s;have hT:∀l,(⟨z,g,d,l,y⟩:Shared).TypeIs (.ref a) "list":=λ_=>⟨_,r,rfl⟩;have R:=sub_AttributeError;have O:=F.slot_list_getattribute.lookup;have N:=F.slot_list_getattribute.bind (.ref a);have L:=am_list_getattr_none;unfold getAttr? getAttrBy? getAttrBy
 repeat (any_goals (first|assumption|exact hT _|((with_reducible show wpAny _ _ (call (Value.builtin "list.__getattribute__") _ _) _ _ _);refine zeN F.slot_list_getattribute (hT _) am_entry_list_getattribute (F.args_list_getattribute_2 _ _) (meets_getattribute_miss_list a E k x "keys" _ b7 aF (by size_fits)) ⟨r,B,λh' l e q=>?_⟩)|wp_step))
 obtain⟨t',I,es⟩:=q.there;show wpAny _ _ (getattributeRaised _ _ _ _ _ _ _) _ _ _;unfold getattributeRaised
 repeat (any_goals (first|assumption|wp_step))
 exact h _ _ q.keeps
section
variable{K:Type}[DecidableEq K]{knd:KeyKind prog w K}{R:Result->Shared->Prop}
def Tj(knd:KeyKind prog w K)(h:Heap)(v:Value)(a:K×Value):Prop:=∃b o n key,v=.ref b/\h.get? b=some o/\o.cls=.type "tuple"/\o.data=.seq #[key,a.2] n/\knd.is a.1 key=true
def bx{kvs:List (K×Value)}{k:K}{x:Value}(h:k∉kvs.map (·.1)):stored kvs k x=kvs++[(k,x)]:=by
 unfold stored;rw[zaJ];intro z;rw[List.any_eq_true]at z;obtain⟨p,a,e⟩:=z;exact h (zah.mpr ⟨p,a,by simpa using e⟩)
def Nb(hh:A.handled=none)(d it l:Addr)(y:d≠it)(a7:d≠l)(es:l≠it)(its:List Value)(more:List (K×Value))(b0:its.length=more.length)(a5:(more.map (·.1)).Nodup)(hsz:more.length<=sizeLine) :
  ∀(k i:Nat)(s:Shared),its.length=i+k->s.heap.IsListIter it l i->s.heap.IsList l its.toArray->s.heap.DictOf knd d (more.take i) ->
  (∀(j:Nat) v kx,its[j]?=some v->more[j]?=some kx->Tj knd s.heap v kx) ->
  (∀h' tk,h'.DictOf knd d more->(∀b o,b≠d->b≠it->s.heap.get? b=some o->h'.get? b=some o)->R (.ok (.ret .none)) {s with heap:=h',toks:=tk}) ->
  codeAny (model prog w) A (.builtin "dict.update.loop" ⟨[.ref d,.ref it,rawInt (i:Int),.none],[]⟩) R s:=by
 intro k
 induction k with
 |zero =>
  intro i s hk hi hl Z hp hR;refine zfU qp ?_;rw[zeF vi _];have W:=Walks.list (prog:=prog) (w:=w) (A:=A.in1) hh it l es its.toArray;show wpAny _ A.in1 (pyNext (.ref it) >>= _) _ _ s;refine zaa (W.done s _ _ ⟨by simpa [hk] using hi,hl⟩ λh' tk q=>?_)
  show wpAny _ A.in1 (Builtin.Dict.addKeywords d [] >>= _) _ _ _;refine zaa (zab (zab ?_));refine hR h' tk ?_ λb o _ D e=>q b o (by simpa using D) e
  rw[zbS aD]at Z
  obtain⟨o,J,ep,ho,r⟩:=Z;exact⟨o,J,ep,q d o (by simpa using y) ho,r⟩
 |succ k ih =>
  intro i s hk hi hl Z hp hR;refine zfU qp ?_;rw[zeF vi _];have W:=Walks.list (prog:=prog) (w:=w) (A:=A.in1) hh it l es its.toArray;show wpAny _ A.in1 (pyNext (.ref it) >>= _) _ _ s;refine zaa (W.item i s _ _ (by simp;lia) ⟨hi,hl⟩ λv h' tk hv x q=>?_)
  have a4:its[i]?=some v:=by simpa using hv
  have a6:i<more.length:=by lia
  obtain⟨kx,B⟩:∃kx,more[i]?=some kx:=⟨more[i],zaf a6⟩;have O:h'.DictOf knd d (more.take i):=by
   obtain⟨o,J,ep,ho,r⟩:=Z;exact⟨o,J,ep,q d o (by simpa using y) ho,r⟩
  have G:∀(j:Nat) v kx,its[j]?=some v->more[j]?=some kx->Tj knd h' v kx:=λj v kx h1 h2=>by
   obtain⟨b,o,n,g,e1,e2,Y,V,e5⟩:=hp j v kx h1 h2;refine⟨b,o,n,g,e1,q b o ?_ e2,Y,V,e5⟩;intro z;have:b=it:=by simpa using z
   subst this;obtain⟨o',a,Q,_⟩:=hi;rw[a]at e2;cases e2;rw[Q]at Y;exact absurd Y aB
  obtain⟨b,o,n,g,rfl,D,a9,a8,L⟩:=G i v kx a4 B;have hT:({s with heap:=h',toks:=tk}:Shared).TypeIs (.ref b) "tuple":=⟨o,D,a9⟩;refine zaa (zbF ?_);refine zaa (wpAny_tryCatch ?_);show wpAny _ A.in1 (typeOf (.ref b) >>= _) _ _ _;refine zaa (zeM hT ?_);show wpAny _ A.in1 (seqItems? (.ref b) >>= _) _ _ _;refine zaa (zcD D a8 (zab ?_));show wpAny _ A.in1 (holding [g,kx.2] (dictSet d g kx.2)) _ _ _;have I:kx.1∉(more.take i).map (·.1):=by
   have e:more.take (i+1)=more.take i++[kx]:=by rw[zfD,B];rfl
   have h4:((more.take (i+1)).map (·.1)).Nodup:=a5.sublist ((zeC _ _).map _);rw[e,zMa,zaO]at h4;intro z;exact h4.2.2 _ z kx.1 aE rfl
  refine zbF (wpAny_dictSet_pairs (hsz:=by rw[zaZ];lia) L O λh2 dd hs=>?_)
  rw[bx I,show more.take i++[(kx.1,kx.2)]=more.take (i+1) by rw[zfD,B];rfl]at dd
  refine zab ⟨plainId_quiet vi _,?_⟩;have keep:∀b o,b≠d->h'.get? b=some o->h2.get? b=some o:=λb o D e=>(hs.2 b D).trans e;refine ih (i+1) _ aD ?_ ?_ dd ?_ λh3 a0 d3 k3=>?_
  ·obtain⟨o',a,r'⟩:=x.1;exact⟨o',keep _ _ (Ne.symm y) a,r'⟩
  ·obtain⟨o',a,r'⟩:=x.2;exact⟨o',keep _ _ (Ne.symm a7) a,r'⟩
  ·intro j v kx h1 u;obtain⟨b,o,n,g,e1,e2,Y,V,e5⟩:=G j v kx h1 u;refine⟨b,o,n,g,e1,keep b o ?_ e2,Y,V,e5⟩;intro z;subst z;obtain⟨o',J,ep,a,Q,N,_⟩:=O;rw[a]at e2;cases e2;rw[N]at V;cases V
  exact hR h3 a0 d3 λb o h1 u e=>k3 b o h1 u (keep b o h1 (q b o (by simpa using u) e))
def b4{xs:Value->Shared->Prop}{l:Addr}{its:List Value}{more:List (K×Value)}{Q:Value->Shared->Prop}(N:A.handled=none)(hl:PlainL s.heap l its.toArray)(x:its.length=more.length)(G:(more.map (·.1)).Nodup)(hsz:more.length<=sizeLine)(V:∀ (j:Nat) v y,its[j]?=some v->more[j]?=some y->Tj knd s.heap v y)(h:∀ h' tk,h'.DictOf knd s.heap.objs.size more->(∀ b o,s.heap.get? b=some o->h'.get? b=some o)->Q (.ref s.heap.objs.size) {s with heap:=h',toks:=tk}) :
  wpAny (model prog w) A (call (.type "dict") [.ref l]) Q xs s:=by
 refine callType_codes (Q₁:=λq d=>q=.ref s.heap.objs.size/\d={s with heap:=s.heap.push {cls:=.type "dict",data:=.dict #[]}}) F.kt_called_dict (F.kt_typeCall_dict_1 _) F.entry_dict_init (kt_code_dict_new _ ⟨rfl,rfl⟩) ?_;rintro q d ⟨rfl,rfl⟩;have a:(s.heap.push {cls:=.type "dict",data:=.dict #[]}).DictOf knd s.heap.objs.size []:=Heap.DictOf.new s.heap;have D:∀b o,s.heap.get? b=some o->(s.heap.push {cls:=.type "dict",data:=.dict #[]}).get? b=some o:=λb o e=>zac _ e;have hl1:=hl.keeps D;have es:l<s.heap.objs.size:=by obtain⟨o,n,e,_⟩:=hl;exact zae e
 refine⟨a.typeIs,F.args_dict_init_2 _ _,?_⟩;unfold Builtin.«dict.__init__»;refine zaa ?_;unfold Builtin.Dict.selfAndRest;refine zaa (zfI a.typeIs ?_);show wpAny _ _ (pure (s.heap.objs.size,[Value.ref l])) _ _ _;refine zab ?_;show wpAny _ _ (Builtin.Dict.updateFrom "dict.__init__" s.heap.objs.size (.ref l) [] .none) _ _ _;unfold Builtin.Dict.updateFrom;refine zaa (zeM hl1.isList.typeIs ?_);rw[zaK aB]
 refine zaa (Pl hl1 N λh2 O u=>?_);rw[zaK (by rfl)]
 refine zaa (zfR ?_);have k:=(hl1.keeps u).isList;have I:l<h2.objs.size:=by obtain⟨o,e,_⟩:=k;exact zae e
 refine zaa (zcT k ?_);have g:s.heap.objs.size<h2.objs.size:=by
  obtain⟨o,J,ep,ho,_⟩:=a;exact zae (u _ _ ho)
 refine zab ⟨plainId_quiet vi _,?_⟩;refine Nb (knd:=knd) (A:=A.in1) N s.heap.objs.size h2.objs.size l (zaT g) (zcC es) (zaT I) its more x G hsz its.length 0 _ aD ?_ ?_ ?_ ?_ λW z d3 R=>?_
 ·exact⟨_,zad _ rfl,rfl,rfl⟩
 ·exact k.push _
 ·obtain⟨o,J,ep,ho,r⟩:=a;exact⟨o,J,ep,zac _ (u _ _ ho),r⟩
 ·intro j v y h1 L;obtain⟨b,o,n,B,e1,e2,e3,Z,Y⟩:=V j v y h1 L;exact⟨b,o,n,B,e1,zac _ (u _ _ (D _ _ e2)),e3,Z,Y⟩
 refine⟨rfl,h W z d3 λb o e=>R b o ?_ ?_ (zac _ (u _ _ (D _ _ e)))⟩
 ·exact zaT (zae e)
 exact zaT (zeO (zae e) g)
end
def N5(K:W.Frag)(H:Hp):List V->List (Key×V)->Prop:=Paired λp a=>∃b,p=V.ref b/\SqT K H b [kV a.1,a.2]
def Ra(R:X.calm=true):t8 X (.type "dict") (λE H Q=>∃a ps kvs,E=[.ref a]/\SqL X.K H a ps/\N5 X.K H ps kvs/\(kvs.map (·.1)).Nodup/\∀p,H p=none->Q (.ref p) (upd H p (.dK kvs))):=by
 intro pn s Y H E us Q I r h;obtain⟨a,ps,kvs,rfl,L,y,B,q⟩:=h;obtain⟨u,rfl,N⟩:=kg r;cases N;obtain⟨its,es,pl,O⟩:=I.list L;have d:ps.length=kvs.length:=y.length;have G:=es.length;have ex:∃more:List (Key×Value),KV kvs more/\∀(j:Nat) v kx,its[j]?=some v->more[j]?=some kx->Tj (yp X.prog X.w) s.heap v kx:=by
  clear B q O pl d G L
  induction es generalizing kvs with
  |nil=>cases y;exact⟨[],.nil,λj v kx e=>by simp at e⟩
  |cons r1 r2 ih =>
   cases y with
   |cons h t =>
    obtain⟨more,k,l⟩:=ih _ t;obtain⟨b,rfl,sq⟩:=h;cases r1;obtain⟨ts,rt,⟨o,e1,e2,n,W⟩,_⟩:=I.tuple sq;cases rt with
    |cons t1 rt =>
     cases rt with
     |cons t2 rt =>
      cases rt
      rename_i Z z x;refine⟨(_,x)::more,.cons ⟨rfl,t2⟩ k,λj v kx h1 h2=>?_⟩;cases j with
      |zero =>
       simp at h1 h2;subst h1 h2;exact⟨b,o,n,z,rfl,e1,e2,W,Sk t1⟩
      |succ j=>exact l j v kx (by simpa using h1) (by simpa using h2)
 obtain⟨more,k,l⟩:=ex;have D:kvs.length=more.length:=k.length;have g:more.map (·.1)=kvs.map (·.1):=by
  clear B q y d l D
  induction k with
  |nil=>rfl
  |cons h t ih=>rw[zaB,zaB,ih,h.1]
 have V:=I.big;refine b4 (knd:=yp X.prog X.w) (I.ok.hd R) pl aD (by rw[g];exact B) aD l λh' tk hd keep=>?_
 refine⟨.ref s.heap.objs.size,_,I.laid (t':=tk) (a:=s.heap.objs.size) (o:=.dK kvs) keep (zaj _) ?_,rfl,q _ (I.hok.fresh (zaj _))⟩;exact Wb aD (by simpa using(zcC V)) k hd
section
variable{e:Expr}{J:List Expr}{t:TDs}{p pos:Pos}
noncomputable def kD:Key->D
 |.inl i=>.int i
 |.inr x=>.str x
noncomputable def Qy(ks:List Key)(S:List D):List D:=(ks.zip S).map λq=>.tup [kD q.1,q.2]
def sDictP:FT:=λE M=>match E with
 |[.lst l]=>∃ks S,l=Qy ks S/\ks.length=S.length/\ks.Nodup/\M (df (.dk ks S))
 |_=>False
def Dm{K:W.Frag}{H:Hp}{O:List Addr}{k:Key}{v:V}(h:Rep K H O (kD k) v):v=kV k:=by
 cases k with
 |inl i=>exact h
 |inr x=>exact h
theorem Z3{K:W.Frag}{H:Hp}{O:List Addr}:∀(ks:List Key)(S:List D)(ps:List V),ks.length=S.length->Reps K H O (Qy ks S) ps->∃E,N5 K H ps (ks.zip E)/\Reps K H O S E
 |[],[],ps,_,h=>by
  cases (show ps=[] from h)
  exact⟨[],.nil,rfl⟩
 |[],_::_,_,h,_=>by cases h
 |_::_,[],_,h,_=>by cases h
 |k::ks,d::S,ps,hl,h=>by
  obtain⟨v,g,rfl,⟨a,zs,rfl,sq,r⟩,hr⟩:=h;obtain⟨q,w1,rfl,l,e,w2,rfl,j,rfl⟩:=r;cases Dm l;obtain⟨E,h1,h2⟩:=Z3 ks S g (by simpa using hl) hr
  exact⟨e::E,.cons ⟨a,rfl,sq.1⟩ h1,e,E,rfl,j,h2⟩
theorem jd{α a:Type}:∀(ks:List α)(E:List a),ks.length=E.length->(ks.zip E).map (·.1)=ks
 |[],_,_=>rfl
 |k::ks,[],h=>by cases h
 |k::ks,x::E,h=>by
  rw[zaL,zaB,jd ks E (by simpa using h)]
def Lw(x:X.mg "dict" = none)(D:EA L X (e::J) t)(B:autoParam (X.calm=true) zSr)(y:autoParam (Gl X "dict") zSr)(z:autoParam (S_ X e J) zSr)(g:autoParam (B_ X J pos) zSr):ED L X (.Call (.Name "dict" p) (e::J) [] pos) (dCB sDictP t) :=
 jm (Ra B) (λH O S vs M Q ho u h k=>by
  unfold sDictP at h;split at h
  ·obtain⟨ks,S,rfl,hl,j,h⟩:=h;obtain⟨v,G,rfl,⟨a,E,rfl,q,r⟩,rfl⟩:=u;obtain⟨zs,h1,h2⟩:=Z3 ks S E hl r;have l:ks.length=zs.length:=by rw[hl,h2.length]
   exact⟨a,E,_,rfl,SqL.of q,h1,by rw[jd ks zs l];exact j,λp d=>k _ (df (.dk _ _)) _ (y9 d _) ⟨p,rfl,d,ho p d,zs,zk,hl,j,zj.grow (Yj d) _ _ h2⟩ h⟩
  exact h.elim) x boot_dict' D y aB aB z g
end
section
end
noncomputable def xq{α:Type}(E:List α)(lo hi st:Option Int):List α :=
 let b:=sliceBounds lo hi st E.length
 (sliceRange b.1 b.2.1 b.2.2).filterMap λi=>E[i]?
section
variable{e:Expr}{te:TE}{lo hi:Option Expr}{st:Expr}{tl th ts:TO}{pos p2:Pos}
theorem fk(r:Vals E us):∀is:List Nat,Vals (is.filterMap λi=>E[i]?) (is.filterMap λi=>us[i]?)
 |[]=>.nil
 |i::is=>by
  rw[zbE,zbE];cases ex:E[i]? with
  |none =>
   rw[r.none_of ex];exact fk r is
  |some x =>
   obtain⟨u,d,a⟩:=r.get ex;rw[d];exact .cons a (fk r is)
def Hf(K:W.Frag)(te:TE)(tl th ts:TO):TE:=λY H Q=>te Y H λx H1=>tl Y H1 λl H2=>th Y H2 λu e=>ts Y e λk d=>∃a E,x=.ref a/\SqL K d a E/\k≠some 0/\∀p,d p=none->Q (.ref p) (upd d p (.lst (xq E l u k)))
def Gn(he:PE X e te)(hl:PO X lo tl)(hu:PO X hi th)(hs:PO X (some st) ts):PE X (.Subscript e (.Slice lo hi (some st) p2) pos) (Hf X.K te tl th ts):=by
 intro pn s Y H Q I h;refine Subscript_ (thn (he pn s Y H _ I h) λv s1 Zh=>?_);obtain⟨x,H1,I1,N,V⟩:=Zh;refine wpAny_Slice (thn (hl pn s1 Y H1 _ I1 V) λB s2 ⟨l,H2,I2,pl,R⟩=>thn (hu pn s2 Y H2 _ I2 R) λz L ⟨u,H3,I3,W,O⟩=>thn (hs pn L Y H3 _ I3 O) λD g Zh=>?_);obtain⟨k,H4,I4,Z,a,E,e1,sq,k0,q⟩:=Zh;subst e1;cases N;have y:Inv X pn Y H4 {g with heap:=g.heap.push {cls:=.type "slice",data:=.fields #[B,z,D]}}:=I4.kept (t':=g.toks) λb ob q=>zac _ q;obtain⟨its,r,d,hz⟩:=y.list sq;have j:its.length=E.length:=r.length.symm;show wpAny (model X.prog X.w) X.A (subscriptTail e (.Slice lo hi (some st) p2) (.ref a) (.ref g.heap.objs.size)) (EP X pn Y Q) X.xe {g with heap:=g.heap.push {cls:=.type "slice",data:=.fields #[B,z,D]}};refine tail_any (ops:=[.ref a,.ref g.heap.objs.size]) d.isList.typeIs list_getitem_lookup ?_ (by with_unfolding_all rfl)
 refine wpAny_getItem_list_slice d.isList (Heap.IsSliceOf.new ..) pl W Z k0 ?_ (by simp;lia)
 refine⟨.ref _,_,y.laid (t':=g.toks) (o:=.lst (xq E l u k)) (λb ob q=>zac _ q) (zaj _) ?_,rfl,q _ (y.hok.fresh (zaj _))⟩;have es:(slicePick its.toArray l u k).toList=xq its l u k:=by
  unfold slicePick xq;simp
 have G:Vals (xq E l u k) (xq its l u k):=by
  unfold xq;rw[j];exact fk r _
 have a0:(xq its l u k).length<=its.length:=by
  have:=slicePick_size_le its.toArray l u k;rw[<- zeJ,es]at this;simpa using this
 refine⟨by rw[G.length];lia,xq its l u k,0,G,?_⟩
 rw[zad _ rfl,<- es]
end
section
variable{e:Expr}{te:TD}{pos:Pos}
def Am(te:TD)(tl th ts:TDo):TD:=λU M=>te U λx=>tl U λl=>th U λu=>ts U λk=>k≠some 0/\match x.d with
 |.lst S=>M (df (.lst (xq S l u k)))
 |.scr ns=>M (df (.lst ((xq ns l u k).map D.int)))
 |_=>False
theorem d6{K:W.Frag}{H:Hp}{O:List Addr}{S:List D}{E:List V}(r:Reps K H O S E):∀is:List Nat,Reps K H O (is.filterMap λi=>S[i]?) (is.filterMap λi=>E[i]?)
 |[]=>rfl
 |i::is=>by
  rw[zbE,zbE];cases ex:S[i]? with
  |none =>
   have:E[i]?=none:=by
    rw[zeG]at ex ⊢;rw[r.length];exact ex
   rw[this];exact d6 r is
  |some d =>
   obtain⟨v,e,a⟩:=r.get ex;rw[e];exact⟨v,_,rfl,a,d6 r is⟩
def Wv{K:W.Frag}{H:Hp}{O:List Addr}{S:List D}{E:List V}(r:Reps K H O S E)(l u k:Option Int):Reps K H O (xq S l u k) (xq E l u k):=by
 unfold xq;rw[r.length];exact d6 r _
def Md{α a:Type}(f:α->a)(E:List α)(l u k:Option Int):xq (E.map f) l u k=(xq E l u k).map f:=by
 unfold xq;rw[zLm,List.map_filterMap]
 dsimp only
 congr 1
 funext i
 rw[zai]
def E3{lo hi:Option Expr}{st:Expr}{tl th ts:TDo}{p2:Pos}(N:ED L X e te)(hl:EO L X lo tl)(hu:EO L X hi th)(es:EO L X (some st) ts):ED L X (.Subscript e (.Slice lo hi (some st) p2) pos) (Am te tl th ts):=λH_ =>
 impE (Gn (N H_) (hl H_) (hu H_) (es H_)) λY H Q q=>by
  obtain⟨U,o,R,M,z,G⟩:=q;refine⟨U,o,R,_,z,λv r H1 s1 I h1=>⟨U,o,R.to s1,_,h1,λl H2 s2 h2=>⟨U,o,R.to (s1.trans s2),_,h2,λu W y O=>⟨U,o,R.to ((s1.trans s2).trans y),_,O,λk V D x=>?_⟩⟩⟩⟩;have g:=((s1.trans s2).trans y).trans D;have B:=(I.same ((s2.trans y).trans D)).view;obtain⟨h0,x⟩:=x;obtain⟨kd,d⟩:=r;cases d with
  |lst S =>
   obtain⟨a,E,rfl,q,r⟩:=B;refine⟨a,E,rfl,SqL.of q,h0,λp j=>?_⟩;exact G _ _ _ (g.trans (y9 j _)) (RV.start (qj (λa e=>R.ofree (g.free e)) j (Wv r l u k)) g) x
  |scr ns =>
   obtain⟨a,rfl,q⟩:=B;refine⟨a,_,rfl,q.seq,h0,λp j=>?_⟩;rw[Md];exact G _ _ _ (g.trans (y9 j _)) (RV.start (qj (λa e=>R.ofree (g.free e)) j (zj.ints _)) g) x
  |_=>exact x.elim
end
abbrev TK:=List Key
instance decMemTK (k:TK) (ks:List TK):Decidable (k∈ks):=decidable_of_iff (ks.any (λx=>decide (x=k))=true) aE
section
open PySem PySem.Spec PySem.W PyProof.Rows
variable{n:Nat}
theorem vc{α:Type}:∀l:List α,(l.zip l).map (λx=>x.2)=l
 |[]=>rfl
 |a::l=>by rw[zaL,zaB,vc l]
section
end
end
def bo:bootBuiltins "reversed" = some (.type "reversed"):=by kernel_rfl
noncomputable def dd(l:List Str)(k:Str):List Str:=if k∈l then l else l++[k]
noncomputable def fm(val:Nat->Str)(i:Nat):List Str:=((List.range i).map val).foldl dd []
noncomputable def many(l:List Str):Nat:=(l.foldl dd []).length
def t5:entryFor table "dict.update.loop" = some Builtin.«dict.update.loop»:=entryFor_of_tree (by kernel_rfl)
def wd:plainId "dict.update.loop" = true:=by decide +kernel
variable{o e:Expr}{apos cpos:Pos}{td te:TE}
def J9{a b:List (Key×V)}{x y:List (Key×Value)}(h:KV a x)(g:KV b y):KV (a++b) (x++y):=by
 induction h with
 |nil=>exact g
 |cons h t ih=>exact .cons h ih
def L5{a:List (Key×V)}{b:List (Key×Value)}(h:KV a b):b.map (·.1)=a.map (·.1):=by
 induction h with
 |nil=>rfl
 |cons h t ih=>rw[zaB,zaB,ih,h.1]
def D2(td te:TE):TE:=λY H Q=>td Y H λx H1=>∃a kvs0,x=.ref a/\H1 a=some (.dK kvs0)/\te Y H1 λy H2=>∃b kvs more,y=.ref b/\a≠b/\H2 a=some (.dK kvs)/\H2 b=some (.dK more)/\kvs.length+more.length<=sizeLine/\((kvs++more).map (·.1)).Nodup/\Q .non (upd H2 a (.dK (kvs++more)))
def Gr(ho:PE X o td)(Z:PE X e te)(m:M1 X o "update" apos e cpos):PE X (.Call (.Attribute o "update" apos) [e] [] cpos) (D2 td te):=by
 intro pn s Y H Q I h;refine wpAny_Call_method m.base m.few m.line PySem.F.plainAttrs_dict PySem.F.slot_dict_update PySem.F.type_dict_update (thn (ho pn s Y H _ I h) λu s1 Zh=>?_);obtain⟨x,H1,es,O,a,D,ex,d,V⟩:=Zh;subst ex;obtain rfl:u=Value.ref a:=O;obtain⟨t1,t2,_⟩:=Bq es (.inl ⟨_,.inl d⟩);refine⟨t1,t2,?_⟩;rw[m.trees];refine zfA rfl (Calls.evalArgs_plain (Calls.spliced_cons (thn (Z pn s1 Y H1 _ es V) λW s2 ⟨y,H2,B,N,b,kvs,more,ey,k,G,hb,hl,l,R⟩=>Calls.spliced_nil ?_)));subst ey;obtain rfl:W=Value.ref b:=N;obtain⟨z1,z,ks,j,d1⟩:=K1 B.hok G;obtain⟨z2,v,ms,g,d2⟩:=K1 B.hok hb;refine call_meetsIn PySem.F.slot_dict_update d1.typeIs PySem.F.entry_dict_update (PySem.F.args_dict_update_2 _ _) (meets_dict_update (yp X.prog X.w) a b k v) ⟨ks,ms,d1,d2,by rw[<- j.length,<- g.length];exact hl,λh' dd a0 L=>?_⟩
 have e:merged ks ms=ks++ms:=merged_append_of_fresh ks ms (by rw[L5 (J9 j g)];exact l)
 rw[e]at dd;have r:∃q,h'.get? a=some q:=let ⟨q,_,_,hq,_⟩:=dd;⟨q,hq⟩
 exact⟨.non,_,Yr (t':=s2.toks) B (by rw[G];exact zcR) L r (Wb (by rw[zLa];exact hl) z (J9 j g) dd),rfl,R⟩
section
variable{x:Str}
theorem Wn{α d:Type}:∀(a:List α)(x:List d)(b:List α)(y:List d),a.length=x.length->(a++b).zip (x++y)=a.zip x++b.zip y
 |[],[],_,_,_=>rfl
 |_::_,[],_,_,h=>by cases h
 |[],_::_,_,_,h=>by cases h
 |a::as,x::E,b,y,h=>by
  show(a,x)::(as++b).zip (E++y)=(a,x)::(as.zip E++b.zip y);rw[Wn as E b y (by simpa using h)]
end
theorem X9{K:W.Frag}{H:Hp}{O:List Addr}:∀{ns:List Str}{E:List V},Reps K H O (ns.map D.str) E->E=ns.map V.str
 |[],_,h=>h
 |n::ns,E,h=>by
  obtain⟨v,r,rfl,q,t⟩:=h;cases (show v=_ from q);rw[X9 t];rfl
section
open PySem PySem.Spec PySem.W PyProof.Rows
end
def Ka{α:Type}{a:Addr}{k:Option Obj->Sem α}{Q:α->Shared->Prop}{xs:Value->Shared->Prop}{s:Shared}(h:wpAny M A (k (s.heap.get? a)) Q xs s):wpAny M A (Sem.loadIfAlive a k) Q xs s:=λL p d=>by
 rw[Sem.wp_loadIfAlive];exact h L p d
def ZipF(h:Heap)(z ti to a:Addr)(d:Bool):Prop:=h.get? z=some {cls:=.type "zip",dict:=none,data:=.fields #[rawInt a,.bool d,.bool false,.ref ti,.ref to],slots:=#[]}
def O0{e:Bool}{o:Obj}{Q:Bool->Shared->Prop}(d:ZipF s.heap z ti to a e)(l:s.heap.get? a=some o)(j:∀ g,ZipF g z ti to a true->Heap.SameBut z s.heap g->Q false {s with heap:=g}):wpAny (model P w) A (Builtin.SmallTypes.ownedTupleIsFree (.ref z)) Q xs s:=by
 unfold Builtin.SmallTypes.ownedTupleIsFree;refine zaa (zbB d rfl (x:=rawInt a) rfl ?_);show wpAny _ _ (Sem.loadIfAlive (Int.toNat (a:Int)) _) _ _ _;refine Ka ?_;rw[zbD,l];show wpAny _ _ (field (.ref z) 1 >>= _) _ _ _;refine zaa (zbB d rfl (x:=.bool e) rfl ?_);cases e with
 |true=>exact zab (j s.heap d (Heap.SameBut.refl _ _))
 |false =>
  show wpAny _ _ (setField (.ref z) 1 (.bool true) >>= _) _ _ _;refine zaa (zcW d aE λg k s1=>?_)
  exact zab (j g k s1)
def Re{b1 b2:Bool}{z ti to i1 i2 l1 l2 a:Addr}{Y:Bool}{o:Obj}{k:Nat}{E ys:Array Value}{x y:Value}{Q:Value->Shared->Prop}(es:i1≠z)(I:i2≠z)(d:i1≠i2)(nt:ti≠z)(G:ti≠i1)(r:l1≠z)(l:l2≠z)(q:l2≠i1)(u:ZipF s.heap z ti to a Y)(V:s.heap.get? a=some o)(B:IsPair s.heap ti (.ref i1) (.ref i2))(h1:ItAt b1 s.heap i1 l1 k)(h2:ItAt b2 s.heap i2 l2 k)(t1:SqAt b1 s.heap l1 E)(t2:SqAt b2 s.heap l2 ys)(R:E[k]?=some x)(O:ys[k]?=some y)(W:∀ g,ZipF g z ti to a true->ItAt b1 g i1 l1 (k+1)->ItAt b2 g i2 l2 (k+1)->IsPair g s.heap.objs.size x y->g.objs.size=s.heap.objs.size+1->(∀ c o,c≠z->c≠i1->c≠i2->s.heap.get? c=some o->g.get? c=some o)->Q (.ref s.heap.objs.size) {s with heap:=g}) :
  wpAny (model P w) A (Builtin.«zip.__next__» ⟨[.ref z],[]⟩) (λD s'=>∃v,D=.done (.ret v)/\Q v s') xs s:=by
 show wpAny _ _ (field (.ref z) 2 >>= _) _ _ _;refine zaa (zbB u rfl (x:=.bool false) rfl ?_);show wpAny _ _ (field (.ref z) 3 >>= _) _ _ _;refine zaa (zbB u rfl (x:=.ref ti) rfl ?_);refine zaa (zcD B rfl ?_);show wpAny _ _ (Builtin.SmallTypes.ownedTupleIsFree (.ref z) >>= _) _ _ _;refine zaa (O0 u V λg1 L s1=>?_);simp only[zdJ,zfW];refine zaa ?_;rw[<- Array.forIn_toList];simp only[zeR,List.forIn_nil];refine zaa (zaa (zbF ?_));show wpAny _ _ (Builtin.SmallTypes.nextOf (.ref i1) >>= _) _ _ _;refine zaa (ux (h1.at λo e=>s1.extBut _ o es e) (t1.at λo e=>s1.extBut _ o r e) R λg2 p2 s2=>zab (zab ?_));refine zaa (zaa (zbF ?_));show wpAny _ _ (Builtin.SmallTypes.nextOf (.ref i2) >>= _) _ _ _;refine zaa (ux (h2.at λo e=>s2.extBut _ o d.symm (s1.extBut _ o I e)) (t2.at λo e=>s2.extBut _ o q (s1.extBut _ o l e)) O λg3 N j=>zab (zab (zab ?_)));show wpAny _ _ (newTuple [x,y] >>= _) _ _ _;refine zaa (wpAny_newTuple ?_);have sz:g3.objs.size=s.heap.objs.size:=by rw[j.1,s2.1,s1.1]
 refine zab ⟨_,rfl,?_⟩;show Q (.ref g3.objs.size) _;rw[sz];have up:∀c o,c≠z->c≠i1->c≠i2->s.heap.get? c=some o->(g3.push {cls:=.type "tuple",data:=.seq #[x,y]}).get? c=some o:=λc o c1 c2 Z e=>zac _ (j.extBut _ _ Z (s2.extBut _ _ c2 (s1.extBut _ _ c1 e)));refine W _ (zac _ (j.extBut _ _ I.symm (s2.extBut _ _ es.symm L))) ((p2.at λo e=>j.extBut _ o d e).at λo e=>zac _ e) (N.at λo e=>zac _ e) ?_ (by rw[zdM,sz]) up
 have:=zad g3 (o:=({cls:=.type "tuple",data:=.seq #[x,y]}:Obj)) rfl;rw[sz]at this;exact this
def N9{b1 b2:Bool}{z ti to i1 i2 l1 l2 a:Addr}{o:Obj}{E:Array Value}{Q:Fin->Shared->Prop}(y:A.handled=none)(r:i1≠z)(d:l1≠z)(j:ZipF s.heap z ti to a fb)(D:s.heap.get? a=some o)(l:IsPair s.heap ti (.ref i1) (.ref i2))(h1:ItAt b1 s.heap i1 l1 k)(t1:SqAt b1 s.heap l1 E)(v:E[k]?=none)(G:∀ g e,(∀ c o,c≠z->c≠i1->s.heap.get? c=some o->g.get? c=some o)->(∃ o,g.get? e=some o/\o.cls=.type "StopIteration")->xs (.ref e) {s with heap:=g}) :
  wpAny (model P w) A (Builtin.«zip.__next__» ⟨[.ref z],[]⟩) Q xs s:=by
 show wpAny _ _ (field (.ref z) 2 >>= _) _ _ _;refine zaa (zbB j rfl (x:=.bool false) rfl ?_);show wpAny _ _ (field (.ref z) 3 >>= _) _ _ _;refine zaa (zbB j rfl (x:=.ref ti) rfl ?_);refine zaa (zcD l rfl ?_);show wpAny _ _ (Builtin.SmallTypes.ownedTupleIsFree (.ref z) >>= _) _ _ _;refine zaa (O0 j D λg1 L s1=>?_);simp only[zdJ,zfW];refine zaa ?_;rw[<- Array.forIn_toList];simp only[zeR,List.forIn_nil];refine zaa (zaa (zbF ?_));show wpAny _ _ (Builtin.SmallTypes.nextOf (.ref i1) >>= _) _ _ _;refine zaa (dh y (h1.at λo e=>s1.extBut _ o r e) (t1.at λo e=>s1.extBut _ o d e) v λg2 e u B=>?_);exact G g2 e (λc o es I q=>u c o I (s1.extBut _ _ es q)) B
def Sb{o:Obj}{E ys:Array Value}{x y:Value}{Q:Option Value->Shared->Prop}(O:i1≠z)(N:i2≠z)(e:i1≠i2)(L:ti≠z)(d:ti≠i1)(q:l1≠z)(j:l2≠z)(l:l2≠i1)(u:ZipF s.heap z ti to a fb)(W:s.heap.get? a=some o)(r:IsPair s.heap ti (.ref i1) (.ref i2))(h1:ItAt b1 s.heap i1 l1 k)(h2:ItAt b2 s.heap i2 l2 k)(t1:SqAt b1 s.heap l1 E)(t2:SqAt b2 s.heap l2 ys)(V:E[k]?=some x)(R:ys[k]?=some y)(Y:∀ g,ZipF g z ti to a true->ItAt b1 g i1 l1 (k+1)->ItAt b2 g i2 l2 (k+1)->IsPair g s.heap.objs.size x y->g.objs.size=s.heap.objs.size+1->(∀ c o,c≠z->c≠i1->c≠i2->s.heap.get? c=some o->g.get? c=some o)->Q (some (.ref s.heap.objs.size)) {s with heap:=g}) :
  wpAny (model P w) A (pyNext (.ref z)) Q xs s:=by
 have ty:s.TypeIs (.ref z) "zip":=⟨_,u,rfl⟩;unfold pyNext;exact zaa (zeD (zbC (name:=Str.ofString "__next__") ty zdB (zbK zdB ty zfN (Re O N e L d q j l u W r h1 h2 t1 t2 V R λg es I G D B v=>zab (Y g es I G D B v)) (zfB _))))
def Pa{o:Obj}{E:Array Value}{Q:Option Value->Shared->Prop}(v:A.handled=none)(q:i1≠z)(d:l1≠z)(l:ZipF s.heap z ti to a fb)(B:s.heap.get? a=some o)(j:IsPair s.heap ti (.ref i1) (.ref i2))(h1:ItAt b1 s.heap i1 l1 k)(t1:SqAt b1 s.heap l1 E)(u:E[k]?=none)(D:∀ g,(∀ c o,c≠z->c≠i1->s.heap.get? c=some o->g.get? c=some o)->Q none {s with heap:=g}):wpAny (model P w) A (pyNext (.ref z)) Q xs s:=by
 have ty:s.TypeIs (.ref z) "zip":=⟨_,l,rfl⟩;unfold pyNext;refine zaa (zeD (zbC (name:=Str.ofString "__next__") ty zdB (zbK zdB ty zfN (N9 (b2:=b1) (l2:=l1) v q d l B j h1 t1 u λg e r x=>?_) (zfB _))));obtain⟨o,ho,y⟩:=x;refine zaa (zfO (T:="StopIteration") (b:=true) ⟨o,ho,y⟩ isSubtype_stop ?_);exact zab (D _ r)
def PairsZ(h:Heap)(E ys:Array Value)(es:Addr)(d:List Addr):Prop:=(∀a∈d,es<a)/\d.Nodup/\∀(j:Nat) a,d[j]?=some a->∃x y,E[j]?=some x/\ys[j]?=some y/\IsPair h a x y
def PairsZ.lt{h:Heap}{E ys:Array Value}{es a:Addr}{d:List Addr}(p:PairsZ h E ys es d)(m:a∈d):a<h.objs.size:=by
 obtain⟨j,e⟩:=zcN m;obtain⟨x,y,_,_,g⟩:=p.2.2 j a e;exact zae g
def PairsZ.alive{h:Heap}{E ys:Array Value}{es a:Addr}{d:List Addr}(p:PairsZ h E ys es d)(m:a∈d):∃o,h.get? a=some o:=by
 obtain⟨j,e⟩:=zcN m;obtain⟨x,y,_,_,g⟩:=p.2.2 j a e;exact⟨_,g⟩
def PairsZ.to{h k:Heap}{E ys:Array Value}{es:Addr}{as:List Addr}(p:PairsZ h E ys es as)(f:∀ a o,a∈as->h.get? a=some o->k.get? a=some o):PairsZ k E ys es as :=
 ⟨p.1,p.2.1,λj a e=>let ⟨x,y,e1,e2,g⟩:=p.2.2 j a e;⟨x,y,e1,e2,f a _ (zan e) g⟩⟩
def PairsZ.snoc{h:Heap}{E ys:Array Value}{es a:Addr}{d:List Addr}{x y:Value}(p:PairsZ h E ys es d)(u:es<a)(k:a∉d)(ex:E[d.length]?=some x)(v:ys[d.length]?=some y)(g:IsPair h a x y):PairsZ h E ys es (d++[a]):=by
 refine⟨λb r=>?_,?_,λj b e=>?_⟩
 ·rcases zas.mp r with m|m
  ·exact p.1 b m
  rw[zaE.mp m];exact u
 ·rw[zaO];refine⟨p.2.1,by simp,λx q y l z=>?_⟩
  rw[zaE.mp l]at z;subst z;exact k q
 by_cases hl:j<d.length
 ·rw[zaG hl]at e;exact p.2.2 j b e
 have:j=d.length:=by
  have:=(zag.mp e).1;simp at this;lia
 subst this;have B:a=b:=by simpa using e
 subst B;exact⟨x,y,ex,v,g⟩
def ZS(b1 b2:Bool)(z ti to i1 i2 l1 l2:Addr)(d:List Addr)(i:Nat)(h:Heap):Prop :=
 (i=0/\ZAt b1 b2 h z ti to i1 i2 l1 l2 .none 0)\/(∃a fb,a∈d/\ZipF h z ti to a fb/\IsPair h ti (.ref i1) (.ref i2)/\ItAt b1 h i1 l1 i/\ItAt b2 h i2 l2 i)
def ZS.to{b1 b2:Bool}{z ti to i1 i2 l1 l2:Addr}{l:List Addr}{i:Nat}{h g:Heap}(Z:ZS b1 b2 z ti to i1 i2 l1 l2 l i h)(k:∀ c o,(c=z\/c=ti\/c=to\/c=i1\/c=i2)->h.get? c=some o->g.get? c=some o):ZS b1 b2 z ti to i1 i2 l1 l2 l i g:=by
 rcases Z with⟨e,Z⟩|⟨a,v,m,r,t1,u,p2⟩
 ·obtain⟨q,its,⟨a,b,j⟩,one,d⟩:=Z;exact .inl ⟨e,k _ _ (.inl rfl) q,k _ _ (.inr (.inl rfl)) its,⟨a,b,k _ _ (.inr (.inr (.inl rfl))) j⟩,one.at λo e=>k _ o (.inr (.inr (.inr (.inl rfl)))) e,d.at λo e=>k _ o (.inr (.inr (.inr (.inr rfl)))) e⟩
 exact .inr ⟨a,v,m,k _ _ (.inl rfl) r,k _ _ (.inr (.inl rfl)) t1,u.at λo e=>k _ o (.inr (.inr (.inr (.inl rfl)))) e,p2.at λo e=>k _ o (.inr (.inr (.inr (.inr rfl)))) e⟩
section
variable{b1 b2:Bool}{z ti to i1 i2 l1 l2 ds:Addr}{E ys:Array Value}
def Ju{j:List Addr}{i:Nat}{x y:Value}{Q:Option Value->Shared->Prop}(D:ZNe z ti to i1 i2)(d1:ZOff z to i1 i2 l1)(d2:ZOff z to i1 i2 l2)(Z:ZS b1 b2 z ti to i1 i2 l1 l2 j i s.heap)(N:PairsZ s.heap E ys ds j)(t1:SqAt b1 s.heap l1 E)(t2:SqAt b2 s.heap l2 ys)(r:E[i]?=some x)(l:ys[i]?=some y)(v:∀ g,ZS b1 b2 z ti to i1 i2 l1 l2 (j++[s.heap.objs.size]) (i+1) g->IsPair g s.heap.objs.size x y->(∀ c o,ZOff z to i1 i2 c->s.heap.get? c=some o->g.get? c=some o)->Q (some (.ref s.heap.objs.size)) {s with heap:=g}) :
  wpAny (model P w) A (pyNext (.ref z)) Q xs s:=by
 rcases Z with⟨rfl,Z⟩|⟨a,W,m,B,u,O,p2⟩
 ·refine Xi D d1 d2 Z t1 t2 r l λg d pr R=>v g (.inr ⟨s.heap.objs.size,false,zaD _ (zaE.mpr rfl),d.zz,d.its,d.one,d.two⟩) pr R
 obtain⟨o,ho⟩:=N.alive m;refine Sb D.ad D.ae D.de D.ab D.bd d1.1 d2.1 d2.2.2.1 B ho u O p2 t1 t2 r l λg L es I G V k=>v g (.inr ⟨a,true,zaF _ m,L,k _ _ D.ab D.bd D.be u,es,I⟩) G λc o q e=>k c o q.1 q.2.2.1 q.2.2.2 e
def Ee{r:List Addr}{i:Nat}{Q:Option Value->Shared->Prop}(j:A.handled=none)(D:ZNe z ti to i1 i2)(d1:ZOff z to i1 i2 l1)(d2:ZOff z to i1 i2 l2)(Z:ZS b1 b2 z ti to i1 i2 l1 l2 r i s.heap)(v:PairsZ s.heap E ys ds r)(t1:SqAt b1 s.heap l1 E)(t2:SqAt b2 s.heap l2 ys)(d:E[i]?=none)(l:∀ g,(∀ c o,ZOff z to i1 i2 c->s.heap.get? c=some o->g.get? c=some o)->Q none {s with heap:=g}):wpAny (model P w) A (pyNext (.ref z)) Q xs s:=by
 rcases Z with⟨rfl,Z⟩|⟨a,B,m,u,y,x,p2⟩
 ·exact Uq j D d1 d2 Z t1 t2 (.inl d) l
 obtain⟨o,ho⟩:=v.alive m;exact Pa j D.ad d1.1 u ho y x t1 d λg k=>l g λc o q e=>k c o q.1 q.2.2.1 e
end
theorem jq:∀{ts:List Str}{us:List Value},Vals (ts.map V.str) us->∃l:List (Str×Tok),us=strValues l/\l.map (·.1)=ts
 |[],_,.nil=>⟨[],rfl,rfl⟩
 |t::ts,_,.cons r q=>by
  obtain⟨k,rfl⟩:=r;obtain⟨l,rfl,e⟩:=jq q;exact⟨(t,k)::l,rfl,by rw[zaB,e]⟩
theorem Xp(n:Nat):∀(ts:List Str)(a:Nat),ts.foldl (λd (t:Str)=>d+t.length+n) a=a+(ts.map λt=>t.length+n).sum
 |[],a=>by simp
 |t::ts,a=>by
  rw[List.foldl_cons,Xp n ts,zaB,List.sum_cons];lia
def F6:MtR X "str.join" (λx E H Q=>∃a p ts,x=.str a/\E=[.ref p]/\(SqL X.K H p (ts.map V.str)\/SqT X.K H p (ts.map V.str))/\(ts.map λt=>t.length+a.length).sum<=sizeLine/\Q (.str (Str.join a ts)) H):=by
 intro pn s Y H x E v us Q I es rs h;obtain⟨a,p,ts,rfl,rfl,k,G,q⟩:=h;obtain⟨t,rfl⟩:=es;obtain⟨u,rfl,L⟩:=kg rs;cases L;have z:∀l:List (Str×Tok),l.map (·.1)=ts->(joinMade a l).post (λv s'=>EP X pn Y Q v s') s:=λl j=>by
  have D:(Builtin.Str.glued a ts).length<=sizeLine:=by
   rw[size_glued];refine zak ?_ G;have e:(ts.map λt=>t.length+a.length).sum=(ts.map (·.length)).sum+ts.length*a.length:=by
    clear G q k j
    induction ts with
    |nil=>simp
    |cons t ts ih=>simp[ih,Nat.add_mul];lia
   rw[e];exact Nat.add_le_add_left (Nat.mul_le_mul_right _ (Nat.sub_le _ _)) _
  have y:EP X pn Y Q (.str (Builtin.Str.glued a ts) s.toks) {s with toks:=s.toks+1}:=⟨.str (Str.join a ts),H,I.tok _,⟨s.toks,by rw[PySem.StrLaws.glued_eq_join]⟩,q⟩
  match l,j with
  |[],j=>subst j;exact⟨D,y⟩
  |[p],j=>subst j;exact⟨.str p.1,H,I,⟨p.2,rfl⟩,q⟩
  |p::r::l,j=>subst j;exact⟨D,y⟩
 have hl:∀l:List (Str×Tok),l.map (·.1)=ts->Builtin.Str.tooLong ((l.map (·.1)).toArray.foldl (·+·.length+a.length) 0)=false:=λl j=>by
  rw[j];unfold Builtin.Str.tooLong;simp only[List.foldl_toArray];rw[Xp];simp;lia
 rcases k with k|k
 ·obtain⟨its,B,pl,N⟩:=I.list k;obtain⟨l,rfl,j⟩:=jq B;exact zeN zfJ (typeIs_str s a t) PySem.F.entry_str_join (PySem.F.args_str_join_2 _ _) (meets_str_join_list a t p l (hl l j)) ⟨pl.isList,z l j⟩
 obtain⟨its,B,pl,N⟩:=I.tuple k;obtain⟨l,rfl,j⟩:=jq B;obtain⟨o,g,c,n,d⟩:=pl;exact zeN zfJ (typeIs_str s a t) PySem.F.entry_str_join (PySem.F.args_str_join_2 _ _) (meets_str_join_tuple a t p l (hl l j)) ⟨⟨o,n,g,c,d⟩,z l j⟩
theorem jr{K:W.Frag}{H:Hp}{O:List Addr}:∀{ns:List Str}{E:List V},Reps K H O (ns.map D.str) E->E=ns.map V.str
 |[],_,h=>h
 |n::ns,E,h=>by
  obtain⟨v,r,rfl,q,t⟩:=h;cases (show v=_ from q);rw[jr t];rfl
variable{td te:TD}
def Jo(td te:TD):TD:=λU M=>td U λx=>match x.d with
 | .str sep=>te U λy=>(match y.d with
  |.lst S=>∃ts:List Str,S=ts.map D.str/\(ts.map λt=>t.length+sep.length).sum<=sizeLine/\M (dv (.str (Str.join sep ts)))
  |.tup S=>∃ts:List Str,S=ts.map D.str/\(ts.map λt=>t.length+sep.length).sum<=sizeLine/\M (dv (.str (Str.join sep ts)))
  | _=>False)
 |_=>False
def Lu(ho:ED L X o td)(V:ED L X e te)(j:autoParam (attributeBase o "join" X.env (eval o X.env)=eval o X.env) zSr)(l:autoParam (((backTo cpos (starEach [e] X.env)).all (λx=>!x.1)&&(backToKw cpos (keywordEach [] X.env)).all (λx=>x.1.isSome)&&decide (([e]:List Expr).length+([]:List Keyword).length+(if ([]:List Keyword).isEmpty then 0 else 1)<30))=true) zSr)(g:autoParam ((apos.endLine==cpos.line)=true) zSr)(I:autoParam (starEach [e] X.env=(false,eval e X.env)::starEach [] X.env) zSr)(z:autoParam ((backTo cpos (starEach [] X.env)).any (·.1)=false) zSr) :
  ED L X (.Call (.Attribute o "join" apos) [e] [] cpos) (Jo td te):=λH_ =>
 impE (Qx PySem.F.plainAttrs_str zfJ PySem.F.type_str_join F6 (ho H_) (vz (V H_) su I) j l g I z) λY H Q q=>by
  obtain⟨U,D,R,M,y,G⟩:=q;refine⟨U,D,R,_,y,λv r H1 s1 es h1=>?_⟩;obtain⟨kd,d⟩:=r;cases d with
  |str sep =>
   cases (show v=_ from es.view)
   refine⟨rfl,U,D,R.to s1,_,h1,λW N H2 s2 k h2=>?_⟩;obtain⟨O,d2⟩:=N;cases d2 with
   |lst S =>
    obtain⟨ts,rfl,B,h2⟩:=h2;obtain⟨a,E,rfl,q,u⟩:=k.view;cases jr u;exact⟨sep,a,ts,rfl,rfl,.inl (SqL.of q),B,G _ (dv (.str (Str.join sep ts))) H2 (s1.trans s2) aH h2⟩
   |tup S =>
    obtain⟨ts,rfl,B,h2⟩:=h2;obtain⟨a,E,rfl,q,u⟩:=k.view;cases jr u;exact⟨sep,a,ts,rfl,rfl,.inr q.1,B,G _ (dv (.str (Str.join sep ts))) H2 (s1.trans s2) aH h2⟩
   |_=>exact h2.elim
  |_=>exact h1.elim
section
end
theorem Z4{K:W.Frag}{H:Hp}{O:List Addr}:∀{ns:List Int}{E:List V},Reps K H O (ns.map D.int) E->E=ns.map V.int
 |[],_,h=>h
 |n::ns,E,h=>by
  obtain⟨v,r,rfl,q,t⟩:=h;cases (show v=_ from q);rw[Z4 t];rfl
theorem Tc(ne:l≠es):∀(n i:Nat)(s:Shared)(Q:List Value->Shared->Prop),s.heap.IsListIter es l i->s.heap.IsList l its->i+n<=its.size ->
  (∀h',h'.IsListIter es l (i+n)->h'.IsList l its->Heap.SameBut es s.heap h'->Q ((its.toList.drop i).take n) {s with heap:=h'})->wpAny (model prog w) A (draw (.ref es) n) Q xs s
 |0,i,s,Q,y,hl,_,q=>by
  show wpAny _ _ (pure []) Q xs s;apply zab;have:=q s.heap y hl (Heap.SameBut.refl ..);simpa using this
 |n+1,i,s,Q,y,hl,le,q=>by
  have lt:i<its.size:=by lia
  show wpAny _ _ (pyNext (.ref es) >>= _) Q xs s;apply zaa;refine wpAny_pyNext_list_item y hl (x:=its[i]) (by simp[lt]) λh1 g s1=>?_
  have hl1:h1.IsList l its:=hl.at λo e=>s1.extBut l o ne e;apply zaa;apply zbF;refine Tc ne n (i+1) _ _ g hl1 aD λh2 d a s2=>zab (?_:_)
  have e0:its.toList.drop i=its[i]::its.toList.drop (i+1):=by simp[List.drop_eq_getElem_cons,lt]
  have:=q h2 (by rw[show i+(n+1)=i+1+n by lia];exact d) a (s1.trans s2)
  rw[e0,List.take_succ_cons]at this;exact this
def Tp {x1} {Q:Unit->Shared->Prop} (k:A.handled=none) (hl:s.heap.IsList l its) (j:(assignEach elts env).length=its.size) (g:(assignEach elts env).findIdx? (·.1)=none) (q:∀h',Heap.ExtBut s.heap.objs.size s.heap h'->wpAny (model prog w) A (assignInOrder ((assignEach elts env).map (·.2)) its.toList) Q xs {s with heap:=h'}):wpAny (model prog w) A (assign (.Tuple elts x1 pos) env (.ref l)) Q xs s:=by
 have ne:l≠s.heap.objs.size:=by obtain⟨o,e,_⟩:=hl;exact zaT (zae e)
 rw[assign_Tuple];apply zaa;apply wpAny_standAt;unfold unpack;rw[j,g];apply zaa;apply zbF;unfold unpackItems;apply zaa;unfold notIterableAtAll;apply zaa;refine zfV hl.typeIs PySem.F.slot_list_iter.lookup (?_:_);apply zab;simp only[zdJ,zfW];apply zaa;apply zbF;refine zcT hl (?_:_);apply zaa;apply zbF;refine Tc ne its.size 0 _ _ ⟨_,zad _ rfl,rfl,rfl⟩ (hl.push _) aD λh1 d hl1 s1=>?_
 rw[show List.take its.size (List.drop 0 its.toList)=its.toList by rw[List.drop_zero];exact zbS aE]
 rw[zaJ (show ¬ _ by simp)]
 apply zaa;apply zbF;refine wpAny_pyNext_list_end k d hl1 aE λh2 e2=>?_
 simp only[Option.isSome_none,zdJ,zfW];refine zab (q h2 λb o a e=>e2 b o a (s1.extBut b o a (zac _ e)))
def gLst(K:W.Frag)(n:Nat)(t:TGs):TG:=λv Y H Q=>∃a E,v=.ref a/\SqL K H a E/\E.length=n/\t E Y H Q
def Qr(B:X.K=K0)(z:X.calm=true)(h:PGs X J t)(y:autoParam ((assignEach J X.env).length=n) zSr)(g:autoParam ((assignEach J X.env).findIdx? (·.1)=none) zSr):PG X (.Tuple J k pos) (gLst K0 n t):=by
 subst B;intro pn s Y H v u Q I r d;obtain⟨a,E,e1,x,hl,d⟩:=d;subst e1;cases r;obtain⟨its,j,q,G⟩:=I.list x;refine Tp (I.ok.hd z) q.isList (by simp[y,<- hl,j.length]) g λh' l=>?_
 have D:Inv X pn Y H {s with heap:=h'}:=I.kept (t':=s.toks) λb o e=>l b o (zaT (zae e)) e;exact h pn _ Y H E _ Q D (by simpa using j) d
def gL4(i j l m:Nat):TGD:=λd U G=>match d with
 |.lst [a,b,c,e]=>G (setS (setS (setS (setS U i (dv a)) j (dv b)) l (dv c)) m (dv e))
 |_=>False
def Fl{K:W.Frag}(i j l m:Nat):jp K (gLst K 4 (uz (u9 i) (uz (u9 j) (uz (u9 l) (uz (u9 m) gNil))))) (gL4 i j l m):=λH_ H Y U o d v G Q R h g k=>by
 unfold gL4 at g;split at g
 ·rename_i a b c e;obtain⟨p,E,rfl,q,n,r⟩:=h;obtain⟨z,N,rfl,h1,y,L,rfl,h2,x,es,rfl,D,u,I,rfl,B,rfl⟩:=r;refine⟨p,_,rfl,SqL.of q,rfl,z,_,rfl,y,_,rfl,x,_,rfl,u,_,rfl,rfl,?_⟩;exact k _ _ ((((R.setV i h1).setV j h2).setV l D).setV m B) g
 exact g.elim
section
variable{scope:Scope}{T F:List Str}{js:List Nat}{tg iter elt:Expr}{ifs:List Expr}{pos:Pos}{ti:TID}{g2:TG}{g:TGD}{tc:TDb}
def Ov:=Jq false
def jk(hi:EI L X tg iter ti)(ds:y0 X.env.scope scope T F)(a:Paired (λx j=>X.N[j]?=some x) F js)(d:js.Nodup)(q:∀ cl C fp s H,PG (x6 X (T++F) scope cl C fp s H) tg g2)(l:bq T.length g2)(hl:jp X.K g2 g)(e:∀ cl C fp s H,EIf L (x6 X (T++F) scope cl C fp s H) ifs tc)(r:∀ cl C fp s H,ED L (x6 X (T++F) scope cl C fp s H) elt te)(u:autoParam (X.calm=true) zSr)(k:∀ x,foldedSetIterable iter X.env x=pure x:=by intro _;rfl):ED L X (.ListComp elt [⟨tg,iter,ifs,0⟩] scope pos) (Ov ti T.length js g tc te):=λH_ =>
 impE (Qu (tc:=b8 X.K H_.1 tc) (te:=qh X.K H_.1 te) u (hi H_) ds a q l (λcl C fp s H=>e cl C fp s H H_) (λcl C fp s H=>r cl C fp s H H_) k) (Ze d hl)
def wl(S:List D)(h:∀ G:List D->Prop,G S->ti U G)(P:Nat->List D->Prop)(hl:S.length<=10000000)(h0:P 0 [])(e:∀ (i:Nat) (d:D) (J:List D),S[i]?=some d->J.length<=i->P i J->g d (ρ0 n js U) λρ'=>tc ρ' λc=>(c=true->te ρ' λr=>(match r.k with|.own=>False|_=>True)/\P (i+1) (J++[r.d]))/\(c=false->P (i+1) J))(a:∀ J,P S.length J->M (df (.lst J))):Ov ti n js g tc te U M:=h _ ⟨P,hl,h0,e,a⟩
end
def Eh{o u:HO}(h:H a=some u):upd (upd H a o) a u=H:=by
 rw[Rj]
 funext b
 by_cases e:b=a
 ·subst e;rw[zk,h]
 rw[zx e]
section
variable{scope:Scope}{T F:List Str}{js:List Nat}{tg iter elt:Expr}{ifs:List Expr}{pos:Pos}{ti:TID}{g2:TG}{g:TGD}{tc:TDb}
def uc(i:Nat){y:Str}(W:X.N.Nodup)(hi:EI L X tg iter ti)(ds:y0 X.env.scope scope T F)(e:Paired (λx j=>X.N[j]?=some x) F js)(q:js.Nodup)(es:∀ cl C fp s H,PG (x6 X (T++F) scope cl C fp s H) tg g2)(I:bq T.length g2)(hl:jp X.K g2 g)(B:∀ cl C fp s H,EIf L (x6 X (T++F) scope cl C fp s H) ifs tc)(O:∀ cl C fp s H,ED L (x6 X (T++F) scope cl C fp s H) elt te)(Q:autoParam (X.calm=true) zSr)(G:∀ x,foldedSetIterable iter X.env x=pure x:=by intro _;rfl)(z:autoParam (X.N[i]?=some y) zSr)(a:autoParam (X.env.scope.names.lookup y=some .local) zSr)(d:autoParam (swapsWith (.ListComp elt [⟨tg,iter,ifs,0⟩] scope pos) (some (.Name y py)) spos.line X.env=pure true) zSr):SD L X (.Assign [.Name y py] (.ListComp elt [⟨tg,iter,ifs,0⟩] scope pos) spos) (sSet i (Ov ti T.length js g tc te)):=λH_ =>
 impS (Z8 (tc:=b8 X.K H_.1 tc) (te:=qh X.K H_.1 te) Q W z (.inl a) (hi H_) ds e es I (λcl C fp s H=>B cl C fp s H H_) (λcl C fp s H=>O cl C fp s H H_) d G (.inr a)) λD Y H h=>by
  obtain⟨U,o,R,Z,V,u,k2,k3,k4⟩:=h;refine Ze (b:=false) q hl Y H _ ⟨U,o,R,λr=>(match r.k with|.own=>False|_=>True)/\Z.nx (setS U i r.sto),V,λv r H1 s1 l h1=>?_⟩
  obtain⟨o',R',g'⟩:=R.put s1 i l (uf h1.1);exact u _ _ H1 o' g' R' h1.2
end
structure Gt(H H':Hp):Prop where
 tups:∀b E,H b=some (.tup E)->H' b=some (.tup E)
 frzs:∀b o u,H b=some (.frz o u)->H' b=some (.frz o u)
def Gt.same{H H':Hp}(s:Same H H'):Gt H H':=⟨λb E h=>s b _ h,λb o u h=>s b _ h⟩
variable{O':List Addr}
def RepN.keep(g:Gt H H')(d:D)(v:V)(p:zi d)(h:Rep K H O d v):Rep K H' O' d v:=RepN.mono g.tups g.frzs (λ_ _ _ z=>z.elim) d v p h
mutual
def Ft(K:W.Frag)(H:Hp):D->V->List Addr->Prop
 |.lst S,v,A=>∃a E B,v=.ref a/\H a=some (.lst E)/\A=a::B/\Fts K H S E B
 |.dk ks S,v,A=>∃a E B,v=.ref a/\H a=some (.dK (ks.zip E))/\ks.length=S.length/\ks.Nodup/\A=a::B/\Fts K H S E B
 |.tup S,v,A=>∃a E,v=.ref a/\SqR K H a E/\Fts K H S E A
 |.non,v,A=>A=[]/\v=.non
 |.bl b,v,A=>A=[]/\v=.bl b
 |.int i,v,A=>A=[]/\v=.int i
 |.str x,v,A=>A=[]/\v=.str x
 |.ty n,v,A=>A=[]/\v=.ty n
 |.scr ns,v,A=>A=[]/\∃a,v=.ref a/\Scr K H a ns
 |.fo _,_,_=>False
 |.sx _,_,_=>False
 |.ob C ns S,v,A=>∃a dx E B,v=.ref a/\H a=some (.ins C dx (ns.zip E))/\ns.length=S.length/\ns.Nodup/\A=a::B/\Fts K H S E B
def Fts(K:W.Frag)(H:Hp):List D->List V->List Addr->Prop
 |[],E,A=>E=[]/\A=[]
 |d::S,E,A=>∃v r B C,E=v::r/\A=B++C/\Ft K H d v B/\Fts K H S r C
end
mutual
theorem Ft.keep(g:Gt H H'):∀(d:D)(v:V)(A:List Addr),(∀a∈A,∀u,H a=some u->H' a=some u)->Ft K H d v A->Ft K H' d v A
 |.lst S,v,A,k,h=>by
  obtain⟨a,E,B,e,q,rfl,r⟩:=h;exact⟨a,E,B,e,k a zao _ q,rfl,Fts.keep g S E B (λb j=>k b (zal _ j)) r⟩
 |.dk ks S,v,A,k,h=>by
  obtain⟨a,E,B,e,q,l,n,rfl,r⟩:=h;exact⟨a,E,B,e,k a zao _ q,l,n,rfl,Fts.keep g S E B (λb j=>k b (zal _ j)) r⟩
 |.tup S,v,A,k,h=>by
  obtain⟨a,E,e,q,r⟩:=h;exact⟨a,E,e,Q2 g.tups g.frzs q,Fts.keep g S E A k r⟩
 |.non,_,_,_,h=>h
 |.bl _,_,_,_,h=>h
 |.int _,_,_,_,h=>h
 |.str _,_,_,_,h=>h
 |.ty _,_,_,_,h=>h
 |.scr ns,v,A,_,h=>by
  obtain⟨e,a,e2,q⟩:=h;exact⟨e,a,e2,U5 g.frzs q⟩
 |.fo _,_,_,_,h=>h.elim
 |.sx _,_,_,_,h=>h.elim
 |.ob C ns S,v,A,k,h=>by
  obtain⟨a,dx,E,B,e,q,l,n,rfl,r⟩:=h;exact⟨a,dx,E,B,e,k a zao _ q,l,n,rfl,Fts.keep g S E B (λb j=>k b (zal _ j)) r⟩
theorem Fts.keep(g:Gt H H'):∀(S:List D)(E:List V)(A:List Addr),(∀a∈A,∀u,H a=some u->H' a=some u)->Fts K H S E A->Fts K H' S E A
 |[],_,_,_,h=>h
 |d::S,E,A,k,h=>by
  obtain⟨v,r,B,C,e,rfl,q,t⟩:=h;exact⟨v,r,B,C,e,rfl,Ft.keep g d v B (λb j=>k b (zaF _ j)) q,Fts.keep g S r C (λb j=>k b (zaD _ j)) t⟩
end
mutual
theorem Ft.rep:∀(d:D)(v:V)(A:List Addr),(∀a∈A,a∉O)->Ft K H d v A->Rep K H O d v
 |.lst S,v,A,k,h=>by
  obtain⟨a,E,B,e,q,rfl,r⟩:=h;exact⟨a,E,e,q,k a zao,Fts.reps S E B (λb g=>k b (zal _ g)) r⟩
 |.dk ks S,v,A,k,h=>by
  obtain⟨a,E,B,e,q,l,n,rfl,r⟩:=h;exact⟨a,E,e,q,k a zao,l,n,Fts.reps S E B (λb g=>k b (zal _ g)) r⟩
 |.tup S,v,A,k,h=>by
  obtain⟨a,E,e,q,r⟩:=h;exact⟨a,E,e,q,Fts.reps S E A k r⟩
 |.non,_,_,_,h=>h.2
 |.bl _,_,_,_,h=>h.2
 |.int _,_,_,_,h=>h.2
 |.str _,_,_,_,h=>h.2
 |.ty _,_,_,_,h=>h.2
 |.scr ns,v,A,_,h=>h.2
 |.fo _,_,_,_,h=>h.elim
 |.sx _,_,_,_,h=>h.elim
 |.ob C ns S,v,A,k,h=>by
  obtain⟨a,dx,E,B,e,q,l,n,rfl,r⟩:=h;exact⟨a,dx,E,e,q,k a zao,l,n,Fts.reps S E B (λb g=>k b (zal _ g)) r⟩
theorem Fts.reps:∀(S:List D)(E:List V)(A:List Addr),(∀a∈A,a∉O)->Fts K H S E A->Reps K H O S E
 |[],_,_,_,h=>h.1
 |d::S,E,A,k,h=>by
  obtain⟨v,r,B,C,e,rfl,q,t⟩:=h;exact⟨v,r,e,Ft.rep d v B (λb g=>k b (zaF _ g)) q,Fts.reps S r C (λb g=>k b (zaD _ g)) t⟩
end
mutual
theorem Ft.dom:∀(d:D)(v:V)(A:List Addr),Ft K H d v A->∀a∈A,∃u,H a=some u/\(∀E,u≠.tup E)/\∀ob w,u≠.frz ob w
 |.lst S,v,A,h=>by
  obtain⟨a,E,B,e,q,rfl,r⟩:=h;intro b g;rcases zam.mp g with rfl|g
  ·exact⟨_,q,(λ_ z=>by cases z),λ_ _ z=>by cases z⟩
  exact Fts.dom S E B r b g
 |.dk ks S,v,A,h=>by
  obtain⟨a,E,B,e,q,l,n,rfl,r⟩:=h;intro b g;rcases zam.mp g with rfl|g
  ·exact⟨_,q,(λ_ z=>by cases z),λ_ _ z=>by cases z⟩
  exact Fts.dom S E B r b g
 |.tup S,v,A,h=>by
  obtain⟨a,E,e,q,r⟩:=h;exact Fts.dom S E A r
 |.non,_,_,h=>by obtain⟨rfl,_⟩:=h;intro a j;cases j
 |.bl _,_,_,h=>by obtain⟨rfl,_⟩:=h;intro a j;cases j
 |.int _,_,_,h=>by obtain⟨rfl,_⟩:=h;intro a j;cases j
 |.str _,_,_,h=>by obtain⟨rfl,_⟩:=h;intro a j;cases j
 |.ty _,_,_,h=>by obtain⟨rfl,_⟩:=h;intro a j;cases j
 |.scr _,_,_,h=>by obtain⟨rfl,_⟩:=h;intro a j;cases j
 |.fo _,_,_,h=>h.elim
 |.sx _,_,_,h=>h.elim
 |.ob C ns S,v,A,h=>by
  obtain⟨a,dx,E,B,e,q,l,n,rfl,r⟩:=h;intro b g;rcases zam.mp g with rfl|g
  ·exact⟨_,q,(λ_ z=>by cases z),λ_ _ z=>by cases z⟩
  exact Fts.dom S E B r b g
theorem Fts.dom:∀(S:List D)(E:List V)(A:List Addr),Fts K H S E A->∀a∈A,∃u,H a=some u/\(∀E,u≠.tup E)/\∀ob w,u≠.frz ob w
 |[],_,_,h=>by obtain⟨_,rfl⟩:=h;intro a j;cases j
 |d::S,E,A,h=>by
  obtain⟨v,r,B,C,e,rfl,q,t⟩:=h;intro b g;rcases zas.mp g with g|g
  ·exact Ft.dom d v B q b g
  exact Fts.dom S r C t b g
end
mutual
theorem RepN.ft:∀(d:D)(v:V),zi d->Rep K H O d v->Ft K H d v []
 |.non,_,_,h=>⟨rfl,h⟩
 |.bl _,_,_,h=>⟨rfl,h⟩
 |.int _,_,_,h=>⟨rfl,h⟩
 |.str _,_,_,h=>⟨rfl,h⟩
 |.ty _,_,_,h=>⟨rfl,h⟩
 |.tup S,v,p,h=>by
  obtain⟨a,E,e,q,r⟩:=h;exact⟨a,E,e,q,zj.fts S E p r⟩
 |.scr ns,v,_,h=>⟨rfl,h⟩
 |.fo _,_,p,_=>p.elim
 |.sx _,_,p,_=>p.1.elim
 |.lst S,v,p,h=>p.1.elim
 |.dk ks S,v,p,h=>p.1.elim
 |.ob C ns S,v,p,h=>p.1.elim
theorem zj.fts:∀(S:List D)(E:List V),zu S->Reps K H O S E->Fts K H S E []
 |[],_,_,h=>⟨h,rfl⟩
 |d::S,E,p,h=>by
  obtain⟨v,r,e,q,t⟩:=h;exact⟨v,r,[],[],e,rfl,RepN.ft d v p.1 q,zj.fts S r p.2 t⟩
end
noncomputable def hid:Nat->DE->DE
 |_,[]=>[]
 |0,_::U=>none::U
 |l+1,x::U=>x::hid l U
theorem rf:∀(l:Nat)(U:DE),hid l U=U.set l none
 |_,[]=>by cases ‹Nat› <;> rfl
 |0,_::_=>rfl
 |l+1,x::U=>by rw[hid,rf l U,List.set_cons_succ]
def c9{l i:Nat}{U:DE}{r:EV}(h:(hid l U)[i]?=some (some r)):i≠l/\U[i]?=some (some r):=by
 rw[rf]at h;by_cases e:i=l
 ·subst e;rcases zcQ i U.length with z|z
  ·rw[zaV z]at h;cases h
  rw[zbW (by rw[zaY];exact z)]at h;cases h
 rw[zaN (Ne.symm e)]at h;exact⟨e,h⟩
def Pt{l i:Nat}{U:DE}(h:i≠l):(hid l U)[i]?=U[i]?:=by
 rw[rf,zaN (Ne.symm h)]
def Yi(l:Nat)(U:DE)(x:EV):hid l (setS U l x)=hid l U:=by
 rw[rf,rf,wa,List.set_set]
def qe{l j:Nat}(U:DE)(x:EV)(h:j≠l):hid l (setS U j x)=setS (hid l U) j x:=by
 rw[rf,rf,wa,wa,List.set_comm _ _ h]
noncomputable def tg(l:Nat)(A:List Addr):List (Nat×Addr):=A.map λa=>(l,a)
def Em(l:Nat)(A:List Addr):(tg l A).map Prod.snd=A:=by
 unfold tg;rw[zbI];exact List.map_id A
def vg(o:List (Nat×Addr))(l:Nat)(A:List Addr):(o++tg l A).map Prod.snd=o.map Prod.snd++A:=by
 rw[zMa,Em]
structure ST(K:W.Frag)(H_ H:Hp)(Y:St)(U:DE)(o:List (Nat×Addr))(l:Nat)(A:List Addr)(d:D)(v:V):Prop where
 Q:REnv K H_ H Y (hid l U) (o++tg l A)
 hd:U[l]?=some (some (dv d))
 hv:Y[l]?=some (some v)
 ft:Ft K H d v A
section
variable{o:List (Nat×Addr)}{l:Nat}{A A':List Addr}{d d':D}
def ST.lt(ds:ST K H_ H Y U o l A d v):l<U.length:=(zag.mp ds.hd).1
def ST.ndA(ds:ST K H_ H Y U o l A d v):A.Nodup:=by
 have:=ds.Q.nda;rw[vg]at this;exact(zaO.mp this).2.1
def ST.dis(ds:ST K H_ H Y U o l A d v):∀a∈A,a∉o.map Prod.snd:=λa g e=>by
 have:=ds.Q.nda;rw[vg]at this;exact(zaO.mp this).2.2 a e a g rfl
def ST.frA(ds:ST K H_ H Y U o l A d v):∀a∈A,H_ a=none:=λa e=>ds.Q.fresh (l,a) (zaD _ (zah.mpr ⟨a,e,rfl⟩))
def Cy{i l:Nat}{a:Addr}(h:(i,a)∈o++tg l A)(hi:i≠l):(i,a)∈o:=by
 rcases zas.mp h with h|h
 ·exact h
 obtain⟨b,_,e⟩:=zah.mp h;cases e;exact absurd rfl hi
def ST.R(ds:ST K H_ H Y U o l A d v):REnv K H_ H Y U o where
 same:=ds.Q.same
 fresh:=λp g=>ds.Q.fresh p (zaF _ g)
 trk:=λp g=>ds.Q.trk p (zaF _ g)
 mtb:=λp g=>ds.Q.mtb p (zaF _ g)
 nda:=by
  have:=ds.Q.nda;rw[vg]at this;exact(zaO.mp this).1
 len:=by
  have:=ds.Q.len;rw[rf,zaY]at this;exact this
 slots:=λi r e=>by
  by_cases hi:i=l
  ·subst hi;rw[ds.hd]at e;cases e;exact⟨v,ds.hv,.inl ⟨rfl,Ft.rep _ _ _ ds.dis ds.ft⟩⟩
  obtain⟨w,u,q⟩:=ds.Q.slots i r (by rw[Pt hi];exact e)
  rw[vg]at q;have sub:∀a∈o.map Prod.snd,a∈o.map Prod.snd++A:=λa j=>zaF _ j;refine⟨w,u,?_⟩;rcases q with⟨k,q⟩|⟨k,a,e1,m,c⟩
  ·exact .inl ⟨k,RepN.sub sub _ _ q⟩
  exact .inr ⟨k,a,e1,Cy m hi,c.sub sub⟩
theorem ST.to(ds:ST K H_ H Y U o l A d v)(s:Same H H'):ST K H_ H' Y U o l A d v :=
 ⟨ds.Q.to s,ds.hd,ds.hv,Ft.keep (Gt.same s) _ _ _ (λa _ u h=>s a u h) ds.ft⟩
def Grow.gt{O O':List Addr}(g:Grow O O' H H'):Gt H H':=⟨g.tups,g.frzs⟩
def ST.chg(ds:ST K H_ H Y U o l A d v)(g:Grow A A' H H')(ft:Ft K H' d' v A')(es:A'.Nodup)(fr:∀ a∈A',a∈A\/H a=none) :
  ST K H_ H' Y (setS U l (dv d')) o l A' d' v:=by
 have hl:=ds.lt;have G:Grow ((o++tg l A).map Prod.snd) ((o++tg l A').map Prod.snd) H H':=by
  rw[vg,vg];exact⟨λb u h n=>⟨(g.keep b u h λz=>n (zaD _ z)).1,λz=>(zas.mp z).elim (λz=>n (zaF _ z)) (g.keep b u h λz=>n (zaD _ z)).2⟩,g.tups,g.frzs⟩
 have y:∀p∈o,p.2∉A:=λp j z=>ds.dis _ z (zah.mpr ⟨p,j,rfl⟩);refine⟨⟨λb u h=>?_,λp j=>?_,λp j=>?_,λp j=>?_,?_,λi r e=>?_,?_⟩,?_,ds.hv,ft⟩
 ·refine(g.keep b u (ds.Q.same b u h) λz=>?_).1;rw[ds.frA b z]at h;cases h
 ·rcases zas.mp j with j|j
  ·exact ds.Q.fresh p (zaF _ j)
  obtain⟨a,x,rfl⟩:=zah.mp j;rcases fr a x with h|h
  ·exact ds.frA a h
  exact ds.Q.same.free h
 ·rcases zas.mp j with j|j
  ·obtain⟨u,e⟩:=ds.Q.trk p (zaF _ j);exact⟨u,(g.keep _ _ e (y p j)).1⟩
  obtain⟨a,x,rfl⟩:=zah.mp j;obtain⟨u,hu,_⟩:=Ft.dom _ _ _ ft a x;exact⟨u,hu⟩
 ·rcases zas.mp j with j|j
  ·obtain⟨u,e⟩:=ds.Q.trk p (zaF _ j);obtain⟨V,O⟩:=ds.Q.mtb p (zaF _ j);have I:=(g.keep _ _ e (y p j)).1;refine⟨λE z=>?_,λB w z=>?_⟩
   ·rw[I]at z;rw[<- e]at z;exact V E z
   rw[I]at z;rw[<- e]at z;exact O B w z
  obtain⟨a,x,rfl⟩:=zah.mp j;obtain⟨u,hu,N,L⟩:=Ft.dom _ _ _ ft a x;refine⟨λE z=>?_,λB w z=>?_⟩
  ·rw[hu]at z;cases z;exact N _ rfl
  rw[hu]at z;cases z;exact L _ _ rfl
 ·rw[vg,zaO];refine⟨ds.R.nda,es,λa x b W e=>?_⟩;subst e;rcases fr a W with h|h
  ·exact ds.dis a h x
  exact ds.R.ofree h x
 ·rw[Yi]at e;obtain⟨hi,_⟩:=c9 e;obtain⟨w,Z,q⟩:=ds.Q.slots i r e;refine⟨w,Z,?_⟩;rcases q with⟨k,q⟩|⟨k,a,e1,m,c⟩
  ·exact .inl ⟨k,RepN.grow G _ _ q⟩
  have D:=Cy m hi;exact .inr ⟨k,a,e1,zaF _ D,c.grow (λu h=>(g.keep _ _ h (y _ D)).1) G⟩
 ·rw[Yi];exact ds.Q.len
 rw[wa,zaV hl]
def REnv.putX(R:REnv K H_ H Y U o)(s:Same H H')(i:Nat){r:EV}{v:V}(h:RV K H H' (o.map Prod.snd) r v)(e:r.k≠.own) :
  ∃pre,REnv K H_ H' (Y.set i (some v)) (setS U i r.sto) (pre++o):=by
 obtain⟨k,d⟩:=r;cases k with
 |val=>exact⟨[],(R.to s).setV i h⟩
 |own=>exact absurd rfl e
 |fre =>
  obtain⟨a,rfl,m,n,c⟩:=h;exact⟨[(i,a)],(R.setO s i m c).1⟩
 |new=>exact⟨[],(R.to s).setV i (RepN.rep (λa z=>z.1) _ _ h)⟩
theorem ST.set(ds:ST K H_ H Y U o l A d v)(s:Same H H'){j:Nat}{r:EV}{w:V}(e:j≠l)(h:RV K H H' ((o++tg l A).map Prod.snd) r w)(g:r.k≠.own) :
  ∃o',ST K H_ H' (Y.set j (some w)) (setS U j r.sto) o' l A d v:=by
 obtain⟨a,q⟩:=ds.Q.putX s j h g;refine⟨a++o,⟨?_,?_,?_,(ds.to s).ft⟩⟩
 ·rw[qe _ _ e,zaS];exact q
 ·rw[wa,zaN e];exact ds.hd
 rw[zaN e];exact ds.hv
def ST.setP(ds:ST K H_ H Y U o l A d v){j:Nat}{e:D}{w:V}(a:j≠l)(g:zi e)(h:Rep K H [] e w):ST K H_ H (Y.set j (some w)) (setS U j (dv e)) o l A d v:=by
 refine⟨?_,?_,?_,ds.ft⟩
 ·rw[qe _ _ a];exact ds.Q.setV j (RepN.pure _ _ g h)
 ·rw[wa,zaN a];exact ds.hd
 rw[zaN a];exact ds.hv
end
abbrev TQ:=DE->(D->DE->Prop)->Prop
abbrev TQs:=DE->(List D->DE->Prop)->Prop
abbrev TQb:=DE->(Bool->DE->Prop)->Prop
structure QZ where
 nx:DE->Prop
 rt:D->DE->Prop
 bk:DE->Prop:=λ_=>False
 ct:DE->Prop:=λ_=>False
abbrev TQS:=DE->QZ->Prop
def B7(K:W.Frag)(H_:Hp)(l:Nat)(t:TQ):TE:=λY H Q=>∃U o A d v,ST K H_ H Y U o l A d v/\∃M,t U M/\∀u e ρ' H' A' d',Grow A A' H H'->ST K H_ H' Y ρ' o l A' d' v->zi e->Rep K H' [] e u->M e ρ'->Q u H'
def B4(K:W.Frag)(H_:Hp)(l:Nat)(t:TQb):TT:=λY H Q=>∃U o A d v,ST K H_ H Y U o l A d v/\∃M,t U M/\∀b ρ' H' A' d',Grow A A' H H'->ST K H_ H' Y ρ' o l A' d' v->M b ρ'->Q b H'
def J8(K:W.Frag)(H_:Hp)(l:Nat)(t:TQs):TA:=λY H Q=>∃U o A d v,ST K H_ H Y U o l A d v/\∃M,t U M/\∀us J ρ' H' A' d',Grow A A' H H'->ST K H_ H' Y ρ' o l A' d' v->Reps K H' (o.map Prod.snd++A') J us->M J ρ'->Q us H'
def Pi(K:W.Frag)(H_:Hp)(l:Nat)(t:TQS):TS:=λDz Y H=>∃U o A d v,ST K H_ H Y U o l A d v/\∃Z,t U Z /\
 (∀ρ' σ' H' o' A' d',ST K H_ H' σ' ρ' o' l A' d' v->Z.nx ρ'->Dz.nx σ' H') /\
 (∀ρ' σ' H' o' A' d',ST K H_ H' σ' ρ' o' l A' d' v->Z.bk ρ'->Dz.bk σ' H') /\
 (∀ρ' σ' H' o' A' d',ST K H_ H' σ' ρ' o' l A' d' v->Z.ct ρ'->Dz.ct σ' H') /\
 (∀u e ρ' σ' H' o' A' d',ST K H_ H' σ' ρ' o' l A' d' v->zi e->Rep K H' [] e u->Z.rt e ρ'->Dz.rt u H')
def EQ(G:Hp->Prop)(l:Nat)(X:Cx)(e:Expr)(t:TQ):Prop:=∀H_:{H:Hp // G H},PE X e (B7 X.K H_.1 l t)
def QT(G:Hp->Prop)(l:Nat)(X:Cx)(e:Expr)(t:TQb):Prop:=∀H_:{H:Hp // G H},PT X e (B4 X.K H_.1 l t)
def QA(G:Hp->Prop)(l:Nat)(X:Cx)(J:List Expr)(t:TQs):Prop:=∀H_:{H:Hp // G H},PA X J (J8 X.K H_.1 l t)
def QS(G:Hp->Prop)(l:Nat)(X:Cx)(st:Stmt)(t:TQS):Prop:=∀H_:{H:Hp // G H},PS X st (Pi X.K H_.1 l t)
def QSs(G:Hp->Prop)(l:Nat)(X:Cx)(st:List Stmt)(t:TQS):Prop:=∀H_:{H:Hp // G H},PSs X st (Pi X.K H_.1 l t)
theorem wn:∀{U:DE}{i:Nat}{r:EV},U[i]?=some (some r)->slot U i=some r
 |[],_,_,h=>by cases h
 |_::_,0,_,h=>zaM h
 |_::U,i+1,r,h=>wn (U:=U) (i:=i) (by simpa using h)
def s2_{U:DE}{l:Nat}{a b:D}(e:slot U l=some (dv a))(h:U[l]?=some (some (dv b))):a=b:=by have z:=wn h;rw[e]at z;cases z;rfl
variable{l:Nat}
section
variable{J:List Expr}{pos:Pos}
def qE(te:TD):TQ:=λU M=>te U λr=>zi r.d/\M r.d U
def W5{te:TD}(h:ED L X e te):EQ L l X e (qE te):=λH_=>impE (h H_) λY H Q q=>by
 obtain⟨U,o,A,d,v,ds,M,a,k⟩:=q;exact⟨U,o,ds.R,_,a,λu r H1 s1 g h1=>k u r.d U H1 A d (Grow.same s1) (ds.to s1) h1.1 g.view.rep0 h1.2⟩
def qT(tc:TDb):TQb:=λU M=>tc U λb=>M b U
def uq{tc:TDb}(h:ET L X e tc):QT L l X e (qT tc):=λH_=>impT (h H_) λY H Q q=>by
 obtain⟨U,o,A,d,v,ds,M,a,k⟩:=q;exact⟨U,o,ds.R,_,a,λb H1 s1 h1=>k b U H1 A d (Grow.same s1) (ds.to s1) h1⟩
def qB(te:TQ):TQb:=λU M=>te U λd a=>match d with
 |.bl b=>M b a
 |_=>False
def Z6{te:TQ}(h:EQ L l X e te)(y:∀ whole,isTrue e X.env whole=(do let v <- whole;standAt e.pos;holding [v] (truthy v)):=by intro _;rfl):QT L l X e (qB te):=λH_=>impT (C4 (h H_) y) λY H Q q=>by
 obtain⟨U,o,A,d,v,ds,M,j,k⟩:=q;refine⟨U,o,A,d,v,ds,_,j,λu r a H1 B d1 g z pr x h1=>?_⟩;cases r with
 |bl b =>
  cases (show u=_ from x)
  exact⟨b,rfl,k b a H1 B d1 g z h1⟩
 |_=>exact h1.elim
def Grow.add{H H':Hp}{O A A':List Addr}(g:Grow A A' H H'):Grow (O++A) (O++A') H H' :=
 ⟨λb u h n=>⟨(g.keep b u h λz=>n (zaD _ z)).1,λz=>(zas.mp z).elim (λz=>n (zaF _ z)) (g.keep b u h λz=>n (zaD _ z)).2⟩,g.tups,g.frzs⟩
def G7:TQs:=λU M=>M [] U
def x9:QA L l X [] G7:=λH_=>impA su λY H Q q=>by
 obtain⟨U,o,A,d,v,ds,M,a,k⟩:=q;exact k [] [] U H A d Grow.refl ds rfl a
def Ko(te:TQ)(g:TQs):TQs:=λU M=>te U λd e=>g e λS a=>M (d::S) a
def d7{te:TQ}{y:TQs}(D:EQ L l X e te)(hr:QA L l X J y)(B:autoParam (S_ X e J) zSr):QA L l X (e::J) (Ko te y):=λH_=>impA (vz (D H_) (hr H_) B) λY H Q q=>by
 obtain⟨U,o,A,d,v,ds,M,x,k⟩:=q;refine⟨U,o,A,d,v,ds,_,x,λu r g H1 N d1 g1 I pr z h1=>⟨g,o,N,d1,v,I,_,h1,λus rs a H2 es d2 g2 G j h2=>?_⟩⟩;exact k (u::us) (r::rs) a H2 es d2 (g1.trans g2) G ⟨u,us,rfl,RepN.keep g2.gt _ _ pr z,j⟩ h2
def Qh(te:TD)(e:TQs):TQs:=λU M=>te (hid l U) λr=>(match r.k with|.own=>False|_=>True)/\e U λS a=>M (r.d::S) a
def y3{te:TD}{x:TQs}(D:ED L X e te)(hr:QA L l X J x)(B:autoParam (S_ X e J) zSr):QA L l X (e::J) (Qh (l:=l) te x):=λH_=>impA (vz (D H_) (hr H_) B) λY H Q q=>by
 obtain⟨U,o,A,d,v,ds,M,j,k⟩:=q;refine⟨hid l U,_,ds.Q,_,j,λu r H1 s1 z h1=>⟨U,o,A,d,v,ds.to s1,_,h1.2,λus rs a H2 I d2 g2 G g h2=>?_⟩⟩;have y:=z.solid (uf h1.1);rw[vg]at y;exact k (u::us) (r.d::rs) a H2 I d2 ((Grow.same s1).trans g2) G ⟨u,us,rfl,RepN.grow g2.add _ _ y,g⟩ h2
end
section
variable{c:Expr}{st:Stmt}{rest a b:List Stmt}{pos:Pos}{t u:TQS}
def qNil:TQS:=λU Z=>Z.nx U
def qSeq(t u:TQS):TQS:=λU Z=>t U {Z with nx:=λρ'=>u ρ' Z}
def qRet(te:TQ):TQS:=λU Z=>te U Z.rt
def Dv(te:TQ):TQS:=λU Z=>te U λ_ a=>Z.nx a
def qIf(tc:TQb)(t u:TQS):TQS:=λU Z=>tc U λb a=>(b=true->t a Z)/\(b=false->u a Z)
def qSet(l j:Nat)(te:TD):TQS:=λU Z=>te (hid l U) λr=>(match r.k with|.own=>False|_=>True)/\Z.nx (setS U j r.sto)
def Dr(j:Nat)(te:TQ):TQS:=λU Z=>te U λd a=>Z.nx (setS a j (dv d))
def gd:QSs L l X [] qNil:=λH_=>Vi Y4 λDz Y H h=>by
 obtain⟨U,o,A,d,v,ds,Z,e,a,k,j,g⟩:=h;exact a U Y H o A d ds e
def y7(h:QS L l X st t):QSs L l X [st] t:=λH_=>qt (h H_)
def yf(h:QS L l X st t)(hr:QSs L l X rest u):QSs L l X (st::rest) (qSeq t u):=λH_=>Vi (vh (h H_) (hr H_)) λDz Y H h=>by
 obtain⟨U,o,A,d,v,ds,Z,q,k,g,e,a⟩:=h;exact⟨U,o,A,d,v,ds,_,q,λρ' j H' o' A' d' r h'=>⟨ρ',o',A',d',v,r,Z,h',k,g,e,a⟩,g,e,a⟩
def Ud{te:TQ}(h:EQ L l X e te):QS L l X (.Return (some e) pos) (qRet te):=λH_=>impS (Z9 (h H_)) λDz Y H h=>by
 obtain⟨U,o,A,d,v,ds,Z,q,D,B,z,k⟩:=h;exact⟨U,o,A,d,v,ds,_,q,λu r a H1 y d1 g x pr j h1=>k u r a Y H1 o y d1 x pr j h1⟩
def Dt:TQS:=λU Z=>Z.rt .non U
def G4:QS L l X (.Return none pos) Dt:=λH_=>impS Gc λDz Y H h=>by
 obtain⟨U,o,A,d,v,ds,Z,e,k,j,g,a⟩:=h;exact a .non .non U Y H o A d ds trivial rfl e
def xp{te:TQ}(h:EQ L l X e te)(k:autoParam (swapsWith e none pos.line X.env=pure false) zSr):QS L l X (.Expr e pos) (Dv te):=λH_=>impS (qu (h H_) k) λDz Y H h=>by
 obtain⟨U,o,A,d,v,ds,Z,q,j,G,D,B⟩:=h;exact⟨U,o,A,d,v,ds,_,q,λu r a H1 y d1 g x pr z h1=>j a Y H1 o y d1 x h1⟩
def vm{tc:TQb}(z:QT L l X c tc)(D:QSs L l X a t)(B:QSs L l X b u):QS L l X (.If c a b pos) (qIf tc t u):=λH_=>impS (Mc (z H_) (D H_) (B H_)) λDz Y H h=>by
 obtain⟨U,o,A,d,v,ds,Z,G,r,q,k,j⟩:=h;refine⟨U,o,A,d,v,ds,_,G,λb e H1 y d1 g x h1=>?_⟩;cases b with
 |true=>rw[zaK rfl];exact⟨e,o,y,d1,v,x,Z,h1.1 rfl,r,q,k,j⟩
 |false=>rw[zaJ aB];exact⟨e,o,y,d1,v,x,Z,h1.2 rfl,r,q,k,j⟩
def Uc(j:Nat){x:Str}{pos':Pos}{te:TD}(u:j≠l)(D:X.N.Nodup)(z:ED L X e te)(hi:autoParam (X.N[j]?=some x) zSr)(k:Loc X.env.scope x:=by first|exact Or.inl rfl|exact Or.inr rfl)(q:autoParam (swapsWith e (some (.Name x pos')) pos.line X.env=pure false) zSr)(y:X.fn x=true\/X.env.scope.names.lookup x=some .local:=by first|exact .inl rfl|exact .inr rfl|assumption):QS L l X (.Assign [.Name x pos'] e pos) (qSet l j te):=λH_=>impS (gf D hi k (z H_) q y) λDz Y H h=>by
 obtain⟨U,o,A,d,v,ds,Z,B,g,O,es,I⟩:=h;refine⟨hid l U,_,ds.Q,_,B,λw r H1 s1 a h1=>?_⟩;obtain⟨o',G⟩:=ds.set s1 u a (uf h1.1);exact g _ _ H1 o' A d G h1.2
def ju(j:Nat){x:Str}{pos':Pos}{te:TQ}(z:j≠l)(I:X.N.Nodup)(D:EQ L l X e te)(hi:autoParam (X.N[j]?=some x) zSr)(u:Loc X.env.scope x:=by first|exact Or.inl rfl|exact Or.inr rfl)(y:autoParam (swapsWith e (some (.Name x pos')) pos.line X.env=pure false) zSr)(B:X.fn x=true\/X.env.scope.names.lookup x=some .local:=by first|exact .inl rfl|exact .inr rfl|assumption):QS L l X (.Assign [.Name x pos'] e pos) (Dr j te):=λH_=>impS (gf I hi u (D H_) y B) λDz Y H h=>by
 obtain⟨U,o,A,d,v,ds,Z,G,q,V,R,Q⟩:=h;refine⟨U,o,A,d,v,ds,_,G,λw r a H1 O d1 g es pr k h1=>?_⟩;exact q _ _ H1 o O d1 (es.setP z pr k) h1
end
abbrev FTQ:=D->List D->(D->D->Prop)->Prop
def spQ(K:W.Frag)(n:Nat)(T:FTQ):Sp:=λvs H Q _=>∃d S v ws A M,vs=v::ws/\S.length+1=n/\Ft K H d v A/\A.Nodup/\Reps K H A S ws/\T d S M /\
 ∀u r d' H' A',Grow A A' H H'->Ft K H' d' v A'->A'.Nodup->(∀a∈A',a∈A\/H a=none)->zi r->Rep K H' [] r u->M r d'->Q u H'
noncomputable def vv(A:List Addr)(H:Hp):Hp:=λb=>if b∈A then none else H b
def bu{A:List Addr}{H:Hp}{b:Addr}(h:b∈A):vv A H b=none:=zaK h
def w8{A:List Addr}{H:Hp}{b:Addr}(h:b∉A):vv A H b=H b:=zaJ h
def Yy(A:List Addr)(H:Hp):Same (vv A H) H:=λb u h=>by
 by_cases hb:b∈A
 ·rw[bu hb]at h;cases h
 rw[w8 hb]at h;exact h
section
def Nc{a:Addr}{E ys:List V}(h:H a=some (.lst E)):Grow [a] [a] H (upd H a (.lst ys)) :=
 ⟨λb u d n=>⟨by rw[zx (λz=>n (by rw[z];exact zao))];exact d,n⟩,λb zs d=>by rw[zx (λz=>by rw[z,h]at d;cases d)];exact d,λb e u d=>by rw[zx (λz=>by rw[z,h]at d;cases d)];exact d⟩
end
def B6(K:W.Frag)(H_:Hp)(l:Nat)(t:TQs):TE:=λY H Q=>∃U o A d v,ST K H_ H Y U o l A d v/\∃M,t U M /\
 ∀a E J ρ' H' A' d',Grow A A' H H'->ST K H_ H' Y ρ' o l A' d' v->H' a=some (.lst E)->a∉A'->a∉o.map Prod.snd->zu J->Reps K H' [] J E->M J ρ'->Q (.ref a) H'
def QL(G:Hp->Prop)(l:Nat)(X:Cx)(e:Expr)(t:TQs):Prop:=∀H_:{H:Hp // G H},PE X e (B6 X.K H_.1 l t)
section
variable{st:Stmt}{t u:TQS}
def qCut(t:TQS):TQS:=λU Z=>∃es:DE->Prop,t U {Z with nx:=es}/\∀ρ',es ρ'->Z.nx ρ'
def wb(h:QS L l X st t):QS L l X st (qCut t):=λH_=>impS (h H_) λDz Y H h=>by
 obtain⟨U,o,A,d,v,ds,Z,⟨es,x,y⟩,u,r,q,k⟩:=h;exact⟨U,o,A,d,v,ds,_,x,λa e H2 j B d2 z g=>u a e H2 j B d2 z (y a g),r,q,k⟩
def xg{U:DE}{Z:QZ}(es:DE->Prop)(h1:t U {Z with nx:=es})(h2:∀ ρ2,es ρ2->u ρ2 Z):qSeq (qCut t) u U Z:=⟨es,h1,h2⟩
end
theorem Fts.length:∀{S:List D}{E:List V}{A:List Addr},Fts K H S E A->E.length=S.length
 |[],_,_,h=>by rw[h.1];rfl
 |d::S,E,A,h=>by
  obtain⟨v,r,B,C,rfl,_,_,t⟩:=h;simp[Fts.length t]
theorem Fts.foc:∀{S:List D}{E:List V}{A:List Addr}{i:Nat}{d:D},Fts K H S E A->S[i]?=some d->∃w l B C,E[i]?=some w/\A=B++l++C/\Ft K H d w l /\
  ∀H' e A1',Gt H H'->(∀a∈B++C,∀u,H a=some u->H' a=some u)->Ft K H' e w A1'->Fts K H' (S.set i e) E (B++A1'++C)
 |[],_,_,_,_,_,e=>by simp at e
 |d0::S,E,A,0,d,h,e=>by
  obtain⟨v,r,B,C,rfl,rfl,q,t⟩:=h;cases (show d0=d from by simpa using e)
  refine⟨v,B,[],C,rfl,rfl,q,λH' e A1' g k f=>⟨v,r,A1',C,rfl,rfl,f,Fts.keep g _ _ _ (λa j=>k a j) t⟩⟩
 |d0::S,E,A,i+1,d,h,e=>by
  obtain⟨v,r,B,C,rfl,rfl,q,t⟩:=h;obtain⟨w,l,z,y,I,rfl,f,k⟩:=Fts.foc (i:=i) t (by simpa using e)
  refine⟨w,l,B++z,y,by simpa using I,by simp,f,λH' e A1' g x G=>⟨v,r,B,z++A1'++y,rfl,by simp,Ft.keep g _ _ _ (λa j=>x a (by simp[j])) q,k H' e A1' g (λa j=>x a (by simp at j ⊢;rcases j with j|j <;> simp[j])) G⟩⟩
theorem Fts.put:∀{S:List D}{E:List V}{A:List Addr}(i:Nat){e:D}{u:V},Fts K H S E A->Ft K H e u []->∃A',A'.Sublist A/\Fts K H (S.set i e) (E.set i u) A'
 |[],_,_,_,_,_,h,_=>⟨_,List.Sublist.refl _,by obtain⟨rfl,rfl⟩:=h;exact⟨rfl,rfl⟩⟩
 |d::S,E,A,0,e,u,h,f=>by
  obtain⟨v,r,B,C,rfl,rfl,q,t⟩:=h;exact⟨C,List.sublist_append_right _ _,u,r,[],C,rfl,rfl,f,t⟩
 |d::S,E,A,i+1,e,u,h,f=>by
  obtain⟨v,r,B,C,rfl,rfl,q,t⟩:=h;obtain⟨a,s,t'⟩:=Fts.put i t f;exact⟨B++a,List.Sublist.append (List.Sublist.refl _) s,v,_,B,a,rfl,rfl,q,t'⟩
theorem Fts.app:∀{S J:List D}{E ys:List V}{A B:List Addr},Fts K H S E A->Fts K H J ys B->Fts K H (S++J) (E++ys) (A++B)
 |[],_,_,_,_,_,h,f=>by obtain⟨rfl,rfl⟩:=h;exact f
 |d::S,J,E,ys,A,B',h,f=>by
  obtain⟨v,r,B,C,rfl,rfl,q,t⟩:=h;exact⟨v,r++ys,B,C++B',rfl,by simp,q,Fts.app t f⟩
mutual
theorem Ft.repN{P:Addr->Prop}:∀(d:D)(v:V)(A:List Addr),(∀a∈A,P a)->Ft K H d v A->RepN K H P d v
 |.lst S,v,A,k,h=>by
  obtain⟨a,E,B,e,q,rfl,r⟩:=h;exact⟨a,E,e,q,k a zao,Fts.repNs S E B (λb g=>k b (zal _ g)) r⟩
 |.dk ks S,v,A,k,h=>by
  obtain⟨a,E,B,e,q,l,n,rfl,r⟩:=h;exact⟨a,E,e,q,k a zao,l,n,Fts.repNs S E B (λb g=>k b (zal _ g)) r⟩
 |.tup S,v,A,k,h=>by
  obtain⟨a,E,e,q,r⟩:=h;exact⟨a,E,e,q,Fts.repNs S E A k r⟩
 |.non,_,_,_,h=>h.2
 |.bl _,_,_,_,h=>h.2
 |.int _,_,_,_,h=>h.2
 |.str _,_,_,_,h=>h.2
 |.ty _,_,_,_,h=>h.2
 |.scr ns,v,A,_,h=>h.2
 |.fo _,_,_,_,h=>h.elim
 |.sx _,_,_,_,h=>h.elim
 |.ob C ns S,v,A,k,h=>by
  obtain⟨a,dx,E,B,e,q,l,n,rfl,r⟩:=h;exact⟨a,dx,E,e,q,k a zao,l,n,Fts.repNs S E B (λb g=>k b (zal _ g)) r⟩
theorem Fts.repNs{P:Addr->Prop}:∀(S:List D)(E:List V)(A:List Addr),(∀a∈A,P a)->Fts K H S E A->zj K H P S E
 |[],_,_,_,h=>h.1
 |d::S,E,A,k,h=>by
  obtain⟨v,r,B,C,e,rfl,q,t⟩:=h;exact⟨v,r,e,Ft.repN d v B (λb g=>k b (zaF _ g)) q,Fts.repNs S r C (λb g=>k b (zaD _ g)) t⟩
end
section
variable{o:List (Nat×Addr)}{A:List Addr}{d:D}
def ST.letgo(ds:ST K H_ H Y U o l A d v){i:Nat}(hi:i≠l)(w:V):ST K H_ H (Y.set i (some w)) (hid i U) o l A d v:=by
 refine⟨⟨ds.Q.same,ds.Q.fresh,ds.Q.trk,ds.Q.mtb,ds.Q.nda,λj r e=>?_,?_⟩,?_,?_,ds.ft⟩
 ·obtain⟨g,e⟩:=c9 e;obtain⟨a,e⟩:=c9 e;obtain⟨u,k,q⟩:=ds.Q.slots j r (by rw[Pt g];exact e)
  exact⟨u,by rw[zaN (Ne.symm a)];exact k,q⟩
 ·rw[zaY,ds.Q.len];simp only[rf,zaY]
 ·rw[Pt (Ne.symm hi)];exact ds.hd
 rw[zaN hi];exact ds.hv
end
abbrev TP1:=DE->(List Nat->Prop)->Prop
section
variable{x:Str}{J:List Expr}
def Gv:TP1:=λ_ M=>M []
abbrev TF:=DE->(D->Prop)->Prop
abbrev TFs:=DE->(List D->Prop)->Prop
def z1l(K:W.Frag)(H_:Hp)(l:Nat)(t:TF):TE:=λY H Q=>∃U o A d v,ST K H_ H Y U o l A d v/\∃M,t U M/\∀u e B H',Same H H'->Ft K H' e u B->B.Nodup->(∀b∈B,H b=none)->M e->Q u H'
def B9(K:W.Frag)(H_:Hp)(l:Nat)(t:TFs):TA:=λY H Q=>∃U o A d v,ST K H_ H Y U o l A d v/\∃M,t U M/\∀us J B H',Same H H'->Fts K H' J us B->B.Nodup->(∀b∈B,H b=none)->M J->Q us H'
def EF(G:Hp->Prop)(l:Nat)(X:Cx)(e:Expr)(t:TF):Prop:=∀H_:{H:Hp // G H},PE X e (z1l X.K H_.1 l t)
def EFs(G:Hp->Prop)(l:Nat)(X:Cx)(J:List Expr)(t:TFs):Prop:=∀H_:{H:Hp // G H},PA X J (B9 X.K H_.1 l t)
def frs1:EV->Prop
 |⟨.fre,.lst S⟩=>zu S
 |⟨.new,.lst S⟩=>zu S
 |⟨_,d⟩=>zi d
def Bx{K:W.Frag}{H H':Hp}{O:List Addr}{r:EV}{v:V}(h:RV K H H' O r v)(p:frs1 r):∃B,Ft K H' r.d v B/\B.Nodup/\∀b∈B,H b=none:=by
 have q:zi r.d->∃B,Ft K H' r.d v B/\B.Nodup/\∀b∈B,H b=none:=λu=>⟨[],RepN.ft _ _ u h.view.rep0,zcK,λb e=>by cases e⟩
 obtain⟨k,d⟩:=r;unfold frs1 at p;split at p
 ·rename_i S g;cases g;obtain⟨a,rfl,m,n,E,l,j⟩:=h;exact⟨[a],⟨a,E,[],rfl,l,rfl,zj.fts _ _ p j⟩,by simp,λb e=>by rw[zaE.mp e];exact m⟩
 ·rename_i S g;cases g;obtain⟨a,E,rfl,l,x,j⟩:=h;exact⟨[a],⟨a,E,[],rfl,l,rfl,zj.fts (O:=[]) _ _ p (zj.reps (λ_ _ z=>by cases z) _ _ j)⟩,by simp,λb e=>by rw[zaE.mp e];exact x.2⟩
 rename_i y d' _ _ g;cases g;exact q p
def fNil:TFs:=λ_ M=>M []
def E1:EFs L l X [] fNil:=λH_=>impA su λY H Q q=>by
 obtain⟨U,o,A,d,v,ds,M,a,k⟩:=q;exact k [] [] [] H (Same.refl H) ⟨rfl,rfl⟩ zcK (λb e=>by cases e) a
def Fy(te:TF)(a:TFs):TFs:=λU M=>te U λd=>a U λS=>M (d::S)
def T9{te:TF}{G:TFs}(V:EF L l X e te)(hr:EFs L l X J G)(R:autoParam (S_ X e J) zSr):EFs L l X (e::J) (Fy te G):=λH_=>impA (vz (V H_) (hr H_) R) λY H Q q=>by
 obtain⟨U,o,A,d,v,ds,M,y,k⟩:=q;refine⟨U,o,A,d,v,ds,_,y,λu e1 B1 H1 s1 I O z h1=>⟨U,o,A,d,v,ds.to s1,_,h1,λus D es H2 s2 Z N j h2=>?_⟩⟩;have B:Ft X.K H2 e1 u B1:=Ft.keep (Gt.same s2) _ _ _ (λa _ x r=>s2 _ _ r) I;refine k (u::us) (e1::D) (B1++es) H2 (s1.trans s2) ⟨u,us,B1,es,rfl,rfl,B,Z⟩ ?_ (λb g=>?_) h2
 ·rw[zaO];refine⟨O,N,λa W b g e=>?_⟩;subst e;obtain⟨x,r,_⟩:=Ft.dom _ _ _ I a W;rw[j a g]at r;cases r
 rcases zas.mp g with g|g
 ·exact z b g
 exact s1.free (j b g)
end
def Uu(K:W.Frag)(H_:Hp)(l:Nat)(t:TQS):TS:=λDz Y H=>∃U o A d v,ST K H_ H Y U o l A d v/\∃Z,t U Z /\
 (∀ρ' σ' H' o' A' d',ST K H_ H' σ' ρ' o' l A' d' v->Z.nx ρ'->Dz.nx σ' H') /\
 (∀u e ρ' H',Same H_ H'->RepN K H' (λa=>H_ a=none) e u->Z.rt e ρ'->Dz.rt u H')
def RS(G:Hp->Prop)(l:Nat)(X:Cx)(st:Stmt)(t:TQS):Prop:=∀H_:{H:Hp // G H},PS X st (Uu X.K H_.1 l t)
def RSs(G:Hp->Prop)(l:Nat)(X:Cx)(st:List Stmt)(t:TQS):Prop:=∀H_:{H:Hp // G H},PSs X st (Uu X.K H_.1 l t)
section
variable{st:Stmt}{rest a b:List Stmt}{t u:TQS}{c:Expr}{pos:Pos}
def Dk:RSs L l X [] qNil:=λH_=>Vi Y4 λDz Y H h=>by
 obtain⟨U,o,A,d,v,ds,Z,e,a,g⟩:=h;exact a _ _ _ _ _ _ ds e
def Kn(h:RS L l X st t):RSs L l X [st] t:=λH_=>qt (h H_)
def G0(h:RS L l X st t)(hr:RSs L l X rest u):RSs L l X (st::rest) (qSeq t u):=λH_=>Vi (vh (h H_) (hr H_)) λDz Y H h=>by
 obtain⟨U,o,A,d,v,ds,Z,j,g,a⟩:=h;exact⟨U,o,A,d,v,ds,_,j,λρ' e H' o' A' d' k h'=>⟨ρ',o',A',d',v,k,Z,h',g,a⟩,a⟩
def z0w{tc:TQb}(x:QT L l X c tc)(z:RSs L l X a t)(y:RSs L l X b u):RS L l X (.If c a b pos) (qIf tc t u):=λH_=>impS (Mc (x H_) (z H_) (y H_)) λDz Y H h=>by
 obtain⟨U,o,A,d,v,ds,Z,B,k,j⟩:=h;refine⟨U,o,A,d,v,ds,_,B,λD e H1 r d1 g q h1=>?_⟩;cases D
 ·exact⟨e,o,r,d1,v,q,Z,h1.2 rfl,k,j⟩
 exact⟨e,o,r,d1,v,q,Z,h1.1 rfl,k,j⟩
end
abbrev FTR:=D->List D->(D->Prop)->Prop
def spR(K:W.Frag)(n:Nat)(T:FTR):Sp:=λvs H Q _=>∃d S v ws A M,vs=v::ws/\S.length+1=n/\Ft K H d v A/\A.Nodup/\Reps K H A S ws/\T d S M /\
 ∀u e H',(∀b x,H b=some x->b∉A->H' b=some x)->RepN K H' (λa=>a∈A\/H a=none) e u->M e->Q u H'
structure FR(P:Program)(w:World)(K:W.Frag)(mg:Str->Option Value)(base:Heap)(k:Nat)(x:Str)(ps:List Str)(T:FTR):Prop where
 ex:∃f fd,FnOk P w K mg base CX0 k f fd ps (spR K ps.length T)/\um K fd ps []/\W.keepIn K (.ref f)=true/\mg x=some (.ref f)
def D7{Y:St}{U:DE}{l:Nat}{d:D}{v:V}{H:Hp}{g:List Addr}(ft:Ft K H d v g)(y:g.Nodup)(L:U[l]?=some (some (dv d)))(I:Y[l]?=some (some v))(len:Y.length=U.length)(es:∀ i q,i≠l->U[i]?=some (some q)->∃ u,Y[i]?=some (some u)/\q.k=.val/\Rep K H g q.d u):ST K (vv g H) H Y U [] l g d v:=by
 refine⟨⟨Yy g H,λp j=>?_,λp j=>?_,λp j=>?_,by rw[vg];exact y,λi q e=>?_,by rw[rf,zaY];exact len⟩,L,I,ft⟩
 ·obtain⟨a,x,rfl⟩:=zah.mp (show p∈tg l g from j);exact bu x
 ·obtain⟨a,x,rfl⟩:=zah.mp (show p∈tg l g from j);obtain⟨u,hu,_⟩:=Ft.dom _ _ _ ft a x;exact⟨u,hu⟩
 ·obtain⟨a,x,rfl⟩:=zah.mp (show p∈tg l g from j);obtain⟨u,hu,G,B⟩:=Ft.dom _ _ _ ft a x;exact⟨λE z=>G _ (zaM (hu.symm.trans z)),λN w z=>B _ _ (zaM (hu.symm.trans z))⟩
 obtain⟨hi,e⟩:=c9 e;rw[vg];obtain⟨u,e1,k,r⟩:=es i q hi e;exact⟨u,e1,.inl ⟨k,r⟩⟩
def Zw{N:List Str}{d:D}{S:List D}{v:V}{j:List V}{H:Hp}{k:List Addr}(ft:Ft K H d v k)(y:k.Nodup)(r:Reps K H k S j):ST K (vv k H) H (ZZ.start N (v::j)) (wo N.length (d::S)) [] 0 k d v:=by
 refine D7 ft y rfl rfl (jt (N:=N) (S:=d::S) (vs:=v::j) (H:=H) ⟨v,j,rfl,Ft.rep _ _ _ (λa _ z=>by cases z) ft,zj.sub (λa B=>by cases B) _ _ r⟩).len λi q hi e=>?_
 cases i with
 |zero=>exact absurd rfl hi
 |succ i =>
  have g:((S.map λd=>some (dv d))++List.replicate (N.length-(d::S).length) none)[i]?=some (some q):=e;rcases zcQ i S.length with hi|hi
  ·rw[zaG (by simpa using hi),zai]at g
   have l:S[i]?=some S[i]:=by simp[hi]
   rw[l]at g;cases (show some (dv S[i])=some q from zaM g);obtain⟨u,G,x⟩:=r.get l;refine⟨u,?_,rfl,x⟩;show((j.map some)++_)[i]?=_;rw[zaG (by rw[zLm,r.length];exact hi),zai,G]
   rfl
  rw[zaC (by simpa using hi),zcA]at g
  split at g <;> cases g
def Hk{K:W.Frag}{H:Hp}{d d2:D}{v:V}{g A':List Addr}{o':List (Nat×Addr)}{H':Hp}{q:St}{ρ':DE}{l:Nat}(ft:Ft K H d v g)(u:ST K (vv g H) H' q ρ' o' l A' d2 v):Grow g A' H H'/\∀a∈A',a∈g\/H a=none:=by
 have r:∀b x,H b=some x->b∉g->H' b=some x:=λb x e k=>u.Q.same b x (by rw[w8 k];exact e)
 refine⟨⟨λb x e k=>⟨r b x e k,λz=>?_⟩,λb E e=>r b _ e λz=>?_,λb es w e=>r b _ e λz=>?_⟩,λa G=>?_⟩
 ·have:=u.frA b z;rw[w8 k,e]at this;cases this
 ·obtain⟨w,j,B,_⟩:=Ft.dom _ _ _ ft b z;rw[e]at j;cases j;exact B _ rfl
 ·obtain⟨I,j,_,y⟩:=Ft.dom _ _ _ ft b z;rw[e]at j;cases j;exact y _ _ rfl
 have:=u.frA a G;by_cases hA:a∈g
 ·exact .inl hA
 rw[w8 hA]at this;exact .inr this
def z1t{x g:Str}{st:Stmt}{f:Addr}{fd:FuncData}{N ps:List Str}{k:Nat}{T:FTR}(F:Fun K x g st f fd)(ds:zo N ps (zd st))(b:um K fd ps [])(m:mg x=some (.ref f))(B:∀ (qZ:Value) (A:Around) (outer:List Env) (s:Shared) (H:Hp) (xs:XK) (d:D) (S:List D) (M:D->Prop),Room k (A.deeper (envOfC g (zd st) s.heap.objs.size f qZ))->S.length+1=ps.length->T d S M ->
   ∃ t,RSs (λ_=>True) 0 (cxOf CX0 P w K mg base N g (zd st) f qZ A outer s H xs).nox (yu st) t/\t (wo N.length (d::S)) {nx:=λ_=>False,rt:=λr _=>M r}):FR P w K mg base (k+1) x ps T:=by
 refine⟨f,fd,F.ok ds (λvs H Q xs h=>?_) (λqZ A outer s H vs Q xs hr h=>?_),b,F.kp,m⟩
 ·obtain⟨d,S,v,y,A,M,rfl,hl,_,_,r,_⟩:=h;rw[zLc,r.length,hl]
 obtain⟨d,S,v,y,j,M,rfl,hl,ft,G,r,hT,I⟩:=h;obtain⟨t,es,L⟩:=B qZ A outer s H xs d S M hr hl hT;have V:=Zw (N:=N) ft G r;refine⟨Uu K (vv j H) 0 t,es ⟨vv j H,zaA⟩,wo N.length (d::S),[],j,d,v,V,_,L,λρ' q H' o' A' d2 W h'=>h'.elim,λu e ρ' H' s' z h'=>?_⟩;refine I u e H' (λb x R O=>s' b x (by rw[w8 O];exact R)) (RepN.to (Same.refl _) (λa l=>?_) _ _ z) h'
 by_cases hA:a∈j
 ·exact .inl hA
 rw[w8 hA]at l;exact .inr l
def gL5(i j l m n:Nat):TGD:=λd U G=>match d with
 |.lst [a,b,c,e,f]=>G (setS (setS (setS (setS (setS U i (dv a)) j (dv b)) l (dv c)) m (dv e)) n (dv f))
 |_=>False
def Fk{K:W.Frag}(i j l m n:Nat):jp K (gLst K 5 (uz (u9 i) (uz (u9 j) (uz (u9 l) (uz (u9 m) (uz (u9 n) gNil)))))) (gL5 i j l m n):=λH_ H Y U o d v G Q R h g k=>by
 unfold gL5 at g;split at g
 ·rename_i a b c e f;obtain⟨p,E,rfl,q,n,r⟩:=h;obtain⟨B,Z,rfl,h1,z,V,rfl,h2,y,O,rfl,es,x,N,rfl,I,u,L,rfl,D,rfl⟩:=r;refine⟨p,_,rfl,SqL.of q,rfl,B,_,rfl,z,_,rfl,y,_,rfl,x,_,rfl,u,_,rfl,rfl,?_⟩;exact k _ _ (((((R.setV i h1).setV j h2).setV l es).setV m I).setV _ D) g
 exact g.elim
noncomputable def Zb:D->Option (List D)
 |.lst S=>some S
 |.tup S=>some S
 |.ob _ _ S=>some S
 |_=>none
noncomputable def Na:D->List D->D
 |.lst _,S=>.lst S
 |.tup _,S=>.tup S
 |.ob C ns _,S=>.ob C ns S
 |d,_=>d
noncomputable def atQ:List Nat->D->Option D
 |[],d=>some d
 |i::π,d=>match Zb d with
  | some S=>(match S[i]? with
   |some x=>atQ π x
   | none=>none)
  |none=>none
noncomputable def putQ:List Nat->D->D->D
 |[],_,e=>e
 |i::π,d,e=>match Zb d with
  | some S=>(match S[i]? with
   |some x=>Na d (S.set i (putQ π x e))
   | none=>d)
  |none=>d
def Kids(H:Hp)(a:Addr)(E:List V):Prop:=H a=some (.lst E)\/H a=some (.tup E)\/∃C dx,∃ns:List Str,H a=some (.ins C dx (ns.zip E))/\ns.length=E.length
theorem vc1{α a:Type}:∀{ns:List α}{E:List a},ns.length=E.length->(ns.zip E).map Prod.snd=E
 |[],[],_=>rfl
 |[],_::_,h=>by simp at h
 |_::_,[],h=>by simp at h
 |_::_,_::_,h=>by simp[vc1 (by simpa using h)]
def Kids.fn{H:Hp}{a:Addr}{E ys:List V}(h:Kids H a E)(h':Kids H a ys):E=ys:=by
 rcases h with h|h|⟨C,dx,ns,h,l⟩
 ·rcases h' with h'|h'|⟨C',dx',ns',h',l'⟩
  ·rw[h]at h';cases h';rfl
  ·rw[h]at h';cases h'
  rw[h]at h';cases h'
 ·rcases h' with h'|h'|⟨C',dx',ns',h',l'⟩
  ·rw[h]at h';cases h'
  ·rw[h]at h';cases h';rfl
  rw[h]at h';cases h'
 rcases h' with h'|h'|⟨C',dx',ns',h',l'⟩
 ·rw[h]at h';cases h'
 ·rw[h]at h';cases h'
 rw[h]at h'
 injection h' with h'
 injection h' with _ _ e
 have:=zbP (List.map Prod.snd) e;rw[vc1 l,vc1 l']at this;exact this
def Kids.to{H H':Hp}{a:Addr}{E:List V}(s:Same H H')(h:Kids H a E):Kids H' a E:=by
 rcases h with h|h|⟨C,dx,ns,h,l⟩
 ·exact .inl (s _ _ h)
 ·exact .inr (.inl (s _ _ h))
 exact .inr (.inr ⟨C,dx,ns,s _ _ h,l⟩)
def valQ(H:Hp):List Nat->V->V->Prop
 |[],v,u=>u=v
 |i::π,v,u=>∃a E w,v=.ref a/\Kids H a E/\E[i]?=some w/\valQ H π w u
theorem valQ.fn{H:Hp}:∀{π:List Nat}{v u u':V},valQ H π v u->valQ H π v u'->u=u'
 |[],_,_,_,h,h'=>h.trans h'.symm
 |i::π,_,_,_,⟨a,E,w,e,q,g,h⟩,⟨a',xs',w',e',q',g',h'⟩=>by
  rw[e]at e';cases e';cases q.fn q';rw[g]at g';cases g';exact h.fn h'
theorem valQ.to{H H':Hp}(s:Same H H'):∀{π:List Nat}{v u:V},valQ H π v u->valQ H' π v u
 |[],_,_,h=>h
 |i::π,_,_,⟨a,E,w,e,q,g,h⟩=>⟨a,E,w,e,q.to s,g,h.to s⟩
theorem valQ.snoc{H:Hp}{i:Nat}{a:Addr}{E:List V}{w:V}:∀{π:List Nat}{v:V},valQ H π v (.ref a)->Kids H a E->E[i]?=some w->valQ H (π++[i]) v w
 |[],v,h,q,g=>⟨a,E,w,h.symm,q,g,rfl⟩
 |j::π,v,⟨b,ys,z,e,q',g',h⟩,q,g=>⟨b,ys,z,e,q',g',h.snoc q g⟩
def Ft.parts{d:D}{v:V}{A:List Addr}{S:List D}(h:Ft K H d v A)(p:Zb d=some S):∃a E T B,v=.ref a/\Kids H a E/\A=T++B/\Fts K H S E B /\
  ∀H' j x,Gt H H'->(∀b∈T,∀u,H b=some u->H' b=some u)->j.length=S.length->Fts K H' j E x->Ft K H' (Na d j) v (T++x):=by
 cases d with
 |lst J =>
  cases p
  obtain⟨a,E,B,e,q,rfl,r⟩:=h;exact⟨a,E,[a],B,e,.inl q,rfl,r,λH' j x g k l f=>⟨a,E,x,e,k a zao _ q,rfl,f⟩⟩
 |tup J =>
  cases p
  obtain⟨a,E,e,q,r⟩:=h;exact⟨a,E,[],A,e,.inr (.inl q.2),rfl,r,λH' j x g k l f=>⟨a,E,e,Q2 g.tups g.frzs q,f⟩⟩
 |ob C ns J =>
  cases p
  obtain⟨a,dx,E,B,e,q,l,n,rfl,r⟩:=h;exact⟨a,E,[a],B,e,.inr (.inr ⟨C,dx,ns,q,by rw[l,r.length]⟩),rfl,r,λH' j x g k y f=>⟨a,dx,E,x,e,k a zao _ q,by rw[y];exact l,n,rfl,f⟩⟩
 |_=>cases p
theorem Ft.focQ:∀{π:List Nat}{d:D}{v:V}{A:List Addr}{d1:D},Ft K H d v A->atQ π d=some d1->∃u z B C,valQ H π v u/\A=B++z++C/\Ft K H d1 u z /\
  ∀H' e A1',Gt H H'->(∀a∈B++C,∀u,H a=some u->H' a=some u)->Ft K H' e u A1'->Ft K H' (putQ π d e) v (B++A1'++C)
 |[],d,v,A,d1,h,e=>by
  cases (show d=d1 from zaM e)
  exact⟨v,A,[],[],rfl,by simp,h,λH' e A1' _ _ f=>by simpa [putQ] using f⟩
 |i::π,d,v,A,d1,h,e=>by
  have e:(match Zb d with|some S=>(match S[i]? with|some x=>atQ π x|none=>none)|none=>none)=some d1:=e
  cases ep:Zb d with
  |none=>rw[ep]at e;cases e
  |some S =>
   rw[ep]at e;have e:(match S[i]? with|some x=>atQ π x|none=>none)=some d1:=e
   cases ed:S[i]? with
   |none=>rw[ed]at e;cases e
   |some d2 =>
    rw[ed]at e;obtain⟨a,E,T,AA,rfl,q,rfl,r,G⟩:=h.parts ep;obtain⟨w,z,B,C,W,rfl,f,k⟩:=Fts.foc r ed;obtain⟨u,A2,Z,Y,es,rfl,Q,I⟩:=Ft.focQ (π:=π) f e;refine⟨u,A2,T++(B++Z),Y++C,⟨a,E,w,rfl,q,W,es⟩,by simp,Q,λH' y A1' g l R=>?_⟩
    have h2:=I H' y A1' g (λa j=>l a (by simp at j ⊢;rcases j with j|j <;> simp[j])) R
    have O:=k H' _ _ g (λa j=>l a (by simp at j ⊢;rcases j with j|j <;> simp[j])) h2
    show Ft K H' (match Zb d with|some S=>(match S[i]? with|some x=>Na d (S.set i (putQ π x y))|none=>d)|none=>d) _ _
    rw[ep];show Ft K H' (match S[i]? with|some x=>Na d (S.set i (putQ π x y))|none=>d) _ _
    rw[ed];have N:=G H' _ _ g (λb L=>l b (by simp[L])) (by rw[zaY]) O
    simpa using N
section
variable{o:List (Nat×Addr)}{A:List Addr}{d:D}
theorem ST.focQ(ds:ST K H_ H Y U o l A d v){π:List Nat}{d1:D}(h:atQ π d=some d1):∃u A1,valQ H π v u/\Ft K H d1 u A1/\A1.Nodup/\(∀a∈A1,a∈A)/\(∀a∈A1,H a≠none) /\
  ∀H' e A1',(∀c x,H c=some x->c∉A1->H' c=some x)->Ft K H' e u A1'->A1'.Nodup->(∀a∈A1',a∈A1\/H a=none)->∃A',ST K H_ H' Y (setS U l (dv (putQ π d e))) o l A' (putQ π d e) v/\Grow A A' H H'/\∀a∈A1,a∉A1'->a∉A':=by
 obtain⟨u,A1,B,C,hv,W,f,k⟩:=Ft.focQ ds.ft h;have R:=ds.ndA;rw[W]at R;have nd1:=zaO.mp R;have q:=zaO.mp nd1.1;have dm:∀a∈A,H a≠none:=λa g e=>by
  obtain⟨x,j,_⟩:=Ft.dom _ _ _ ds.ft a g;rw[e]at j;cases j
 have mA:∀a,a∈B\/a∈A1\/a∈C ↔ a∈A:=λa=>by rw[W];simp[or_assoc]
 refine⟨u,A1,hv,f,q.2.1,λa g=>(mA a).mp (by simp[g]),λa g=>dm a ((mA a).mp (by simp[g])),λH' e A1' es f' N fr=>?_⟩
 have gt:Gt H H':=⟨λb E I=>es b _ I λz=>by
   obtain⟨x,j,n1,_⟩:=Ft.dom _ _ _ f b z;rw[I]at j;cases j;exact n1 _ rfl,λb ob w I=>es b _ I λz=>by
   obtain⟨x,j,_,n2⟩:=Ft.dom _ _ _ f b z;rw[I]at j;cases j;exact n2 _ _ rfl⟩
 have O:∀a∈B++C,a∉A1:=λa g z=>by
  rcases zas.mp g with g|g
  ·exact q.2.2 a g a z rfl
  exact nd1.2.2 a (zaD _ z) a g rfl
 have Q:=k H' e A1' gt (λa g x j=>es a x j (O a g)) f';have r:∀a∈B++A1'++C,a∈A\/H a=none:=λa g=>by
  rw[zas,zas]at g;rcases g with(g|g)|g
  ·exact .inl ((mA a).mp (by simp[g]))
  ·exact(fr a g).imp (λz=>(mA a).mp (by simp[z])) id
  exact .inl ((mA a).mp (by simp[g]))
 have L:(B++A1'++C).Nodup:=by
  rw[zaO,zaO];refine⟨⟨q.1,N,λx j y G e=>?_⟩,nd1.2.1,λx j y G e=>?_⟩
  ·subst e;rcases fr x G with z|z
   ·exact q.2.2 x j x z rfl
   exact dm x ((mA x).mp (by simp[j])) z
  subst e;rcases zas.mp j with j|j
  ·exact nd1.2.2 x (zaF _ j) x G rfl
  rcases fr x j with z|z
  ·exact nd1.2.2 x (zaD _ z) x G rfl
  exact dm x ((mA x).mp (by simp[G])) z
 have Z:Grow A (B++A1'++C) H H':=⟨λc x j V=>⟨es c x j λz=>V ((mA c).mp (by simp[z])),λz=>(r c z).elim V λe=>by rw[j]at e;cases e⟩,gt.tups,gt.frzs⟩
 refine⟨_,ds.chg Z Q L r,Z,λa g na z=>?_⟩;rw[zas,zas]at z;rcases z with(z|z)|z
 ·exact O a (by simp[z]) g
 ·exact na z
 exact O a (by simp[z]) g
end
def B8(K:W.Frag)(H_:Hp)(l:Nat)(t:TP1):TE:=λY H Q=>∃U o A d v,ST K H_ H Y U o l A d v/\∃M,t U M/\∀u π H',Same H H'->valQ H' π v u->M π->Q u H'
def EPQ(G:Hp->Prop)(l:Nat)(X:Cx)(e:Expr)(t:TP1):Prop:=∀H_:{H:Hp // G H},PE X e (B8 X.K H_.1 l t)
structure CO(K:W.Frag)(C:Addr)(ns:List Str):Prop where
 cl:Cls K C
 na:∀f∈ns,gp K C f
noncomputable def ixF:List Str->Str->Option Nat
 |[],_=>none
 |n::ns,f=>if n=f then some 0 else(ixF ns f).map (·+1)
theorem ub{α:Type}{f:Str}:∀{ns:List Str}{E:List α}{i:Nat},ixF ns f=some i->ns.length=E.length->(ns.zip E).lookup f=E[i]?
 |[],_,_,h,_=>by cases h
 |n::ns,[],_,_,l=>by simp at l
 |n::ns,x::E,i,h,l=>by
  unfold ixF at h;by_cases e:n=f
  ·rw[zaK e]at h;cases h;subst e;simp[List.lookup]
  rw[zaJ e]at h;obtain⟨j,d,rfl⟩:=zar.mp h;have a:(f==n)=false:=zbA.mpr (λz=>e z.symm);show(List.lookup f ((n,x)::ns.zip E))=_;rw[List.lookup,a];simpa using ub d (by simpa using l)
theorem jw{f:Str}:∀{ns:List Str}{i:Nat},ixF ns f=some i->f∈ns
 |[],_,h=>by cases h
 |n::ns,i,h=>by
  unfold ixF at h;by_cases e:n=f
  ·exact e▸zao
  rw[zaJ e]at h;obtain⟨j,a,rfl⟩:=zar.mp h;exact zal _ (jw a)
theorem Ug{f:Str}{y:V}:∀{ns:List Str}{E:List V}{i:Nat},ixF ns f=some i->ns.length=E.length->putF f y (ns.zip E)=ns.zip (E.set i y)
 |[],_,_,h,_=>by cases h
 |n::ns,[],_,_,l=>by simp at l
 |n::ns,x::E,i,h,l=>by
  unfold ixF at h;show(if n=f then(n,y)::ns.zip E else(n,x)::putF f y (ns.zip E))=_
  by_cases e:n=f
  ·rw[zaK e]at h ⊢;cases h;rfl
  rw[zaJ e]at h ⊢;obtain⟨j,a,rfl⟩:=zar.mp h;rw[Ug a (by simpa using l)]
  rfl
section
variable{x:Str}{ke:Expr}{J:List Expr}{tk:TD}{pos:Pos}{ns:List Str}
def yc(j:autoParam (X.N[l]?=some x) zSr)(hv:Vis X.env.scope x:=by walk_at "o")(g:autoParam (D_ x) zSd)(e:autoParam ((x==("__classdict__" : Str))=false) zSd):EPQ L l X (.Name x pos) Gv:=λH_=>impE (uv j hv g e) λY H Q q=>by
 obtain⟨U,o,A,d,v,ds,M,a,k⟩:=q;exact⟨v,ds.hv,k v [] H (Same.refl H) rfl a⟩
def pFld(l:Nat)(C:Addr)(ns:List Str)(f:Str)(a:TP1):TP1:=λU M=>a U λπ=>∃d S,slot U l=some (dv d)/\atQ π d=some (.ob C ns S)/\(match ixF ns f with
 |some i=>M (π++[i])
 | none=>False)
def xj(O:CO X.K C ns)(es:EPQ L l X e tp)(R:autoParam (attributeBase e f X.env (eval e X.env)=eval e X.env) zSr):EPQ L l X (.Attribute e f pos) (pFld l C ns f tp):=λH_=>impE (Ks (es H_) R) λY H Q q=>by
 obtain⟨U,o,A,d,v,ds,M,x,k⟩:=q;refine⟨U,o,A,d,v,ds,_,x,λu π H1 s1 y h1=>?_⟩;obtain⟨d',S,J,W,h1⟩:=h1;cases s2_ J ds.hd
 split at h1
 ·rename_i i g;obtain⟨w,A1,G,V,_⟩:=(ds.to s1).focQ W;have:=y.fn G;subst this;obtain⟨a,dx,E,B,rfl,q,I,n,rfl,r⟩:=V;have j:ns.length=E.length:=by rw[I,r.length]
  have hi:i<E.length:=by
   have:=ub (E:=ns) g rfl;rcases zcQ i E.length with z|z
   ·exact z
   have Z:=ub (E:=E) g j;rw[zbW z]at Z;exfalso;have N:=jw g;rw[zbW aD]at this
   have:∀ns:List Str,f∈ns->(ns.zip ns).lookup f≠none:=λns=>by
    induction ns with
    |nil=>intro h;cases h
    |cons a r ih =>
     intro h;rw[zaL,List.lookup];cases q:(f==a) with
     |true=>exact λz=>by cases z
     |false =>
      rcases zam.mp h with h|h
      ·rw[h]at q;simp at q
      exact ih h
   exact this ns N (by assumption)
  have D:E[i]?=some E[i]:=zaf hi;exact⟨a,C,dx,_,E[i],rfl,q,O.cl,O.na f (jw g),by rw[ub g j];exact D,k _ _ H1 s1 (y.snoc (.inr (.inr ⟨C,dx,ns,q,j⟩)) D) h1⟩
 exact h1.elim
def pIxQ(l:Nat)(a:TP1)(tk:TD):TP1:=λU M=>a U λπ=>tk U λe=>∃d d1 S i j,slot U l=some (dv d)/\atQ π d=some d1/\(match d1 with
 |.lst J=>J=S
 |.tup J=>J=S
 | _=>False)/\e.d=.int i/\ixN S.length i=some j/\M (π++[j])
def C8(W:EPQ L l X e tp)(Z:ED L X ke tk)(V:g9 ke:=by intro _ _;rfl):EPQ L l X (.Subscript e ke pos) (pIxQ l tp tk):=λH_=>impE (db Jc (W H_) (Z H_) V) λY H Q q=>by
 obtain⟨U,o,A,d,v,ds,M,D,k⟩:=q;refine⟨U,o,A,d,v,ds,_,D,λu π H1 s1 N h1=>⟨U,o,(ds.to s1).R,_,h1,λw r H2 s2 O h2=>?_⟩⟩;obtain⟨d',d1,S,i,j,J,ea,x,ei,G,h2⟩:=h2;cases s2_ J ds.hd
 obtain⟨b,A1,z,es,_⟩:=(ds.to (s1.trans s2)).focQ ea;have:=(N.to s2).fn z;subst this;have I:=O.view;rw[ei]at I;cases (show w=_ from I);have hj:=(V8 G).2.1;split at x
 ·subst x;obtain⟨a,ys,B,rfl,q,rfl,fs⟩:=es;have hl:=fs.length;obtain⟨y,g⟩:∃y,ys[j]?=some y:=⟨ys[j]' aD,by simp[show j<ys.length by lia]⟩
  refine .inl ⟨a,ys,i,y,rfl,rfl,SqL.of q,?_,k _ _ H2 (s1.trans s2) (z.snoc (.inl q) g) h2⟩;unfold atI;rw[hl,G];exact g
 ·subst x;obtain⟨a,ys,rfl,q,fs⟩:=es;have hl:=fs.length;obtain⟨y,g⟩:∃y,ys[j]?=some y:=⟨ys[j]' aD,by simp[show j<ys.length by lia]⟩
  refine .inr (.inl ⟨a,ys,i,y,rfl,rfl,q.1,?_,k _ _ H2 (s1.trans s2) (z.snoc (.inr (.inl q.2)) g) h2⟩);unfold atI;rw[hl,G];exact g
 exact x.elim
end
mutual
theorem Ft.uniq{K:W.Frag}{H:Hp}:∀(d:D)(v:V)(A B:List Addr),Ft K H d v A->Ft K H d v B->A=B
 |.lst S,v,A,B,h,g=>by
  obtain⟨a,E,A',rfl,q,rfl,r⟩:=h;obtain⟨a2,u,x,e,j,rfl,k⟩:=g;cases e;rw[q]at j;cases j;rw[Fts.uniq S E A' x r k]
 |.dk ks S,v,A,B,h,g=>by
  obtain⟨a,E,A',rfl,q,l,n,rfl,r⟩:=h;obtain⟨a2,u,x,e,j,l2,z,rfl,k⟩:=g;cases e;rw[q]at j
  injection j with j
  injection j with j
  have e2:=zbP (List.map Prod.snd) j;rw[vc1 (by rw[l,r.length]),vc1 (by rw[l2,k.length])]at e2
  subst e2;rw[Fts.uniq S E A' x r k]
 |.tup S,v,A,B,h,g=>by
  obtain⟨a,E,rfl,q,r⟩:=h;obtain⟨a2,u,e,j,k⟩:=g;cases e;have y:=q.2;rw[j.2]at y;cases y;exact Fts.uniq S E A B r k
 |.ob C ns S,v,A,B,h,g=>by
  obtain⟨a,dx,E,A',rfl,q,l,n,rfl,r⟩:=h;obtain⟨a2,G,u,x,e,j,l2,z,rfl,k⟩:=g;cases e;rw[q]at j
  injection j with j
  injection j with _ _ j
  have e2:=zbP (List.map Prod.snd) j;rw[vc1 (by rw[l,r.length]),vc1 (by rw[l2,k.length])]at e2
  subst e2;rw[Fts.uniq S E A' x r k]
 |.non,_,_,_,h,g=>by rw[h.1,g.1]
 |.bl _,_,_,_,h,g=>by rw[h.1,g.1]
 |.int _,_,_,_,h,g=>by rw[h.1,g.1]
 |.str _,_,_,_,h,g=>by rw[h.1,g.1]
 |.ty _,_,_,_,h,g=>by rw[h.1,g.1]
 |.scr _,_,_,_,h,g=>by rw[h.1,g.1]
 |.fo _,_,_,_,h,_=>h.elim
 |.sx _,_,_,_,h,_=>h.elim
theorem Fts.uniq{K:W.Frag}{H:Hp}:∀(S:List D)(E:List V)(A B:List Addr),Fts K H S E A->Fts K H S E B->A=B
 |[],_,_,_,h,g=>by rw[h.2,g.2]
 |d::S,E,A,B,h,g=>by
  obtain⟨v,r,u,l,rfl,rfl,q,t⟩:=h;obtain⟨x,y,k,j,e,rfl,a,t'⟩:=g;cases e;rw[Ft.uniq d v u k q a,Fts.uniq S r l j t t']
end
section
variable{o:List (Nat×Addr)}{A:List Addr}{d:D}
theorem Fts.setA:∀{S:List D}{E:List V}{A B:List Addr}{i:Nat}{e:D}{u:V},i<S.length->Fts K H S E A->Ft K H e u B->∃g k a,A=g++k++a/\Fts K H (S.set i e) (E.set i u) (g++B++a)
 |[],_,_,_,_,_,_,hi,_,_=>by simp at hi
 |d::S,E,A,B,0,e,u,_,h,f=>by
  obtain⟨v,r,j,C,rfl,rfl,q,t⟩:=h;exact⟨[],j,C,rfl,u,r,B,C,rfl,rfl,f,t⟩
 |d::S,E,A,B,i+1,e,u,hi,h,f=>by
  obtain⟨v,r,j,C,rfl,rfl,q,t⟩:=h;obtain⟨g,k,a,rfl,t'⟩:=Fts.setA (i:=i) (by simpa using hi) t f
  exact⟨j++g,k,a,by simp,v,_,j,g++B++a,rfl,by simp,q,t'⟩
def D9{A B q z l:List Addr}{P:Addr->Prop}(e:A=q++z++l)(u:A.Nodup)(r:B.Nodup)(dis:∀ a∈B,a∉A):(q++B++l).Nodup/\∀a∈q++B++l,a∈A\/a∈B:=by
 subst e;have k:=zaO.mp u;have v:=zaO.mp k.1;refine⟨?_,λa d=>?_⟩
 ·rw[zaO,zaO];refine⟨⟨v.1,r,λx g y j e=>?_⟩,k.2.1,λx g y j e=>?_⟩
  ·subst e;exact dis x j (by simp[g])
  subst e;rcases zas.mp g with g|g
  ·exact k.2.2 x (zaF _ g) x j rfl
  exact dis x g (by simp[j])
 rw[zas,zas]at d;rcases d with(d|d)|d
 ·exact .inl (by simp[d])
 ·exact .inr d
 exact .inl (by simp[d])
def ST.putH(ds:ST K H_ H Y U o l A d v){π:List Nat}{d1 e:D}{b:Addr}{y A1':List Addr}{r:List D}{zs:List V}{ho:HO}(h:atQ π d=some d1)(f:Ft K H d1 (.ref b) (b::y))(nA:(b::y).Nodup)(hu:∀ u B,valQ H π v u->Ft K H d1 u B->B.Nodup->u=.ref b/\B=b::y)(s:Same H H1)(f':Fts K H1 r zs A1')(L:A1'.Nodup)(fr:∀ a∈A1',a∈y\/H a=none)(nt:∀ E,ho≠.tup E)(nz:∀ O w,ho≠.frz O w)(mk:∀ H',H' b=some ho->Fts K H' r zs A1'->Ft K H' e (.ref b) (b::A1')):∃A',ST K H_ (upd H1 b ho) Y (setS U l (dv (putQ π d e))) o l A' (putQ π d e) v/\Grow A A' H (upd H1 b ho)/\∀a∈y,a∉A1'->a∉A':=by
 obtain⟨u,B,hv,R,n1,sub,dm,kk⟩:=ds.focQ h;obtain⟨rfl,rfl⟩:=hu u B hv R n1;have Q:=zaQ.mp nA;have hb:H b≠none:=dm b zao;have W:b∉A1':=λz=>(fr b z).elim Q.1 hb;obtain⟨x,N,es,I⟩:=Ft.dom _ _ _ R b zao;have q:=s _ _ N;have gt:Gt H1 (upd H1 b ho):=⟨λc E j=>by rw[zx (λz=>by subst z;rw[q]at j;cases j;exact es _ rfl)];exact j,λc O w j=>by rw[zx (λz=>by subst z;rw[q]at j;cases j;exact I _ _ rfl)];exact j⟩
 obtain⟨A',S',g,G⟩:=kk (upd H1 b ho) e (b::A1') (λc x j hn=>by rw[zx (λz=>hn (by rw[z];exact zao))];exact s _ _ j)
  (mk _ zk (Fts.keep gt _ _ _ (λa k x N=>by rw[zx (λz=>W (by rw[<- z];exact k))];exact N) f')) (zaQ.mpr ⟨W,L⟩) (λa k=>by
   rcases zam.mp k with rfl|k
   ·exact .inl zao
   exact(fr a k).imp (λz=>zal _ z) id)
 refine⟨A',S',g,λa k Z=>G a (zal _ k) λz=>?_⟩;rcases zam.mp z with rfl|z
 ·exact Q.1 k
 exact Z z
def ST.atL(ds:ST K H_ H Y U o l A d v){π:List Nat}{J:List D}(h:atQ π d=some (.lst J)):∃b ys j,valQ H π v (.ref b)/\H b=some (.lst ys)/\Fts K H J ys j/\j.Nodup/\(∀a∈j,H a≠none)/\(∀a∈j,a∈A) /\
  ∀H1 g zs A1',Same H H1->Fts K H1 g zs A1'->A1'.Nodup->(∀a∈A1',a∈j\/H a=none)->∃A',ST K H_ (upd H1 b (.lst zs)) Y (setS U l (dv (putQ π d (.lst g)))) o l A' (putQ π d (.lst g)) v/\Grow A A' H (upd H1 b (.lst zs))/\∀a∈j,a∉A1'->a∉A':=by
 obtain⟨u,A1,es,Q,I,sub,dm,W⟩:=ds.focQ h;obtain⟨b,ys,j,rfl,q,rfl,fs⟩:=Q;refine⟨b,ys,j,es,q,fs,(zaQ.mp I).2,λa x=>dm a (zal _ x),λa x=>sub a (zal _ x),λH1 g zs A1' s R k fr=>?_⟩;have:=ds.putH (e:=.lst g) (ho:=.lst zs) h ⟨b,ys,j,rfl,q,rfl,fs⟩ I (λu Z r O V=>by
  cases es.fn r
  obtain⟨b2,L,B,e,G,rfl,y⟩:=O;cases e;rw[q]at G;cases G;exact⟨rfl,by rw[Fts.uniq J ys j B fs y]⟩) s R k fr (λ_ z=>by cases z) (λ_ _ z=>by cases z) (λH' N f=>⟨b,zs,A1',rfl,N,rfl,f⟩)
 exact this
end
section
variable{x:Str}{ke oe:Expr}{J:List Expr}{tk:TD}{pos pos':Pos}{ns:List Str}
def dFld(C:Addr)(ns:List Str)(f:Str)(te:TD):TD:=λU M=>te U λr=>match r.d with
 | .ob C' ns' S=>C'=C/\ns'=ns/\(match ixF ns f with
  | some i=>(match S[i]? with
   |some x=>M (dv x)
   | none=>False)
  | none=>False)
 |_=>False
def vo(O:CO X.K C ns)(D:ED L X e te)(G:autoParam (attributeBase e f X.env (eval e X.env)=eval e X.env) zSr):ED L X (.Attribute e f pos) (dFld C ns f te):=λH_=>impE (Ks (D H_) G) λY H Q q=>by
 obtain⟨U,o,R,M,j,k⟩:=q;refine⟨U,o,R,_,j,λv r H1 s1 z h1=>?_⟩;have x:=z.view;obtain⟨kd,d⟩:=r;cases d with
 |ob C' ns' S =>
  obtain⟨rfl,rfl,h1⟩:=h1;obtain⟨a,dx,E,rfl,q,_,B,N,l⟩:=x;split at h1
  ·rename_i i u;split at h1
   ·rename_i y I;obtain⟨w,es,g⟩:=l.get I;exact⟨a,_,dx,_,w,rfl,q,O.cl,O.na f (jw u),by rw[ub u (by rw[B,l.length])];exact es,k _ (dv y) H1 s1 g h1⟩
   exact h1.elim
  exact h1.elim
 |_=>exact h1.elim
def frs2:EV->Prop
 |⟨.fre,.dk _ S⟩=>zu S
 |r=>frs1 r
def Pz{K:W.Frag}{H H':Hp}{O:List Addr}{r:EV}{v:V}(h:RV K H H' O r v)(p:frs2 r):∃B,Ft K H' r.d v B/\B.Nodup/\∀b∈B,H b=none:=by
 unfold frs2 at p;split at p
 ·obtain⟨a,rfl,m,n,E,k,j,g,e⟩:=h;exact⟨[a],⟨a,E,[],rfl,k,j,g,rfl,zj.fts _ _ p e⟩,by simp,λb l=>by rw[zaE.mp l];exact m⟩
 exact Bx h p
def fE2(te:TD):TF:=λU M=>te U λr=>frs2 r/\M r.d
def x8(x:ED L X e te):EF L l X e (fE2 te):=λH_=>impE (x H_) λY H Q q=>by
 obtain⟨U,o,A,d,v,ds,M,a,k⟩:=q;refine⟨U,o,ds.R,_,a,λu r H1 s1 g h1=>?_⟩;obtain⟨B,f,j,fr⟩:=Pz g h1.1;exact k u r.d B H1 s1 f j fr h1.2
def fTup(t:TFs):TF:=λU M=>t U λS=>S.length<=1000/\M (.tup S)
def Ad{t:TFs} {x1} (h:EFs L l X J t):EF L l X (.Tuple J x1 pos) (fTup t):=λH_=>impE (Qs (h H_)) λY H Q q=>by
 obtain⟨U,o,A,d,v,ds,M,e,k⟩:=q;refine⟨U,o,A,d,v,ds,_,e,λus g B H1 s1 f j fr h1=>⟨by rw[f.length,zbH];lia,λp u=>?_⟩⟩
 have n:=y9 u (HO.tup us);exact k (.ref p) (.tup g) B _ (s1.trans n) ⟨p,us,rfl,⟨SqT.of zk,zk⟩,Fts.keep (Gt.same n) _ _ _ (λa _ x r=>n _ _ r) f⟩ j fr h1.2
def qFld(l:Nat)(C:Addr)(ns:List Str)(f:Str)(a:TP1)(e:TF):TQS:=λU Z=>e U λx=>a U λπ=>∃d S,slot U l=some (dv d)/\atQ π d=some (.ob C ns S)/\ns.length<=100/\(match ixF ns f with
 |some i=>Z.nx (setS U l (dv (putQ π d (.ob C ns (S.set i x)))))
 | none=>False)
def Ue(O:CO X.K C ns)(hp:EPQ L l X oe tp)(he:EF L l X e tf)(hs:autoParam (swapsWith e (some (.Attribute oe f pos')) pos.line X.env=pure false) zSr):QS L l X (.Assign [.Attribute oe f pos'] e pos) (qFld l C ns f tp tf):=λH_=>impS (Kq (hp H_) (he H_) hs) λDz Y H h=>by
 obtain⟨U,o,A,d,v,ds,Z,hZ,k1,k2,k3,k4⟩:=h;refine⟨U,o,A,d,v,ds,_,hZ,λw y B H1 s1 fy nB G h1=>⟨U,o,A,d,v,ds.to s1,_,h1,λu π H2 s2 vp h2=>?_⟩⟩;obtain⟨d',S,J,ea,hn,h2⟩:=h2;cases s2_ J ds.hd
 split at h2
 ·rename_i i I;obtain⟨u',A1,hv,f1,n1,sub,dm,_⟩:=ds.focQ ea;have j:=s1.trans s2;cases (vp.fn (hv.to j));obtain⟨b,dx,E,At,rfl,q,k,N,rfl,fs⟩:=f1;have lx:ns.length=E.length:=by rw[k,fs.length]
  have hi:i<S.length:=by
   have e3:=ub (E:=S) I k;rcases zcQ i S.length with z|z
   ·exact z
   exfalso;have hm:=jw I;have:∀(ns:List Str)(S:List D),ns.length=S.length->f∈ns->(ns.zip S).lookup f≠none:=λns=>by
    induction ns with
    |nil=>intro _ _ h;cases h
    |cons a r ih =>
     intro S l h;cases S with
     |nil=>simp at l
     |cons d S =>
      rw[zaL,List.lookup];cases q:(f==a) with
      |true=>exact λz=>by cases z
      |false =>
       rcases zam.mp h with h|h
       ·rw[h]at q;simp at q
       exact ih S (by simpa using l) h
   exact this ns S k hm (by rw[e3];exact zbW z)
  have a0:Fts X.K H2 S E At:=Fts.keep (Gt.same j) _ _ _ (λa _ x Q=>j _ _ Q) fs;have W:Ft X.K H2 y w B:=Ft.keep (Gt.same s2) _ _ _ (λa _ x Q=>s2 _ _ Q) fy;obtain⟨B0,A1,C0,eA,f3⟩:=Fts.setA hi a0 W;have es:=zaQ.mp n1;obtain⟨n3,m3⟩:=D9 (P:=λ_=>True) eA es.2 nB (λa V z=>dm a (zal _ z) (G a V));obtain⟨A',S',g,_⟩:=ds.putH (e:=.ob C ns (S.set i y)) (ho:=.ins C dx (ns.zip (E.set i w))) ea ⟨b,dx,E,At,rfl,q,k,N,rfl,fs⟩ n1 (λu A2 R f2 n2=>by
   cases hv.fn R
   exact⟨rfl,Ft.uniq _ _ _ _ f2 ⟨b,dx,E,At,rfl,q,k,N,rfl,fs⟩⟩) j f3 n3 (λa V=>(m3 a V).imp id (G a)) (λ_ z=>by cases z) (λ_ _ z=>by cases z) (λH' hb f=>⟨b,dx,_,_,rfl,hb,by rw[zaY];exact k,N,rfl,f⟩)
  refine⟨b,C,dx,_,rfl,j _ _ q,O.cl,O.na f (jw I),by rw[zbG];lia,?_⟩
  rw[Ug I lx];exact k1 _ _ _ _ _ _ S' h2
 exact h2.elim
def Dw(l:Nat)(a:TP1)(e:TF):TQS:=λU Z=>a U λπ=>∃d S,slot U l=some (dv d)/\atQ π d=some (.lst S)/\S.length<=100000/\e U λf=>Z.nx (setS U l (dv (putQ π d (.lst (S++[f])))))
def wc(O:EPQ L l X oe tp)(Q:EF L l X e tf)(k:∀ {ta tb:TE},PE X oe ta->PE X e tb->PS X (.Expr (.Call (.Attribute oe "append" apos) [e] [] cpos) pos) (Tv (tBM X.K "list" Wx ta (Rr tb tNil))):=by
   intro ta tb h1 h2;exact qu (Qx zcM PySem.F.slot_list_append PySem.F.type_list_append di h1 (vz h2 su))) :
  QS L l X (.Expr (.Call (.Attribute oe "append" apos) [e] [] cpos) pos) (Dw l tp tf):=λH_=>impS (k (O H_) (Q H_)) λDz Y H h=>by
 obtain⟨U,o,A,d,v,ds,Z,R,es,k2,k3,k4⟩:=h;refine⟨U,o,A,d,v,ds,_,R,λu π H1 s1 y h1=>?_⟩;have r:=ds.to s1;obtain⟨d',S,J,ea,hl,h1⟩:=h1;cases s2_ J ds.hd
 obtain⟨b,ys,A1,z,j,fs,G,dm,sub,I⟩:=r.atL ea;have:=y.fn z;subst this;refine⟨.inl ⟨rfl,_,SqL.of j⟩,U,o,A,d,v,r,_,h1,λw f B H2 s2 V D fr h2=>?_⟩;have W:Fts X.K H2 S ys A1:=Fts.keep (Gt.same s2) _ _ _ (λa _ x N=>s2 _ _ N) fs;obtain⟨A',S',g,_⟩:=I H2 (S++[f]) (ys++[w]) (A1++B) s2 (W.app ⟨w,[],B,[],rfl,by simp,V,rfl,rfl⟩) (by
   rw[zaO];refine⟨G,D,λa q b j e=>?_⟩;subst e;exact dm a q (fr a j)) (λa q=>(zas.mp q).imp id (fr a))
 refine⟨b,ys,w,rfl,rfl,s2 _ _ j,?_,es _ _ _ _ _ _ S' h2⟩;rw[fs.length];exact zdW hl aB
def G9(l:Nat)(a:TP1)(te:TD):TQS:=λU Z=>a U λπ=>∃d S,slot U l=some (dv d)/\atQ π d=some (.lst S)/\S.length<=100000/\te U λr=>match r.d with
 |.lst gs=>zu gs/\gs.length<=1000/\Z.nx (setS U l (dv (putQ π d (.lst (S++gs)))))
 |_=>False
def G6(hp:EPQ L l X oe tp)(he:ED L X e te)(j:∀ {ta tb:TE},PE X oe ta->PE X e tb->PS X (.Expr (.Call (.Attribute oe "extend" apos) [e] [] cpos) pos) (Tv (tBM X.K "list" Ww ta (Rr tb tNil))):=by
   intro ta tb h1 h2;exact qu (Qx zcM PySem.F.slot_list_extend PySem.F.type_list_extend Xj h1 (vz h2 su))) :
  QS L l X (.Expr (.Call (.Attribute oe "extend" apos) [e] [] cpos) pos) (G9 l tp te):=λH_=>impS (j (hp H_) (he H_)) λDz Y H h=>by
 obtain⟨U,o,A,d,v,ds,Z,hZ,V,k2,k3,k4⟩:=h;refine⟨U,o,A,d,v,ds,_,hZ,λu π H1 s1 D h1=>?_⟩;have z:=ds.to s1;obtain⟨d',S,J,ea,hl,h1⟩:=h1;cases s2_ J ds.hd
 obtain⟨b,ys,A1,G,q,fs,O,dm,sub,Q⟩:=z.atL ea;have:=D.fn G;subst this;refine⟨.inl ⟨rfl,_,SqL.of q⟩,U,o,z.R,_,h1,λw r H2 s2 I h2=>?_⟩;have B:=I.view;obtain⟨kd,es⟩:=r;cases es with
 |lst gs =>
  obtain⟨N,lg,h2⟩:=h2;obtain⟨c,zs,rfl,hc,k⟩:=B;have f1:Fts X.K H2 S ys A1:=Fts.keep (Gt.same s2) _ _ _ (λa _ x W=>s2 _ _ W) fs;obtain⟨A',S',g,_⟩:=Q H2 (S++gs) (ys++zs) (A1++[]) s2 (f1.app (zj.fts _ _ N k)) (by rw[zaX];exact O) (λa y=>by rw[zaX]at y;exact .inl y)
  refine⟨b,c,ys,zs,rfl,rfl,s2 _ _ q,hc,?_,V _ _ _ _ _ _ S' h2⟩;rw[fs.length,k.length,zbH];lia
 |_=>exact h2.elim
def Du(l:Nat)(a:TP1)(tk te:TD):TQS:=λU Z=>te U λr=>zi r.d/\a U λπ=>tk U λe=>∃d S i j,slot U l=some (dv d)/\atQ π d=some (.lst S)/\e.d=.int i/\ixN S.length i=some j/\Z.nx (setS U l (dv (putQ π d (.lst (S.set j r.d)))))
def G5(hp:EPQ L l X oe tp)(hk:ED L X ke tk)(he:ED L X e te)(hs:autoParam (swapsWithSole [.Subscript oe ke pos'] e pos.line X.env=pure false) zSr)(hw:autoParam (swappedStores [.Subscript oe ke pos'] e X.env=pure none) zSr)(h1:autoParam ((assignEach [.Subscript oe ke pos'] X.env).map (·.2)=[assign (.Subscript oe ke pos') X.env]) zSr)(z:∀ v,assign (.Subscript oe ke pos') X.env v=(do
   let k <- holding [v] (eval oe X.env)
   let y <- holding [v,k] (eval ke X.env)
   standAt pos'
   holding [v,k,y] (setItem k y v)
   release [v,k,y] []):=by intro _;rfl):QS L l X (.Assign [.Subscript oe ke pos'] e pos) (Du l tp tk te):=λH_ =>
 impS (Xe (he H_) (Qq (hp H_) (hk H_) Y0 z) hs hw h1) λDz Y H h=>by
  obtain⟨U,o,A,d,v,ds,Z,hZ,k1,k2,k3,k4⟩:=h;refine⟨U,o,ds.R,_,hZ,λw r H1 s1 Q h1=>⟨U,o,A,d,v,ds.to s1,_,h1.2,λu π H2 s2 es h2=>⟨U,o,(ds.to (s1.trans s2)).R,_,h2,λw2 r2 I q x B=>?_⟩⟩⟩;obtain⟨d',S,i,j,J,ea,ei,ej,B⟩:=B;cases s2_ J ds.hd
  have S3:=ds.to ((s1.trans s2).trans q);obtain⟨b,ys,A1,N,hb,fs,V,dm,sub,W⟩:=S3.atL ea;have:=(es.to q).fn N;subst this;have D:=x.view;rw[ei]at D;cases (show w2=_ from D);have fw:Ft X.K I r.d w []:=RepN.ft _ _ h1.1 (RepN.keep (O:=[]) (O':=[]) (Gt.same (s2.trans q)) _ _ h1.1 Q.view.rep0);obtain⟨A2,G,f2⟩:=fs.put j fw;obtain⟨A',S',g,_⟩:=W I _ _ A2 (Same.refl _) f2 (G.nodup V) (λa z=>.inl (G.subset z));exact⟨b,ys,i,j,rfl,rfl,hb,by rw[fs.length];exact ej,k1 _ _ _ _ _ _ S' B⟩
end
section
variable{o:List (Nat×Addr)}{A:List Addr}{d:D}
theorem Fts.last:∀{S:List D}{E:List V}{A:List Addr},Fts K H S E A->S≠[]->∃e u a g,S[S.length-1]?=some e/\E[E.length-1]?=some u/\A=a++g/\Fts K H S.dropLast E.dropLast a/\Ft K H e u g
 |[],_,_,_,h=>absurd rfl h
 |[d],E,A,h,_=>by
  obtain⟨v,r,B,C,rfl,rfl,q,t⟩:=h;obtain⟨rfl,rfl⟩:=t;exact⟨d,v,[],B,rfl,rfl,by simp,⟨rfl,rfl⟩,q⟩
 |d::d'::S,E,A,h,_=>by
  obtain⟨v,r,B,C,rfl,rfl,q,t⟩:=h;obtain⟨e,u,a,g,e1,e2,rfl,f,j⟩:=Fts.last t aE
  obtain⟨k,l,_,_,rfl,_⟩:=t;exact⟨e,u,B++a,g,by simpa using e1,by simpa using e2,by simp,⟨v,_,B,a,rfl,rfl,q,f⟩,j⟩
def ST.setR(ds:ST K H_ H Y U o l A d v){j:Nat}{e:D}{w:V}(a:j≠l)(h:Rep K H (o.map Prod.snd++A) e w):ST K H_ H (Y.set j (some w)) (setS U j (dv e)) o l A d v:=by
 refine⟨?_,?_,?_,ds.ft⟩
 ·rw[qe _ _ a];exact ds.Q.setV j (by rw[vg];exact h)
 ·rw[wa,zaN a];exact ds.hd
 rw[zaN a];exact ds.hv
theorem ky{α:Type}{f:Str}:∀{ns:List Str}{E:List α},f∉ns->(ns.zip E).lookup f=none
 |[],_,_=>rfl
 |n::ns,[],_=>rfl
 |n::ns,x::E,h=>by
  rw[zaL,List.lookup,zbA.mpr (λz=>h (by rw[z];exact zao))]
  exact ky λz=>h (zal _ z)
theorem Uh{f:Str}{y:V}:∀{ns:List Str}{E:List V},f∉ns->ns.length=E.length->putF f y (ns.zip E)=(ns++[f]).zip (E++[y])
 |[],[],_,_=>rfl
 |[],_::_,_,h=>by simp at h
 |_::_,[],_,h=>by simp at h
 |n::ns,x::E,h,l=>by
  show(if n=f then(n,y)::ns.zip E else(n,x)::putF f y (ns.zip E))=_
  rw[zaJ (λz=>h (by rw[z];exact zao)),Uh (λz=>h (zal _ z)) (by simpa using l)]
  rfl
end
section
variable{x y m:Str}{oe:Expr}{J:List Expr}{np pos pos':Pos}{ns:List Str}{t:TQs}{T:FTQ}{k:Nat}{ps:List Str}
def Qi(l j:Nat)(a:TP1):TQS:=λU Z=>a U λπ=>∃d S e,slot U l=some (dv d)/\atQ π d=some (.lst S)/\S[S.length-1]?=some e/\Z.nx (setS (setS U l (dv (putQ π d (.lst S.dropLast)))) j (dv e))
def Xd(j:Nat)(hj:j≠l)(hN:X.N.Nodup)(hp:EPQ L l X oe tp)(hi:autoParam (X.N[j]?=some x) zSr)(B:Loc X.env.scope x:=by first|exact Or.inl rfl|exact Or.inr rfl)(hs:autoParam (swapsWith (.Call (.Attribute oe "pop" apos) [] [] cpos) (some (.Name x pos')) pos.line X.env=pure false) zSr)(hf:X.fn x=true\/X.env.scope.names.lookup x=some .local:=by first|exact .inl rfl|exact .inr rfl|assumption)(G:∀ {ta:TE},PE X oe ta->PE X (.Call (.Attribute oe "pop" apos) [] [] cpos) (tBM0 X.K "list" rPop ta):=by
   intro ta h1;exact Qw zcM PySem.F.slot_list_pop PySem.F.type_list_pop J5 h1) :
  QS L l X (.Assign [.Name x pos'] (.Call (.Attribute oe "pop" apos) [] [] cpos) pos) (Qi l j tp):=λH_=>impS (gf hN hi B (G (hp H_)) hs hf) λDz Y H h=>by
 obtain⟨U,o,A,d,v,ds,Z,hZ,k1,k2,k3,k4⟩:=h;refine⟨U,o,A,d,v,ds,_,hZ,λu π H1 s1 vp h1=>?_⟩;have O:=ds.to s1;obtain⟨d',S,e,J,ea,es,h1⟩:=h1;cases s2_ J ds.hd
 obtain⟨b,ys,At,Q,q,fs,n1,dm,sub,kk⟩:=O.atL ea;have:=vp.fn Q;subst this;obtain⟨e',w,A2,Ae,e1,ew,rfl,f2,fe⟩:=fs.last (λz=>by rw[z]at es;cases es)
 rw[es]at e1;cases e1;have W:=zaO.mp n1;obtain⟨A',S',g,r⟩:=kk H1 _ _ A2 (Same.refl _) f2 W.1 (λa k=>.inl (zaF _ k));refine⟨.inl ⟨rfl,_,SqL.of q⟩,b,ys,w,rfl,rfl,q,ew,?_⟩;have dis:∀a∈Ae,a∉o.map Prod.snd++A':=λa k z=>by
  rcases zas.mp z with z|z
  ·exact O.dis a (sub a (zaD _ k)) z
  exact r a (zaD _ k) (λy=>W.2.2 a y a k rfl) z
 have I:Ft X.K (upd H1 b (.lst ys.dropLast)) e w Ae:=by
  have g1:Grow [b] [b] H1 (upd H1 b (.lst ys.dropLast)):=Nc q;refine Ft.keep g1.gt _ _ _ (λa k x B=>?_) fe;by_cases hab:a=b
  ·exfalso;subst hab;obtain⟨u2,A3,D,f3,_,R,_,_⟩:=O.focQ ea;cases Q.fn D;obtain⟨b2,a0,B2,e2,V,rfl,r2⟩:=f3;cases e2;rw[q]at V;cases V;have n3:(a::B2).Nodup:=by assumption
   rw[Fts.uniq _ _ _ _ r2 fs]at n3;exact(zaQ.mp n3).1 (zaD _ k)
  rw[zx hab];exact B
 exact k1 _ _ _ _ _ _ (S'.setR hj (Ft.rep _ _ _ dis I)) h1
structure FM(P:Program)(w:World)(K:W.Frag)(mg:Str->Option Value)(base:Heap)(k:Nat)(C:Addr)(ns:List Str)(m:Str)(ps:List Str)(T:FTQ):Prop where
 ex:∃f fd,FnOk P w K mg base CX0 k f fd ps (spQ K ps.length T)/\um K fd ps []/\Meth K C m f
 no:m∉ns
def M5(l n:Nat)(C:Addr)(ns:List Str)(T:FTQ)(t:TQs):TQ:=λU M=>∃S,slot U l=some (dv (.ob C ns S))/\t U λJ a=>match slot a l with
 |some ⟨.val,d⟩=>Nat.beq (J.length+1) n=true/\T d J λr d'=>M r (setS a l (dv d'))
 |_=>False
def Xk{H_:Hp}(I:m∉ns):∀Y H Q,B7 X.K H_ l (M5 l ps.length C ns T t) Y H Q->Nj C m (spQ X.K ps.length T) [] E0 (tVar l) (J8 X.K H_ l t) Y H Q:=λY H Q q=>by
 obtain⟨U,o,A,d,v,ds,M,⟨S,z,x⟩,L⟩:=q;have e0:some (dv d)=some (dv (.ob C ns S)):=by rw[<- z];exact(wn ds.hd).symm
 cases e0
 obtain⟨a,dx,E,B,O,G,W,V,Z,r⟩:=ds.ft;refine⟨v,ds.hv,a,dx,_,O,G,ky I,U,o,A,_,v,ds,_,x,λus rs j H1 R d1 g1 e k h1=>?_⟩;have y:slot j l=some (dv d1):=wn e.hd;rw[y]at h1;show spQ X.K ps.length T (v::(us++[])) H1 Q E0;rw[zaX];refine⟨d1,rs,v,us,R,_,rfl,zdF h1.1,e.ft,e.ndA,zj.sub (λa N=>zaD _ N) _ _ k,h1.2,λu r d' H' A' g ft es fr pr D h2=>?_⟩;exact L u r _ H' A' d' (g1.trans g) (e.chg g ft es fr) pr D h2
def yn{pl:Sem Bool}(O:CO X.K C ns)(F:FM X.prog X.w X.K X.mg X.base k C ns m ps T)(hr:Room k X.A)(x:QA L l X (e::J) t)(z:autoParam (X.N[l]?=some y) zSr)(q:Vis X.env.scope y:=by walk_at "o")(v:autoParam (D_ y) zSd)(g:autoParam ((y==("__classdict__" : Str))=false) zSd)(a:autoParam (S_ X e J) zSr)(d:autoParam (B_ X J pos) zSr)(r:autoParam (eval (.Call (.Attribute (.Name y np) m apos) (e::J) [] pos) X.env=(do
   let j <- eval (.Name y np) X.env
   standAt apos.atName
   let (f,first) <- holding [j] (getMethod j m pl)
   callWith pos f first (backTo pos (starEach (e::J) X.env)) (backToKw pos (keywordEach [] X.env)))) zSr) :
  EQ L l X (.Call (.Attribute (.Name y np) m apos) (e::J) [] pos) (M5 l ps.length C ns T t):=λH_=>by
 obtain⟨f,fd,ok,b,u⟩:=F.ex;exact impE (Qt (uv z q v g) O.cl u ok hr b .nil Xg (x H_) a d r) (Xk F.no)
def T7{pl:Sem Bool}(O:CO X.K C ns)(F:FM X.prog X.w X.K X.mg X.base k C ns m ps T)(hr:Room k X.A)(I:autoParam (X.N[l]?=some y) zSr)(x:Vis X.env.scope y:=by walk_at "o")(G:autoParam (D_ y) zSd)(j:autoParam ((y==("__classdict__" : Str))=false) zSd)(B:autoParam (eval (.Call (.Attribute (.Name y np) m apos) [] [] pos) X.env=(do
   let r <- eval (.Name y np) X.env
   standAt apos.atName
   let (f,first) <- holding [r] (getMethod r m pl)
   callWith pos f first (backTo pos (starEach [] X.env)) (backToKw pos (keywordEach [] X.env)))) zSr) :
  EQ L l X (.Call (.Attribute (.Name y np) m apos) [] [] pos) (M5 l ps.length C ns T G7):=λH_=>by
 obtain⟨f,fd,ok,b,D⟩:=F.ex;refine impE (Um (uv I x G j) O.cl D ok hr b .nil Xg B) λY H Q q=>?_;obtain⟨v,g,a,dx,fs,e1,u,l1,z⟩:=Xk F.no Y H Q q;refine⟨v,g,a,dx,fs,e1,u,l1,?_⟩;obtain⟨U,o,A,d,es,ds,M,e,k⟩:=z;exact k [] [] U H A d Grow.refl ds rfl e
def qWh(tc:TQb)(tb:TQS):TQS:=λU Z=>∃(P:DE->Prop)(μ:DE->Nat),P U/\∀ρ1,P ρ1->tc ρ1 λb d=>(b=true->tb d {nx:=λa=>P a/\μ a<μ ρ1,rt:=Z.rt})/\(b=false->Z.nx d)
def M3{c:Expr}{e:List Stmt}{tc:TQb}{tb:TQS}(V:QT L l X c tc)(W:QSs L l X e tb)(R:PassesOwn (model X.prog X.w) X.A X.env X.xe:=by exact PassesOwn.never):QS L l X (.While c e [] pos) (qWh tc tb):=λH_=>impS (Ui R (V H_) (W H_)) λDz Y H h=>by
 obtain⟨U,o,A,d,v,ds,Z,⟨P,u,hP,j⟩,Q,k2,k3,O⟩:=h;refine⟨λm a H'=>∃ρ' o' A' d',ST X.K H_.1 H' a ρ' o' l A' d' v/\P ρ'/\u ρ'=m,⟨_,U,o,A,d,ds,hP,rfl⟩,?_⟩;rintro m D H1 ⟨g,x,A1,d1,S1,I,rfl⟩;refine⟨g,x,A1,d1,v,S1,_,j g I,λb r H2 A2 d2 g2 z h2=>?_⟩;cases b with
 |false =>
  rw[zaJ aB]
  exact Q _ _ _ _ _ _ z (h2.2 rfl)
 |true =>
  rw[zaK rfl];refine⟨λa H'=>∃ρ' o' A' d',ST X.K H_.1 H' a ρ' o' l A' d' v/\P ρ'/\u ρ'<u g,λa H' ⟨ρ',o',A',d',S',es,G⟩=>⟨_,G,ρ',o',A',d',S',es,rfl⟩,r,x,A2,d2,v,z,_,h2.1 rfl,λk B H3 N A3 d3 S3 y=>⟨k,N,A3,d3,S3,y.1,y.2⟩,λ_ _ _ _ _ _ _ q=>q.elim,λ_ _ _ _ _ _ _ q=>q.elim,O⟩
def G8(l:Nat)(C:Addr)(f:Str)(a:TP1)(e:TF):TQS:=λU Z=>e U λx=>a U λπ=>∃d ns S,slot U l=some (dv d)/\atQ π d=some (.ob C ns S)/\ns.length<=100/\f∉ns/\Z.nx (setS U l (dv (putQ π d (.ob C (ns++[f]) (S++[x])))))
def sr(cl:Cls X.K C)(na:gp X.K C f)(hp:EPQ L l X oe tp)(he:EF L l X e tf)(hs:autoParam (swapsWith e (some (.Attribute oe f pos')) pos.line X.env=pure false) zSr):QS L l X (.Assign [.Attribute oe f pos'] e pos) (G8 l C f tp tf):=λH_=>impS (Kq (hp H_) (he H_) hs) λDz Y H h=>by
 obtain⟨U,o,A,d,v,ds,Z,hZ,k1,k2,k3,k4⟩:=h;refine⟨U,o,A,d,v,ds,_,hZ,λw y B H1 s1 fy nB r h1=>⟨U,o,A,d,v,ds.to s1,_,h1,λu π H2 s2 vp h2=>?_⟩⟩;obtain⟨d',ns,S,J,ea,hn,hf,h2⟩:=h2;cases s2_ J ds.hd
 obtain⟨u',A1,hv,f1,W,sub,dm,_⟩:=ds.focQ ea;have j:=s1.trans s2;cases (vp.fn (hv.to j));obtain⟨b,dx,E,At,rfl,q,D,es,rfl,fs⟩:=f1;have lx:ns.length=E.length:=by rw[D,fs.length]
 have V:Fts X.K H2 S E At:=Fts.keep (Gt.same j) _ _ _ (λa _ x N=>j _ _ N) fs;have R:Ft X.K H2 y w B:=Ft.keep (Gt.same s2) _ _ _ (λa _ x N=>s2 _ _ N) fy;have G:=zaQ.mp W;have I:(ns++[f]).Nodup:=by
  rw[zaO];refine⟨es,by simp,λa k c Q e=>?_⟩
  rw[zaE.mp Q]at e;exact hf (e▸k)
 obtain⟨A',S',g,_⟩:=ds.putH (e:=.ob C (ns++[f]) (S++[y])) (ho:=.ins C dx ((ns++[f]).zip (E++[w]))) (A1':=At++B) ea ⟨b,dx,E,At,rfl,q,D,es,rfl,fs⟩ W (λu A2 O f2 n2=>by
  cases hv.fn O
  exact⟨rfl,Ft.uniq _ _ _ _ f2 ⟨b,dx,E,At,rfl,q,D,es,rfl,fs⟩⟩) j (V.app (J:=[y]) (ys:=[w]) ⟨w,[],B,[],rfl,by simp,R,rfl,rfl⟩) (by
   rw[zaO];refine⟨G.2,nB,λa k c Q e=>?_⟩;subst e;exact dm a (zal _ k) (r a Q)) (λa k=>(zas.mp k).imp id (r a)) (λ_ z=>by cases z) (λ_ _ z=>by cases z) (λH' hb f'=>⟨b,dx,_,_,rfl,hb,by rw[zLa,zLa,D];rfl,I,rfl,f'⟩)
 refine⟨b,C,dx,_,rfl,j _ _ q,cl,na,by rw[zbG];lia,?_⟩
 rw[Uh hf lx];exact k1 _ _ _ _ _ _ S' h2
end
def qi{x a m:Str}{st:Stmt}{f:Addr}{fd:FuncData}{N ps:List Str}{k:Nat}{T:FTQ}{C:Addr}{ns:List Str}(F:Fun K x a st f fd)(ds:zo N ps (zd st))(b:um K fd ps [])(Y:Meth K C m f)(O:m∉ns)(es:∀ (qZ:Value) (A:Around) (outer:List Env) (s:Shared) (H:Hp) (xs:XK) (d:D) (S:List D) (M:D->D->Prop),Room k (A.deeper (envOfC a (zd st) s.heap.objs.size f qZ))->S.length+1=ps.length->T d S M ->
   ∃ t,QSs (λ_=>True) 0 (cxOf CX0 P w K mg base N a (zd st) f qZ A outer s H xs).nox (yu st) t/\t (wo N.length (d::S)) {nx:=λU=>∃ d',slot U 0=some (dv d')/\M .non d',rt:=λr U=>∃ d',slot U 0=some (dv d')/\M r d'}):FM P w K mg base (k+1) C ns m ps T:=by
 refine⟨⟨f,fd,F.ok ds (λvs H Q xs h=>?_) (λqZ A outer s H vs Q xs hr h=>?_),b,Y⟩,O⟩
 ·obtain⟨d,S,v,G,A,M,rfl,hl,_,_,r,_⟩:=h;rw[zLc,r.length,hl]
 obtain⟨d,S,v,G,y,M,rfl,hl,ft,R,r,hT,z⟩:=h;obtain⟨t,V,W⟩:=es qZ A outer s H xs d S M hr hl hT;have Z:=Zw (N:=N) ft R r;refine⟨Pi K (vv y H) 0 t,V ⟨vv y H,zaA⟩,wo N.length (d::S),[],y,d,v,Z,_,W,λρ' l H' o' A' d2 j B=>?_,λ_ _ _ _ _ _ _ q=>q.elim,λ_ _ _ _ _ _ _ q=>q.elim,λu e ρ' l H' o' A' d2 j L I B=>?_⟩
 all_goals
  obtain⟨d',J,h'⟩:=B;cases (show some (dv d2)=some (dv d') by rw[<- J];exact(wn j.hd).symm)
  obtain⟨g,fr⟩:=Hk ft j
 ·exact z _ .non _ H' A' g j.ft j.ndA fr trivial rfl h'
 exact z _ _ _ H' A' g j.ft j.ndA fr L I h'
def Mp:typeLookup (.type "zip") "keys" = pure none:=am_miss_of_fast (by kernel_rfl)
def Zo:typeLookup (.type "zip") "__getattr__" = pure none:=am_miss_of_fast (by kernel_rfl)
def bm:entryFor table "zip.__getattribute__" = some Builtin.«object.__getattribute__»:=entryFor_alias (id':="object.__getattribute__") (by kernel_rfl) aF aF (by kernel_rfl)
def Pb(a:Addr)(fs:Array Value)(u:Tok):Meets (Builtin.«object.__getattribute__» ⟨[.ref a,.str "keys" u],[]⟩) (λA R s=>s.heap.get? a=some {cls:=.type "zip",dict:=none,data:=.fields fs,slots:=#[]}/\raisesAttr (.ref a) "keys" A R s) :=
 Meets.of_wp λP w A R s e=>by
  obtain⟨l,g,d,tk,j⟩:=s;obtain⟨k,e⟩:=e;have hT:(⟨l,g,d,tk,j⟩:Shared).TypeIs (.ref a) "zip":=⟨_,k,rfl⟩;have q:=Mp;unfold Builtin.«object.__getattribute__»
  repeat (any_goals (first|exact hT|exact q|assumption|wp_step))
  exact wpAny_raiseAttrError e.1 e.2 (attrMsg_fits aF (by size_fits))
def jd1{fs:Array Value}{Q:Option Value->Shared->Prop}(q:s.heap.get? a=some {cls:=.type "zip",dict:=none,data:=.fields fs,slots:=#[]})(y:A.handled=none)(h:∀ g tk,(∀ b u,s.heap.get? b=some u->g.get? b=some u)->Q none {s with heap:=g,toks:=tk}):wpAny (model P w) A (getAttr? (.ref a) "keys") Q xs s:=by
 obtain⟨r,g,d,tk,l⟩:=s;have hT:∀j,(⟨r,g,d,j,l⟩:Shared).TypeIs (.ref a) "zip":=λ_=>⟨_,q,rfl⟩;have I:=sub_AttributeError;have G:=F.slot_zip_getattribute.lookup;have D:=F.slot_zip_getattribute.bind (.ref a);have B:=Zo;unfold getAttr? getAttrBy? getAttrBy
 repeat (any_goals (first|assumption|exact hT _|((with_reducible show wpAny _ _ (call (Value.builtin "zip.__getattribute__") _ _) _ _ _);refine zeN F.slot_zip_getattribute (hT _) bm (F.args_zip_getattribute_2 _ _) (Pb a fs _) ⟨q,y,λh' j e k=>?_⟩)|wp_step))
 obtain⟨t',z,v⟩:=k.there;have x:∀tk'',(⟨h',g,d,tk'',l⟩:Shared).TypeIs (.ref e) "AttributeError":=λ_=>⟨_,v,rfl⟩;show wpAny _ _ (getattributeRaised _ _ _ _ _ _ _) _ _ _;unfold getattributeRaised
 repeat (any_goals (first|assumption|exact x _|wp_step))
 exact h _ _ k.keeps
section
variable{R:Result->Shared->Prop}{b1 b2:Bool}{d z ti to i1 i2 l1 l2:Addr}{E ys:Array Value}{h0:Heap}
def To{more:List (Key×Value)}(hh:A.handled=none)(D:ZZ.ZNe z ti to i1 i2)(d1:ZZ.ZOff z to i1 i2 l1)(d2:ZZ.ZOff z to i1 i2 l2)(lz:z<d)(a5:ti<d)(v:to<d)(G:i1<d)(B:i2<d)(a4:l1≠d)(a0:l2≠d)(a9:E.size=ys.size)(b0:more.length=E.size)(hn:E.size<=1000)(a7:(more.map (·.1)).Nodup)(hv:∀ (i:Nat) x y,E[i]?=some x->ys[i]?=some y->∃ k t,x=.str k t/\more[i]?=some (Sum.inr k,y)) :
  ∀(k i:Nat)(s:Shared)(tk:Tok)(I:List Addr),E.size-i=k->i<=E.size->I.length=i->ZZ.ZS b1 b2 z ti to i1 i2 l1 l2 I i s.heap->ZZ.PairsZ s.heap E ys d I->ZZ.SqAt b1 s.heap l1 E->ZZ.SqAt b2 s.heap l2 ys ->
   (∀b o,b≠d->ZZ.ZOff z to i1 i2 b->h0.get? b=some o->s.heap.get? b=some o)->s.heap.DictOf (yp P w) d (more.take i) ->
   (∀g tk,g.DictOf (yp P w) d more->(∀b o,b≠d->ZZ.ZOff z to i1 i2 b->h0.get? b=some o->g.get? b=some o)->R (.ok (.ret .none)) {s with heap:=g,toks:=tk}) ->
   codeAny (model P w) A (.builtin "dict.update.loop" ⟨[.ref d,.ref z,.int i tk,.none],[]⟩) R s:=by
 have l:ZZ.ZOff z to i1 i2 d:=⟨zcC lz,zcC v,zcC G,zcC B⟩;have O:∀{a:Addr},d<a->ZZ.ZOff z to i1 i2 a:=λ{a} q=>⟨zcC (zeO lz q),zcC (zeO v q),zcC (zeO G q),zcC (zeO B q)⟩;have a8:A.in1.handled=none:=by simpa using hh
 intro k
 induction k with
 |zero =>
  intro i s tk I hk hi V Z es t1 t2 j q hR;have e:i=E.size:=by lia
  refine zfU t5 ?_;rw[zeF wd _];show wpAny _ A.in1 (pyNext (.ref z) >>= _) _ _ s;refine zaa (Ee a8 D d1 d2 Z es t1 t2 (by rw[e];simp) λg r=>?_)
  show wpAny _ A.in1 (Builtin.Dict.addKeywords d [] >>= _) _ _ _;refine zaa (zab (zab (hR g s.toks ?_ λb o h1 h2 e=>r b o h2 (j b o h1 h2 e))));rw[zbS aD]at q
  obtain⟨o,J,ep,ho,mm⟩:=q;exact⟨o,J,ep,r d o l ho,mm⟩
 |succ k ih =>
  intro i s tk I hk hi V Z es t1 t2 j q hR;have lt:i<E.size:=by lia
  have ex:E[i]?=some E[i]:=by simp[lt]
  have W:ys[i]?=some (ys[i]' aD):=by simp[show i<ys.size by lia]
  obtain⟨x,t,hx,hm⟩:=hv i _ _ ex W;obtain⟨u,hu⟩:∃u,u=ys[i]' aD:=⟨_,rfl⟩
  rw[<- hu]at W hm;rw[hx]at ex;refine zfU t5 ?_;rw[zeF wd _];show wpAny _ A.in1 (pyNext (.ref z) >>= _) _ _ s;refine zaa (Ju D d1 d2 Z es t1 t2 ex W λg Z2 pr r=>?_);have ld:d<s.heap.objs.size:=by obtain⟨o,_,_,ho,_⟩:=q;exact zae ho
  have q2:g.DictOf (yp P w) d (more.take i):=by
   obtain⟨o',J,ep,a6,mm⟩:=q;exact⟨o',J,ep,r d o' l a6,mm⟩
  have Q:(Sum.inr x:Key)∉(more.take i).map (·.1):=by
   have e:more.take (i+1)=more.take i++[(Sum.inr x,u)]:=by rw[zfD,hm];rfl
   have h4:((more.take (i+1)).map (·.1)).Nodup:=a7.sublist ((zeC _ _).map _);rw[e,zMa,zaO]at h4;intro z;exact h4.2.2 _ z (Sum.inr x) aE rfl
  have N:ZZ.PairsZ g E ys d (I++[s.heap.objs.size]):=(es.to λa o ha e=>r a o (O (es.1 a ha)) e).snoc ld (λm=>zbT _ (es.lt m)) (by rw[V];exact ex) (by rw[V];exact W) pr
  show wpAny _ A.in1 (holding [Value.ref s.heap.objs.size] _ >>= _) _ _ _;refine zaa (zbF (zaa (wpAny_tryCatch ?_)));unfold Builtin.Dict.pairItems;refine zaa (zeM (s:={s with heap:=g}) ⟨_,pr,rfl⟩ ?_);rw[zaK aB]
  refine zaa (zcD (s:={s with heap:=g}) pr rfl (zab ?_));show wpAny _ A.in1 (holding [Value.str x t,u] (dictSet d (.str x t) u)) _ _ _;refine zbF (wpAny_dictSet_pairs (s:={s with heap:=g}) (knd:=yp P w) (k:=Sum.inr x) (dq P w x t) q2 (λg2 q3 L=>?_) (by rw[zaZ];exact zak (Nat.min_le_left _ _) (zak hi (zak hn aB))))
  refine zab ⟨plainId_quiet wd _,?_⟩;rw[bx Q,show more.take i++[((Sum.inr x:Key),u)]=more.take (i+1) by rw[zfD,hm];rfl]at q3
  show codeAny (model P w) A (.builtin "dict.update.loop" ⟨[.ref d,.ref z,.int ((i:Int)+1) _,.none],[]⟩) R _;have ei:((i:Int)+1)=((i+1:Nat):Int):=by lia
  rw[ei];refine ih (i+1) _ _ (I++[s.heap.objs.size]) aD lt (by rw[zLa,V];rfl) (Z2.to λc o hc e=>L.extBut c o (λz=>?_) e) (N.to λa o ha e=>L.extBut a o (zcC (N.1 a ha)) e) ((t1.at λo e=>r _ o d1 e).at λo e=>L.extBut _ o a4 e) ((t2.at λo e=>r _ o d2 e).at λo e=>L.extBut _ o a0 e)
   (λb o' h1 h2 e=>L.extBut b o' h1 (r b o' h2 (j b o' h1 h2 e))) q3 λg3 Y q4 k4=>hR g3 Y q4 k4
  subst z;rcases hc with rfl|rfl|rfl|rfl|rfl
  ·exact zbT _ lz
  ·exact zbT _ a5
  ·exact zbT _ v
  ·exact zbT _ G
  exact zbT _ B
end
variable{b1 b2:Bool}{z ti to i1 i2 l1 l2:Addr}{E ys:Array Value}
def dict_zip{more:List (Key×Value)}{Q:Value->Shared->Prop}(hh:A.handled=none)(D:ZZ.ZNe z ti to i1 i2)(d1:ZZ.ZOff z to i1 i2 l1)(d2:ZZ.ZOff z to i1 i2 l2)(Z:ZZ.ZAt b1 b2 s.heap z ti to i1 i2 l1 l2 .none 0)(t1:ZZ.SqAt b1 s.heap l1 E)(t2:ZZ.SqAt b2 s.heap l2 ys)(V:E.size=ys.size)(Y:more.length=E.size)(hn:E.size<=1000)(W:(more.map (·.1)).Nodup)(hv:∀ (i:Nat) x y,E[i]?=some x->ys[i]?=some y->∃ k t,x=.str k t/\more[i]?=some (Sum.inr k,y))(h:∀ g tk,g.DictOf (yp P w) s.heap.objs.size more->(∀ b o,ZZ.ZOff z to i1 i2 b->s.heap.get? b=some o->g.get? b=some o)->Q (.ref s.heap.objs.size) {s with heap:=g,toks:=tk}):wpAny (model P w) A (call (.type "dict") [.ref z]) Q xs s:=by
 refine callType_codes (Q₁:=λB y=>B=.ref s.heap.objs.size/\y={s with heap:=s.heap.push {cls:=.type "dict",data:=.dict #[]}}) F.kt_called_dict (F.kt_typeCall_dict_1 _) F.entry_dict_init (kt_code_dict_new _ ⟨rfl,rfl⟩) ?_;rintro B y ⟨rfl,rfl⟩;obtain⟨es,its,⟨oa,ob,v⟩,one,r⟩:=id Z;have lz:z<s.heap.objs.size:=zae es;have R:ti<s.heap.objs.size:=zae its;have O:to<s.heap.objs.size:=zae v;have li:∀{b:Bool}{it l:Addr}{i:Nat},ZZ.ItAt b s.heap it l i->it<s.heap.objs.size:=λ{b it l i} q=>by
  cases b with
  |true=>obtain⟨o,e,_⟩:=(show s.heap.IsTupleIter it l i from q);exact zae e
  |false=>obtain⟨o,e,_⟩:=(show s.heap.IsListIter it l i from q);exact zae e
 have ls:∀{b:Bool}{l:Addr}{E:Array Value},ZZ.SqAt b s.heap l E->l<s.heap.objs.size:=λ{b l E} q=>by
  cases b with
  |true=>obtain⟨o,e,_⟩:=(show s.heap.IsTuple l E from q);exact zae e
  |false=>obtain⟨o,e,_⟩:=(show s.heap.IsList l E from q);exact zae e
 have new:(s.heap.push {cls:=.type "dict",data:=.dict #[]}).DictOf (yp P w) s.heap.objs.size []:=Heap.DictOf.new s.heap;have I:∀b u,s.heap.get? b=some u->(s.heap.push {cls:=.type "dict",data:=.dict #[]}).get? b=some u:=λb u e=>zac _ e;have d:=I z _ es;have L:Shared.TypeIs {s with heap:=s.heap.push {cls:=.type "dict",data:=.dict #[]}} (.ref z) "zip":=⟨_,d,rfl⟩;refine⟨new.typeIs,F.args_dict_init_2 _ _,?_⟩;unfold Builtin.«dict.__init__»;refine zaa ?_;unfold Builtin.Dict.selfAndRest;refine zaa (zfI new.typeIs ?_);show wpAny _ _ (pure (s.heap.objs.size,[Value.ref z])) _ _ _;refine zab ?_;show wpAny _ _ (Builtin.Dict.updateFrom "dict.__init__" s.heap.objs.size (.ref z) [] .none) _ _ _;unfold Builtin.Dict.updateFrom;refine zaa (zeM L ?_);rw[zaK aB]
 refine zaa (jd1 d (by simpa using hh) λg tk G=>?_)
 rw[zaK (show(Option.none:Option Value).isNone=true from rfl)];have up:∀b o,s.heap.get? b=some o->g.get? b=some o:=λb o e=>G b o (I b o e);refine zaa (zfR (zaa (wpAny_pyIter_zip (s:={s with heap:=g,toks:=tk}) (up z _ es) ?_)));refine zab ⟨plainId_quiet wd _,?_⟩;have q0:g.DictOf (yp P w) s.heap.objs.size []:=by
  obtain⟨o,J,ep,ho,mm⟩:=new;exact⟨o,J,ep,G _ _ ho,mm⟩
 refine To (h0:=s.heap) (b1:=b1) (b2:=b2) (ys:=ys) (by simpa using hh) D d1 d2 lz R O (li one) (li r) (zaT (ls t1)) (zaT (ls t2)) V Y hn W hv E.size 0 _ _ [] (Nat.sub_zero _) (zcB _) rfl
  (.inl ⟨rfl,up _ _ es,up _ _ its,⟨oa,ob,up _ _ v⟩,one.at λo e=>up _ o e,r.at λo e=>up _ o e⟩) ⟨(λ_ q=>nomatch q),zcK,λj a e=>by simp at e⟩ (t1.at λo e=>up _ o e) (t2.at λo e=>up _ o e) (λb o _ _ e=>up b o e) q0 λg2 N q2 k2=>?_
 exact⟨rfl,h g2 N q2 λb o q e=>k2 b o (zaT (zae e)) q e⟩
def Nk(K:W.Frag)(ta:TA):TE:=λY H Q=>ta Y H λvs H1=>∃b1 b2 l1 l2 E ys,∃zs:List Str,vs=[.ref l1,.ref l2]/\SqK b1 K H1 l1 E/\SqK b2 K H1 l2 ys/\E=zs.map V.str/\E.length=ys.length/\E.length<=1000/\zs.Nodup /\
 ∀l,H1 l=none->Q (.ref l) (upd H1 l (.dK ((zs.map Sum.inr).zip ys)))
def S8{X:Cx}{a b:Expr}{ta:TA}{p p2 pos pos2:Pos}(hc:X.calm=true)(hg:Gl X "dict")(hm:X.mg "dict" = none)(a5:Gl X "zip")(a4:X.mg "zip" = none)(ha:PA X [a,b] ta)(h1:autoParam (starEach [.Call (.Name "zip" p2) [a,b] [] pos2] X.env=(false,eval (.Call (.Name "zip" p2) [a,b] [] pos2) X.env)::starEach [] X.env) zSr)(he:autoParam (starEach [a,b] X.env=(false,eval a X.env)::starEach [b] X.env) zSr)(a0:autoParam ((backTo pos2 (starEach [b] X.env)).any (·.1)=false) zSr) :
  PE X (.Call (.Name "dict" p) [.Call (.Name "zip" p2) [a,b] [] pos2] [] pos) (Nk X.K ta):=by
 intro pn s Y H Q I h;refine zcL (jc I hg hm ZZ.boot_dict' ?_ aB aB)
 refine zbL ?_ h1 (by rfl)
 rw[h1];show wpAny _ _ (spliced ((false,eval _ X.env)::backTo pos (starEach [] X.env))) _ _ s;refine Calls.spliced_cons ?_;refine zcL (jc I a5 a4 Wf ?_ aB aB)
 refine zbL (thn (ha pos2 pn s Y H _ I h) λus s1 Zh=>?_) he a0;obtain⟨vs,H1,es,r,b1,b2,l1,l2,E,ys,zs,e,e1,e2,ez,hl,hn,nd,q⟩:=Zh;subst e;obtain⟨u,v,rfl,ru,rv⟩:=Jz r;cases ru;cases rv;obtain⟨d,r,g1⟩:=X4 es e1;obtain⟨j,L,g2⟩:=X4 es e2;refine Vz (E:=d.toArray) (ys:=j.toArray) g1 g2 λg Z kp=>Calls.spliced_nil ?_;have D:ZNe (s1.heap.objs.size+4) (s1.heap.objs.size+2) (s1.heap.objs.size+3) s1.heap.objs.size (s1.heap.objs.size+1):=by
  constructor <;> (intro z;exact absurd (show(_:Nat)=_ from z) aD)
 have B:∀{c:Addr},c<s1.heap.objs.size->ZOff (s1.heap.objs.size+4) (s1.heap.objs.size+3) s1.heap.objs.size (s1.heap.objs.size+1) c:=λ{c} q=>⟨zaT (zaR q (zcH _ _)),zaT (zaR q (zcH _ _)),zaT q,zaT (zaR q (zcH _ _))⟩;have N:∀{b:Bool}{l:Addr}{its:List Value},SqAt b s1.heap l its.toArray->l<s1.heap.objs.size:=λ{b l its} q=>by
  cases b with
  |true=>obtain⟨o,e,_⟩:=(show s1.heap.IsTuple _ _ from q);exact zae e
  |false=>obtain⟨o,e,_⟩:=(show s1.heap.IsList _ _ from q);exact zae e
 have big:s1.heap.objs.size+4<g.objs.size:=zae Z.zz;have n1:=r.length;have n2:=L.length;have hb:=es.big;have ex:∀(zs:List Str)(d j:List Value)(ys:List V),Vals (zs.map V.str) d->Vals ys j->zs.length=ys.length->∃more:List (Key×Value),KV ((zs.map (Sum.inr:Str->Key)).zip ys) more/\more.length=d.length/\more.map (·.1)=zs.map (Sum.inr:Str->Key) /\
   ∀(i:Nat) x y,d[i]?=some x->j[i]?=some y->∃k t,x=.str k t/\more[i]?=some (Sum.inr k,y):=by
  intro zs
  induction zs with
  |nil =>
   intro d j ys r L l;cases r;cases ys with
   |nil=>exact⟨[],.nil,rfl,rfl,λi x y e=>by simp at e⟩
   |cons _ _=>simp at l
  |cons zt zs ih =>
   intro d j ys r L l;cases ys with
   |nil=>simp at l
   |cons y ys =>
    cases r with
    |cons h1 t1 =>
     cases L with
     |cons h2 t2 =>
      obtain⟨more,W,R,k3,k4⟩:=ih _ _ ys t1 t2 (by simpa using l)
      obtain⟨tt,rfl⟩:=h1;rename_i u2 _;refine⟨(Sum.inr zt,u2)::more,.cons ⟨rfl,h2⟩ W,by simp[R],by simp[k3],λi x y' e O=>?_⟩
      cases i with
      |zero =>
       simp at e O;subst e O;exact⟨zt,tt,rfl,rfl⟩
      |succ i =>
       obtain⟨k,t,e3,e4⟩:=k4 i x y' (by simpa using e) (by simpa using O)
       exact⟨k,t,e3,by simpa using e4⟩
 subst ez;obtain⟨more,W,R,k3,k4⟩:=ex zs d j ys r L (by simpa using hl)
 rw[zLm]at hn n1 hl;refine ZZ.dict_zip (s:={s1 with heap:=g}) (A:=X.A) (more:=more) (es.ok.hd hc) D (B (N g1)) (B (N g2)) Z (g1.at λo e=>kp _ o e) (g2.at λo e=>kp _ o e) (by rw[zap,zap];lia) (by rw[zap];exact R) (by rw[zap];lia) (by
   rw[k3];exact zfC _ (λa b h e=>h (zfS e)) nd) (λi x y e O=>k4 i x y (by simpa using e) (by simpa using O)) λh' tk qd keep=>?_
 dsimp only at keep qd ⊢
 have G:∀b o,s1.heap.get? b=some o->h'.get? b=some o:=λb o e=>keep b o (B (zae e)) (kp b o e);have gb:(s1.heap.objs.size:Nat)<=g.objs.size:=by have:(s1.heap.objs.size+4:Nat)<g.objs.size:=big;lia
 have fr:H1 g.objs.size=none:=es.hok.fresh gb;refine⟨.ref g.objs.size,_,es.laid (o:=.dK ((zs.map Sum.inr).zip ys)) (t':=tk) G gb ?_,rfl,q _ fr⟩;have lk:=W.length;exact Wb (by rw[lk,R,<- n1];exact zak hn aB) (by simpa using zcC (zaR hb gb)) W qd
section
variable{a b oe:Expr}{t:TDs}{x:Str}{p p2 pos pos2 pos' np:Pos}
def Jp(t:TDs):TD:=λU M=>t U λrs=>∃(zs:List Str)(S:List D),(match rs with
 |[r1,r2]=>(r1.d=.lst (zs.map D.str)\/r1.d=.tup (zs.map D.str))/\(r2.d=.lst S\/r2.d=.tup S)
 | _=>False)/\zs.length=S.length/\zs.length<=1000/\zs.Nodup/\M (df (.dk (zs.map Sum.inr) S))
def Ri{K:W.Frag}{H:Hp}{O:List Addr}{d:D}{v:V}{S:List D}(h:View K H O d v)(e:d=.lst S\/d=.tup S):∃b l E,v=.ref l/\SqK b K H l E/\Reps K H O S E:=by
 rcases e with rfl|rfl
 ·obtain⟨a,E,rfl,q,r⟩:=h;exact⟨false,a,E,rfl,SqL.of q,r⟩
 obtain⟨a,E,rfl,q,r⟩:=h;exact⟨true,a,E,rfl,q.1,r⟩
def Tb(O:X.mg "dict" = none)(y:X.mg "zip" = none)(ha:EA L X [a,b] t)(Z:autoParam (X.calm=true) zSr)(V:autoParam (Gl X "dict") zSr)(z:autoParam (Gl X "zip") zSr)(h1:autoParam (starEach [.Call (.Name "zip" p2) [a,b] [] pos2] X.env=(false,eval (.Call (.Name "zip" p2) [a,b] [] pos2) X.env)::starEach [] X.env) zSr)(W:autoParam (starEach [a,b] X.env=(false,eval a X.env)::starEach [b] X.env) zSr)(x:autoParam ((backTo pos2 (starEach [b] X.env)).any (·.1)=false) zSr) :
  ED L X (.Call (.Name "dict" p) [.Call (.Name "zip" p2) [a,b] [] pos2] [] pos) (Jp t):=λH_ =>
 impE (S8 Z V O z y (ha H_) h1 W x) λY H Q q=>by
  obtain⟨U,I,R,M,v,es⟩:=q;refine⟨U,I,R,_,v,λvs rs H1 s1 k h1=>?_⟩;obtain⟨zs,S,h0,hl,N,B,h1⟩:=h1;split at h0
  ·rename_i r1 r2;obtain⟨v1,ws,rfl,r,v2,j,rfl,l,e⟩:=k;cases (show j=[] from e);obtain⟨b1,l1,E,rfl,G,u⟩:=Ri r.view h0.1;obtain⟨b2,l2,ys,rfl,D,d⟩:=Ri l.view h0.2;have ex:=X9 u;have m2:=d.length;refine⟨b1,b2,l1,l2,E,ys,zs,rfl,G,D,ex,by rw[ex,zLm];lia,by rw[ex,zLm];exact N,B,λp g=>?_⟩
   have n:=y9 g (HO.dK ((zs.map Sum.inr).zip ys));refine es (.ref p) (df (.dk (zs.map Sum.inr) S)) _ (s1.trans n) ⟨p,rfl,s1.free g,R.ofree (s1.free g),ys,zk,by rw[zLm];exact hl,zfC _ (λa b h e=>h (zfS e)) B,zj.grow (Yj g) _ _ d⟩ h1
  exact h0.elim
def Kp(l j:Nat)(a:TP1)(te:TD):TQS:=λU Z=>a U λπ=>∃d ks S,slot U l=some (dv d)/\atQ π d=some (.dk ks S)/\j<U.length/\te (hid j U) λr=>match r with
 |⟨.fre,.dk ks2 ds2⟩=>zu ds2/\ks.length+ks2.length<=1000/\(ks++ks2).Nodup/\Z.nx (hid j (setS U l (dv (putQ π d (.dk (ks++ks2) (S++ds2))))))
 |_=>False
def M4(j:Nat)(hj:j≠l)(hN:X.N.Nodup)(hp:EPQ L l X oe tp)(he:ED L X e te)(hi:autoParam (X.N[j]?=some x) zSr)(Q:Loc X.env.scope x:=by first|exact Or.inl rfl|exact Or.inr rfl)(hs:autoParam (swapsWith oe (some (.Name x pos')) pos.line X.env=pure false) zSr)(hf:X.fn x=true\/X.env.scope.names.lookup x=some .local:=by first|exact .inl rfl|exact .inr rfl|assumption)(hv:Vis X.env.scope x:=by walk_at "o")(hd:autoParam (D_ x) zSd)(a4:autoParam ((x==("__classdict__" : Str))=false) zSd)(W:∀ {ta tb:TE},PE X (.Name x np) ta->PE X e tb->PS X (.Expr (.Call (.Attribute (.Name x np) "update" apos) [e] [] cpos) pos2) (Tv (D2 ta tb)):=by
   intro ta tb h1 h2;exact qu (Gr h1 h2 ⟨rfl,rfl,rfl,rfl⟩)) :
  QSs L l X [.Assign [.Name x pos'] oe pos,.Expr (.Call (.Attribute (.Name x np) "update" apos) [e] [] cpos) pos2] (Kp l j tp te):=λH_ =>
 Vi (vh (gf hN hi Q (hp H_) hs hf) (qt (W (uv hi hv hd a4) (he H_)))) λDz Y H h=>by
  obtain⟨U,o,A,d,v,ds,Z,hZ,k1,k2,k3,k4⟩:=h;refine⟨U,o,A,d,v,ds,_,hZ,λu π H1 s1 vp h1=>?_⟩;obtain⟨d',ks,S,J,ea,a8,h1⟩:=h1;cases s2_ J ds.hd
  have S1:=(ds.to s1).letgo hj u;have sl:Y.length=U.length:=ds.R.len;obtain⟨u',A1,B,f1,n1,sub,dm,_⟩:=S1.focQ ea;cases vp.fn B;obtain⟨b,E,At,rfl,q,es,nd,rfl,fs⟩:=f1;have I:ks.length=E.length:=by rw[es,fs.length]
  refine⟨.ref b,zaV aD,b,_,rfl,q,hid j U,o,S1.R,_,h1,λw r H2 s2 rv h2=>?_⟩
  split at h2
  ·rename_i k a6;obtain⟨pd,G,D,h2⟩:=h2;obtain⟨c,rfl,mc,nc,ys,qc,y,a7,rc⟩:=rv;have yl:k.length=ys.length:=by rw[y,rc.length]
   have a0:b≠c:=λz=>by
    subst z;rw[q]at mc;cases mc
   have a5:Fts X.K H2 S E At:=Fts.keep (Gt.same s2) _ _ _ (λa _ x Q=>s2 _ _ Q) fs;have O:=zaQ.mp n1;obtain⟨A',S',g,_⟩:=S1.putH (e:=.dk (ks++k) (S++a6)) (ho:=.dK ((ks++k).zip (E++ys))) (A1':=At++[]) ea ⟨b,E,At,rfl,q,es,nd,rfl,fs⟩ n1 (λu A2 V f2 n2=>by
    cases B.fn V
    exact⟨rfl,Ft.uniq _ _ _ _ f2 ⟨b,E,At,rfl,q,es,nd,rfl,fs⟩⟩) s2 (a5.app (zj.fts _ _ pd rc)) (by rw[zaX];exact O.2) (λa ha=>by rw[zaX]at ha;exact .inl ha) (λ_ z=>by cases z) (λ_ _ z=>by cases z)
    (λH' hb f=>⟨b,_,_,rfl,hb,by rw[zLa,zLa,es,y],D,rfl,f⟩)
   refine⟨c,_,_,rfl,a0,s2 _ _ q,qc,?_,?_,?_⟩
   ·rw[zbG,zbG,<- I,<- yl,zfX,zfX];exact zak G aB
   ·rw[<- Wn ks E k ys I,jd _ _ (by rw[zLa,zLa,I,yl])]
    exact D
   rw[<- Wn ks E k ys I];rw[<- qe _ _ (Ne.symm hj)]at S';exact k1 _ _ _ _ _ _ S' h2
  exact h2.elim
end
def Ba(K:W.Frag)(H_:Hp)(l:Nat)(t:TF):TE:=λY H Q=>∃U o A d v,ST K H_ H Y U o l A d v/\∃M,t U M/\∀u e H',Same H H'->RepN K H' (λa=>H_ a=none) e u->M e->Q u H'
def Fb(K:W.Frag)(H_:Hp)(l:Nat)(t:TFs):TA:=λY H Q=>∃U o A d v,ST K H_ H Y U o l A d v/\∃M,t U M/\∀us J H',Same H H'->zj K H' (λa=>H_ a=none) J us->M J->Q us H'
def ER(G:Hp->Prop)(l:Nat)(X:Cx)(e:Expr)(t:TF):Prop:=∀H_:{H:Hp // G H},PE X e (Ba X.K H_.1 l t)
def ERs(G:Hp->Prop)(l:Nat)(X:Cx)(J:List Expr)(t:TFs):Prop:=∀H_:{H:Hp // G H},PA X J (Fb X.K H_.1 l t)
section
variable{J:List Expr}{pos:Pos}
def rE(te:TD):TF:=λU M=>te U λr=>zi r.d/\M r.d
def Ls(j:ED L X e te):ER L l X e (rE te):=λH_=>impE (j H_) λY H Q q=>by
 obtain⟨U,o,A,d,v,ds,M,a,k⟩:=q;exact⟨U,o,ds.R,_,a,λu r H1 s1 g h1=>k u r.d H1 s1 (RepN.toN _ _ h1.1 g.view.rep0) h1.2⟩
def rP(l:Nat)(a:TP1):TF:=λU M=>a U λπ=>∃d d1,slot U l=some (dv d)/\atQ π d=some d1/\M d1
def fc(x:EPQ L l X e tp):ER L l X e (rP l tp):=λH_=>impE (x H_) λY H Q q=>by
 obtain⟨U,o,A,d,v,ds,M,g,k⟩:=q;refine⟨U,o,A,d,v,ds,_,g,λu π H1 s1 j h1=>?_⟩;obtain⟨d',d1,J,B,h1⟩:=h1;cases s2_ J ds.hd
 obtain⟨D,G,r,z,_,sub,_⟩:=(ds.to s1).focQ B;cases j.fn r;exact k u d1 H1 s1 (Ft.repN _ _ _ (λa y=>ds.frA a (sub a y)) z) h1
def Od:ERs L l X [] fNil:=λH_=>impA su λY H Q q=>by
 obtain⟨U,o,A,d,v,ds,M,a,k⟩:=q;exact k [] [] H (Same.refl H) rfl a
def ut{te:TF}{j:TFs}(x:ER L l X e te)(hr:ERs L l X J j)(r:autoParam (S_ X e J) zSr):ERs L l X (e::J) (Fy te j):=λH_=>impA (vz (x H_) (hr H_) r) λY H Q q=>by
 obtain⟨U,o,A,d,v,ds,M,a,k⟩:=q;refine⟨U,o,A,d,v,ds,_,a,λu e1 H1 s1 B h1=>⟨U,o,A,d,v,ds.to s1,_,h1,λus g H2 s2 y h2=>?_⟩⟩;exact k (u::us) (e1::g) H2 (s1.trans s2) ⟨u,us,rfl,RepN.to s2 aA _ _ B,y⟩ h2
def Jk{t:TFs} {x1} (h:ERs L l X J t):ER L l X (.Tuple J x1 pos) (fTup t):=λH_=>impE (Qs (h H_)) λY H Q q=>by
 obtain⟨U,o,A,d,v,ds,M,a,k⟩:=q;refine⟨U,o,A,d,v,ds,_,a,λus e H1 s1 f h1=>⟨by rw[f.length,zbH];lia,λp g=>?_⟩⟩
 have n:=y9 g (HO.tup us);exact k (.ref p) (.tup e) _ (s1.trans n) ⟨p,us,rfl,⟨SqT.of zk,zk⟩,zj.to n aA _ _ f⟩ h1.2
def Do(t:TF):TQS:=λU Z=>t U λd=>Z.rt d U
def Qe{t:TF}(h:ER L l X e t):RS L l X (.Return (some e) pos) (Do t):=λH_=>impS (Z9 (h H_)) λDz Y H h=>by
 obtain⟨U,o,A,d,v,ds,Z,g,j,a⟩:=h;exact⟨U,o,A,d,v,ds,_,g,λu e H1 s1 r h1=>a u e U H1 (ds.Q.same.trans s1) r h1⟩
end
structure FMR(P:Program)(w:World)(K:W.Frag)(mg:Str->Option Value)(base:Heap)(k:Nat)(C:Addr)(ns:List Str)(m:Str)(ps:List Str)(T:FTR):Prop where
 ex:∃f fd,FnOk P w K mg base CX0 k f fd ps (spR K ps.length T)/\um K fd ps []/\Meth K C m f
 no:m∉ns
def A0{x g m:Str}{st:Stmt}{f:Addr}{fd:FuncData}{N ps:List Str}{k:Nat}{T:FTR}{C:Addr}{ns:List Str}(F:Fun K x g st f fd)(ds:zo N ps (zd st))(b:um K fd ps [])(W:Meth K C m f)(G:m∉ns)(B:∀ (qZ:Value) (A:Around) (outer:List Env) (s:Shared) (H:Hp) (xs:XK) (d:D) (S:List D) (M:D->Prop),Room k (A.deeper (envOfC g (zd st) s.heap.objs.size f qZ))->S.length+1=ps.length->T d S M ->
   ∃ t,RSs (λ_=>True) 0 (cxOf CX0 P w K mg base N g (zd st) f qZ A outer s H xs).nox (yu st) t/\t (wo N.length (d::S)) {nx:=λ_=>False,rt:=λr _=>M r}):FMR P w K mg base (k+1) C ns m ps T:=by
 obtain⟨f',Z,ok,b',es,e⟩:=(z1t (mg:=λ_=>some (.ref f)) (P:=P) (w:=w) (base:=base) (x:=x) (k:=0) (T:=λ_ _ _=>False) F ds b rfl λ_ _ _ _ _ _ _ _ _ _ _ h=>h.elim).ex;refine⟨⟨f,fd,F.ok ds (λvs H Q xs h=>?_) (λqZ A outer s H vs Q xs hr h=>?_),b,W⟩,G⟩
 ·obtain⟨d,S,v,y,A,M,rfl,hl,_,_,r,_⟩:=h;rw[zLc,r.length,hl]
 obtain⟨d,S,v,y,j,M,rfl,hl,ft,I,r,hT,L⟩:=h;obtain⟨t,O,R⟩:=B qZ A outer s H xs d S M hr hl hT;have S0:=Zw (N:=N) ft I r;refine⟨Uu K (vv j H) 0 t,O ⟨vv j H,zaA⟩,wo N.length (d::S),[],j,d,v,S0,_,R,λρ' q H' o' A' d2 S' h'=>h'.elim,λu e ρ' H' s' z h'=>?_⟩;refine L u e H' (λb x Y V=>s' b x (by rw[w8 V];exact Y)) (RepN.to (Same.refl _) (λa l=>?_) _ _ z) h'
 by_cases hA:a∈j
 ·exact .inl hA
 rw[w8 hA]at l;exact .inr l
def ST.make{H_ H H2:Hp}{Y:St}{U:DE}{o:List (Nat×Addr)}{l:Nat}{A:List Addr}{d:D}{v:V}(R:REnv K H_ H Y U o)(hl:l<U.length)(s:Same H H2)(f:Ft K H2 d v A)(B:A.Nodup)(fr:∀ a∈A,H a=none) :
  ST K H_ H2 (Y.set l (some v)) (setS U l (dv d)) o l A d v:=by
 have R2:=R.to s;have dis:∀a∈A,a∉o.map Prod.snd:=λa x=>R.ofree (fr a x);refine⟨⟨R2.same,λp j=>?_,λp j=>?_,λp j=>?_,?_,λi q e=>?_,?_⟩,?_,?_,f⟩
 ·rcases zas.mp j with j|j
  ·exact R.fresh p j
  obtain⟨a,x,rfl⟩:=zah.mp j;exact R.same.free (fr a x)
 ·rcases zas.mp j with j|j
  ·exact R2.trk p j
  obtain⟨a,x,rfl⟩:=zah.mp j;obtain⟨u,hu,_⟩:=Ft.dom _ _ _ f a x;exact⟨u,hu⟩
 ·rcases zas.mp j with j|j
  ·exact R2.mtb p j
  obtain⟨a,x,rfl⟩:=zah.mp j;obtain⟨u,hu,I,G⟩:=Ft.dom _ _ _ f a x;refine⟨λE z=>?_,λy w z=>?_⟩
  ·rw[hu]at z;cases z;exact I _ rfl
  rw[hu]at z;cases z;exact G _ _ rfl
 ·rw[vg,zaO];exact⟨R.nda,B,λa x b r e=>dis b r (e▸x)⟩
 ·rw[Yi]at e;obtain⟨hi,e⟩:=c9 e;obtain⟨w,es,q⟩:=R.slots i q e;refine⟨w,by rw[zaN (Ne.symm hi)];exact es,?_⟩
  rw[vg];have g:Grow (o.map Prod.snd) (o.map Prod.snd++A) H H2:=⟨λb u r n=>⟨s _ _ r,λz=>(zas.mp z).elim n λz=>by rw[fr b z]at r;cases r⟩,λb E r=>s _ _ r,λb y u r=>s _ _ r⟩
  rcases q with⟨k,q⟩|⟨k,c,e1,m,L⟩
  ·exact .inl ⟨k,RepN.grow g _ _ q⟩
  exact .inr ⟨k,c,e1,zaF _ m,L.grow (λu h=>s _ _ h) g⟩
 ·rw[Yi,rf,zaY,zaY];exact R.len
 ·rw[wa,zaV hl]
 rw[zaV (by rw[R.len];exact hl)]
section
variable{x:Str}{pos pos':Pos}
def Ds(j:Nat)(te:TD):TQS:=λU Z=>te U λr=>frs2 r/\Z.nx (setS U j (dv r.d))
def G3(j:Nat)(I:j≠l)(V:X.N.Nodup)(O:ED L X e te)(hi:autoParam (X.N[j]?=some x) zSr)(D:Loc X.env.scope x:=by first|exact Or.inl rfl|exact Or.inr rfl)(G:autoParam (swapsWith e (some (.Name x pos')) pos.line X.env=pure false) zSr)(es:X.fn x=true\/X.env.scope.names.lookup x=some .local:=by first|exact .inl rfl|exact .inr rfl|assumption):QS L l X (.Assign [.Name x pos'] e pos) (Ds j te):=λH_=>impS (gf V hi D (O H_) G es) λDz Y H h=>by
 obtain⟨U,o,A,d,v,ds,Z,Q,u,k2,k3,k4⟩:=h;refine⟨U,o,ds.R,_,Q,λw r H1 s1 q h1=>?_⟩;obtain⟨B,f,W,fr⟩:=Pz q h1.1;refine u _ _ H1 o A d ((ds.to s1).setR I (Ft.rep _ _ _ (λa k z=>?_) f)) h1.2;rcases zas.mp z with z|z
 ·exact ds.R.ofree (fr a k) z
 obtain⟨y,g,_⟩:=Ft.dom _ _ _ ds.ft a z;rw[fr a k]at g;cases g
end
def at_0{α:Type}(a:α)(r:List α):atI (a::r) (0:Int)=some a:=by
 unfold atI ixN;rw[zaK aB,zaK (by rw[zLc];lia)]
 rfl
def Oy(rs us:List D)(h:us≠[]):cutD (rs++us) (some (-(us.length:Int))) none=us/\cutD (rs++us) none (some (-(us.length:Int)))=rs:=by
 have a:=List.length_pos_iff.mpr h;have e:ZZ.sIx (rs++us).length 0 (some (-(us.length:Int)))=rs.length:=by
  unfold ZZ.sIx;simp only[zLa];rw[zaK aD]
  lia
 have e2:ZZ.sIx (rs++us).length (rs++us).length (some (-(us.length:Int)))=rs.length:=by
  unfold ZZ.sIx;simp only[zLa];rw[zaK aD]
  lia
 refine⟨?_,?_⟩
 ·unfold cutD;rw[e];rw[List.drop_left];show us.take ((rs++us).length-rs.length)=us;rw[zLa];exact zbS aD
 unfold cutD;rw[e2];show(rs++us).take (rs.length-0)=rs;rw[Nat.sub_zero,List.take_left]
def L8(n:Nat):ixN (n+1) (-1:Int)=some n:=by
 unfold ixN;rw[zaJ aB,zaK aD]
 congr 1
 lia
def U7:Manifest.owners.lookup (String.ofList ['d','e','s','r','e','v','e','r'].reverse)=some Manifest.sig_reversed:=by kernel_rfl
def fu:Slot "reversed" "__next__" "reversed.__next__" :=
 .of (owner:="reversed") (n:="__next__") (by rw[zeU,zdI];kernel_rfl) aF aF aF
  (by first|exact .inl aF|exact .inr aF) (by rw[isSubtype_type];kernel_rfl)
def U8:entryFor table "reversed.__next__" = some Builtin.«reversed.__next__»:=entryFor_of_tree (by kernel_rfl)
def Qd(a:Value):argsOk "reversed.__next__" ⟨[a],[]⟩:=by
 unfold argsOk;rw[signature?_of (id:="reversed.__next__") (n:=['_','_','t','x','e','n','_','_']) (o:=['d','e','s','r','e','v','e','r']) (by kernel_rfl) U7];kernel_rfl
def Qa:Slot "reversed" "__iter__" "reversed.__iter__" :=
 .of (owner:="reversed") (n:="__iter__") (by rw[zeU,zdI];kernel_rfl) aF aF aF
  (by first|exact .inl aF|exact .inr aF) (by rw[isSubtype_type];kernel_rfl)
def Nw(a:Value):argsOk "reversed.__iter__" ⟨[a],[]⟩:=by
 unfold argsOk;rw[signature?_of (id:="reversed.__iter__") (n:=['_','_','r','e','t','i','_','_']) (o:=['d','e','s','r','e','v','e','r']) (by kernel_rfl) U7];kernel_rfl
def Qb:entryFor table "reversed.__iter__" = some Builtin.«dict_keyiterator.__iter__» :=
 entryFor_alias (id':="dict_keyiterator.__iter__") (by kernel_rfl) (by first|rfl|decide +kernel|(unfold String.splitOn;simp +decide [String.splitOnAux])) aF (by kernel_rfl)
def Nv:typeLookup (.type "tuple") "__reversed__" = pure none:=by rw[zeU,zdI];kernel_rfl
def Q9:isSubtype (.type "tuple") (.type "dict")=pure false:=by rw[isSubtype_type];kernel_rfl
def Hz:Slot "reversed" "__init__" "object.__init__" :=
 .of (owner:="object") (n:="__init__") (by rw[zeU,zdI];kernel_rfl) aF aF aF
  (by first|exact .inl aF|exact .inr aF) (by rw[isSubtype_type];kernel_rfl)
def Qc:TypeCalled "reversed" "reversed.__new__" "object.__init__":=⟨by decide +kernel,F.create_reversed,⟨_,_,F.mro_reversed⟩,F.made_reversed,F.plain_reversed_new,F.sub_reversed_self,Hz⟩
noncomputable def Dj(l:Addr)(i:Int):Obj:={cls:=.type "reversed",data:=.fields #[.ref l,rawInt i]}
def RtIt(h:Heap)(a l:Addr)(i:Int):Prop:=∃o,h.get? a=some o/\o.cls=.type "reversed"/\o.data=.fields #[.ref l,rawInt i]
def RtIt.typeIs{s:Shared}{a l:Addr}{i:Int}(x:RtIt s.heap a l i):s.TypeIs (.ref a) "reversed":=let ⟨o,ho,hc,_⟩:=x;⟨o,ho,hc⟩
def RtIt.at{h h':Heap}{a l:Addr}{i:Int}(x:RtIt h a l i)(e:∀ o,h.get? a=some o->h'.get? a=some o):RtIt h' a l i:=let ⟨o,ho,r⟩:=x;⟨o,e _ ho,r⟩
def Dh(l:Addr)(items:Array Value)(d:(items.size:Int)<2 ^ 63) :
  Meets (Builtin.«reversed.__new__» ⟨[.type "reversed",.ref l],[]⟩) (λ_ R s=>IsTup s.heap l items/\R (.ok (.ret (.ref s.heap.objs.size))) {s with heap:=s.heap.push (Dj l ((items.size:Int)-1)),toks:=s.toks+1+1}) :=
 .of_wp λprog w A R s h=>by
  obtain⟨e,h⟩:=h;unfold Builtin.«reversed.__new__»;refine zaa (zeK (newClass_reversed _) ?_)
  try dsimp only
  refine zaa (zeK (a:=()) (by first|rfl|kernel_rfl) ?_)
  refine zaa (zeK (a:=()) (by first|rfl|kernel_rfl) ?_)
  try dsimp only
  refine zaa (zfV e.typeIs Nv ?_)
  try dsimp only
  refine zaa ?_;show wpAny _ _ (isInstance (.ref l) (.type "dict") >>= _) _ _ s;refine zaa (zfO e.typeIs Q9 ?_);rw[zaJ zaU];refine zaa (zfV e.typeIs F.slot_tuple_getitem.lookup ?_);show wpAny _ _ (if (["tuple.__getitem__","str.__getitem__","bytes.__getitem__","bytearray.__getitem__","memoryview.__getitem__","numpy.ndarray.__getitem__","sqlite3.Row.__getitem__"].contains "tuple.__getitem__")=true then _ else _) _ _ s
  rw[zaK aB]
  refine zab ?_;rw[zaJ aB]
  refine zaa (len_tuple e d ?_);refine zaa (zeK (a:=some ((items.size:Int))) rfl ?_);refine zaa ?_;show wpAny _ _ (newObj (Value.type "reversed") (.fields #[Value.ref l,rawInt ((items.size:Int)-1)])) _ _ _;exact zbR (zab ⟨_,rfl,h⟩) (by size_fits)
def Hy{it l:Addr}{i:Nat}{items:Array Value}{x:Value}{Q:Option Value->Shared->Prop}(k:(items.size:Int)<2 ^ 63)(d:RtIt s.heap it l (i:Int))(hl:IsTup s.heap l items)(g:items[i]?=some x)(q:∀ h',RtIt h' it l ((i:Int)-1)->Heap.SameBut it s.heap h'->Q (some x) {s with heap:=h',toks:=s.toks+1}):wpAny (model prog w) A (pyNext (.ref it)) Q xs s:=by
 obtain⟨o,ho,r,e⟩:=id d;have hi:i<items.size:=(Array.getElem?_eq_some_iff.mp g).1;unfold pyNext;refine zaa (zeD (zbC (name:=Str.ofString "__next__") d.typeIs fu
  (zbK fu d.typeIs U8 ?_ (Qd _))))
 unfold Builtin.«reversed.__next__»;refine zaa (zeK (a:=(Value.ref it,[])) rfl ?_)
 try dsimp only
 refine zaa (zbB ho e (x:=.ref l) rfl ?_);refine zaa (zbB ho e (x:=rawInt (i:Int)) rfl ?_);show wpAny _ _ (if (i:Int)<0 then _ else _) _ _ s
 rw[zaJ aD]
 refine zaa (zfV hl.typeIs F.slot_tuple_getitem.lookup ?_);show wpAny _ _ (if (Option.isNone (some (Value.builtin "tuple.__getitem__")))=true then _ else _) _ _ s
 rw[zaJ aB]
 refine zaa (wpAny_mkInt ?_);refine zaa (zeD (PyProof.Rows.getItem_tuple (s:={s with toks:=s.toks+1}) hl aD aD (j:=i) ?_ g ?_))
 ·exact seqIndex_of aD aD
 refine zaa (zbB (s:={s with toks:=s.toks+1}) ho e (x:=rawInt (i:Int)) rfl ?_);show wpAny _ _ (setField (.ref it) 1 (rawInt ((i:Int)-1)) >>= _) _ _ _;refine zaa (zfE (s:={s with toks:=s.toks+1}) ho e aE ?_)
 first
 |refine zab ⟨x,rfl,zab (q _ ?_ (zcJ ..))⟩
 |refine zaa (zab (zab ⟨x,rfl,zab (q _ ?_ (zcJ ..))⟩))
 exact⟨_,zdZ _ ho (zfH (zdG e _)),(Obj.cls_mapFields ..).trans r,by
  rw[zdG e];simp⟩
def Di{it l:Addr}{Q:Option Value->Shared->Prop}(g:A.handled=none)(d:RtIt s.heap it l (-1))(j:∀ h',Heap.ExtBut it s.heap h'->Q none {s with heap:=h'}):wpAny (model prog w) A (pyNext (.ref it)) Q xs s:=by
 obtain⟨o,ho,k,e⟩:=id d;unfold pyNext;refine zaa (zeD (zbC (name:=Str.ofString "__next__") d.typeIs fu
  (zbK fu d.typeIs U8 ?_ (Qd _))))
 unfold Builtin.«reversed.__next__»;refine zaa (zeK (a:=(Value.ref it,[])) rfl ?_)
 try dsimp only
 refine zaa (zbB ho e (x:=.ref l) rfl ?_);refine zaa (zbB ho e (x:=rawInt (-1)) rfl ?_);show wpAny _ _ (if (-1:Int)<0 then _ else _) _ _ s
 rw[zaK aB]
 refine zaa (zfR ?_);refine zaa ?_;show wpAny _ _ (setField (.ref it) 1 (rawInt (-1)) >>= _) _ _ _;refine zaa (zfE ho e aE ?_)
 have g1:=zdZ (h:=s.heap) (Obj.mapFields (·.setIfInBounds 1 (rawInt (-1)))) ho (zfH (zdG e _));have d1:(Obj.mapFields (·.setIfInBounds 1 (rawInt (-1))) o).data=_:=zdG e _;refine zfE g1 d1 aE ?_
 refine zaa ?_;show wpAny _ _ (newExc (.type "StopIteration") [] >>= _) _ _ _;refine zaa ?_;simp only[newExc,newTuple];refine zaa (zbR ?_ (by size_fits))
 refine zaa (m:=firstArgMember _ _) (zeK (a:=Value.none) (by first|rfl|(simp only[firstArgMember];rfl)) ?_)
 refine zbR ?_ (by size_fits)
 simp only[raiseNew];refine zaa (wpAny_handled ?_)
 first|rw[show A.in1.handled=none from g]|rw[g]
 refine zaa (zab (wpAny_throw ?_));refine zaa (zfO (T:="StopIteration") (b:=true) ⟨_,zad _ rfl,rfl⟩ isSubtype_stop ?_);refine zab (j _ ?_);exact((((zcJ ..).trans (zcJ ..)).extBut).push _).push _
def Q8{it l:Addr}{i:Int}{Q:Value->Shared->Prop}(a:RtIt s.heap it l i)(h:Q (.ref it) s):wpAny (model prog w) A (pyIter (.ref it)) Q xs s:=by
 refine wpAny_pyIter_slot a.typeIs Qa (zbK Qa a.typeIs Qb ?_ (Nw _));show wpAny _ _ (ret (.ref it)) _ _ s;exact zab ⟨_,rfl,"reversed",_,a.typeIs,fu.lookup,h⟩
noncomputable def Itbt(K:W.Frag)(a:Addr)(n:Nat):It:=⟨λi H=>(∃E,SqT K H a E/\E.length=n)/\i<n,λi H x H'=>H'=H/\∀E,SqT K H a E->E[n-1-i]?=some x,λi H=>(∃E,SqT K H a E/\E.length=n)/\i=n⟩
def Rk{P:Program}{w:World}{K:W.Frag}{tg:Expr}(a it:Addr)(n:Nat):Turn P w K tg (Itbt K a n) [it] it (λi h=>RtIt h it a ((n:Int)-1-(i:Int))) where
 mem:=by simp
 obj:=λi h st b j=>by
  have e:b=it:=by simpa using j
  subst e;obtain⟨o,e,c,d⟩:=st;exact⟨o,e,λv z=>by rw[d]at z;cases z⟩
 keep:=λi h h' st k=>st.at λo e=>k it aE o e
 item:=by
  intro X B q D hc i pn s Y H xs I l st y;subst B q D;obtain⟨⟨E,r,hl⟩,hi⟩:=y;obtain⟨its,V,p,hz⟩:=I.tuple r;obtain⟨x,Z⟩:∃x,E[n-1-i]?=some x:=⟨E[n-1-i]' aD,by simp⟩
  obtain⟨u,hu,ru⟩:=V.get Z;obtain⟨O,N,f2,L,es,G⟩:=l it aE
  have R:(n:Int)-1-(i:Int)=((n-1-i:Nat):Int):=by lia
  rw[R]at st;have a4:=kz;have a0:=V.length;refine Hy (by rw[zap];lia) st p (x:=u) (by simpa using hu) λh' g sb=>?_
  have I1:Inv X pn Y H {s with heap:=h',toks:=s.toks+1}:=I.turned (t':=s.toks+1) (λb o j e=>(sb.2 b j).trans e) O N L es G;obtain⟨o,e,c,d⟩:=id g;have Q:((n-1-i:Nat):Int)-1=(n:Int)-1-((i+1:Nat):Int):=by lia
  rw[Q]at g;exact⟨u,rfl,Pw (s:={s with heap:=h',toks:=s.toks+1}) e c d aB ⟨x,H,I1,ru,⟨rfl,λys hy=>by rw[I.tuple_inj hy r];exact Z⟩,g,λb j=>(l b j).1⟩⟩
 done:=by
  intro X B q D hc i pn s Y H xs I l st y;subst B q D;obtain⟨⟨E,r,hl⟩,hi⟩:=y;obtain⟨O,N,f2,L,es,G⟩:=l it aE
  have R:(n:Int)-1-(i:Int) = -1:=by lia
  rw[R]at st;exact Di (I.ok.hd hc) st λh' eb=>⟨rfl,I.turned (t':=s.toks) (λb o j e=>eb b o j e) O N L es G⟩
 self:=λ_ _ _ _ _ st h=>Q8 st h
def z1s(K:W.Frag)(ta:TA):TI:=λY H R=>ta Y H λvs H1=>∃l E,vs=[.ref l]/\SqT K H1 l E/\R (Itbt K l E.length) H1
def Gm{X:Cx}{tg a:Expr}{ta:TA}{p pos:Pos}(x:Gl X "reversed")(v:X.mg "reversed" = none)(B:PA X [a] ta)(y:autoParam (starEach [a] X.env=(false,eval a X.env)::starEach [] X.env) zSr):PI X tg (.Call (.Name "reversed" p) [a] [] pos) (z1s X.K ta):=by
 intro pn s Y H R I h;refine zcL (jc I x v bo ?_ aB aB)
 refine zbL (thn (B pos pn s Y H _ I h) λus s1 Zh=>?_) y (by rfl)
 obtain⟨vs,H1,d,r,l,E,e,e1,q⟩:=Zh;subst e;obtain⟨u,rfl,k⟩:=kg r;cases k;obtain⟨its,j,pl,G⟩:=d.tuple e1;have hl:=j.length;have D:=kz;refine callType_new Qc aB (F.typeCall_reversed_1 _) (F.newCall_reversed_1 _) (λg=>F.args_object_init_2 g _) F.entry_reversed_new (Dh l its.toArray (by rw[zap];lia)) ⟨pl,?_⟩
 have st:RtIt (s1.heap.push (Dj l ((its.toArray.size:Int)-1))) s1.heap.objs.size l ((E.length:Int)-1-((0:Nat):Int)):=by
  refine⟨_,zad _ rfl,rfl,?_⟩;show Data.fields #[.ref l,rawInt ((its.toArray.size:Int)-1)]=_;rw[show((its.toArray.size:Int)-1)=(E.length:Int)-1-((0:Nat):Int) by rw[zap];lia]
 refine⟨⟨_,zad _ rfl,rfl⟩,?_⟩;refine Q8 st ?_;refine⟨s1.heap.objs.size,[s1.heap.objs.size],_,_,H1,rfl,d.kept (t':=s1.toks+1+1) λb o e=>zac _ e,Rk l _ E.length,st,λb z=>?_,q⟩;have e:b=s1.heap.objs.size:=by simpa using z
 subst e;exact d.fpOk (zaj _) (d.hok.fresh (zaj _))
def iBT(t:TDs):TID:=λU M=>t U λrs=>match rs with
 | [r]=>(match r.k with|.own=>False|_=>True)/\(match r.d with
  |.tup l=>M l.reverse
  | _=>False)
 |_=>False
def Fe{K:W.Frag}{l:Addr}{S:List D}:ItD K (Itbt K l S.length) S.reverse (λH O=>Rep K H O (.tup S) (.ref l)) where
 go:=λH O i d j e=>by
  obtain⟨a,E,k,q,r⟩:=j;cases k;have hi:i<S.length:=by have:=(zag.mp e).1;simpa using this
  rw[List.getElem?_reverse hi]at e;obtain⟨v,z,u⟩:=r.get e;refine⟨⟨⟨E,q.1,r.length⟩,hi⟩,λx H' y=>?_⟩;obtain⟨e1,y⟩:=y;subst e1;have:=y E q.1;rw[z]at this;cases this;exact⟨Same.refl _,u⟩
 stop:=λH O j=>by
  obtain⟨a,E,k,q,r⟩:=j;cases k;exact⟨⟨E,q.1,r.length⟩,by rw[zaH]⟩
 keep:=λO O' H H' j g=>RepN.grow g _ _ j
def W6{tg a:Expr}{t:TDs}{p pos:Pos}(x:X.mg "reversed" = none)(B:EA L X [a] t)(y:autoParam (Gl X "reversed") zSr)(z:autoParam (starEach [a] X.env=(false,eval a X.env)::starEach [] X.env) zSr):EI L X tg (.Call (.Name "reversed" p) [a] [] pos) (iBT t):=λH_=>impI (Gm y x (B H_) z) λY H R q=>by
 obtain⟨U,o,D,M,g,k⟩:=q;refine⟨U,o,D,_,g,λvs rs H1 s1 e h1=>?_⟩;split at h1
 ·rename_i r;obtain⟨v,h1⟩:=h1;obtain⟨G,w1,rfl,u,rfl⟩:=e;have j:=u.solid (uf v);obtain⟨kd,d⟩:=r;cases d with
  |tup l =>
   obtain⟨a,E,rfl,q,r⟩:=id j;refine⟨a,E,rfl,q.1,?_⟩;rw[r.length];exact k _ _ _ H1 s1 Fe j h1
  |_=>exact h1.elim
 exact h1.elim
section
variable{ns ps:List Str}{m:Str}{T:FT}{t:TDs}{k:Nat}{J:List Expr}{pos:Pos}
structure FMD(P:Program)(w:World)(K:W.Frag)(mg:Str->Option Value)(base:Heap)(k:Nat)(C:Addr)(ns:List Str)(m:Str)(ps:List Str)(T:FT):Prop where
 ex:∃f fd,FnOk P w K mg base CX0 k f fd ps (spD K ps.length T)/\um K fd ps []/\Meth K C m f
 no:m∉ns
def An(n:Nat)(C:Addr)(ns:List Str)(T:FT)(te:TD)(t:TDs):TD:=λU M=>te U λr=>(∃S,r.d=.ob C ns S)/\t U λrs=>Nat.beq (rs.length+1) n=true/\T (r.d::rs.map EV.d) M
def Oi{pl:Sem Bool}(O:CO X.K C ns)(F:FMD X.prog X.w X.K X.mg X.base k C ns m ps T)(hr:Room k X.A)(ho:ED L X o te)(W:EA L X (e::J) t)(x:autoParam (S_ X e J) zSr)(y:autoParam (B_ X J pos) zSr)(N:autoParam (eval (.Call (.Attribute o m apos) (e::J) [] pos) X.env=(do
   let B <- eval o X.env
   standAt apos.atName
   let (f,first) <- holding [B] (getMethod B m pl)
   callWith pos f first (backTo pos (starEach (e::J) X.env)) (backToKw pos (keywordEach [] X.env)))) zSr) :
  ED L X (.Call (.Attribute o m apos) (e::J) [] pos) (An ps.length C ns T te t):=λH_=>by
 obtain⟨f,fd,ok,b,V⟩:=F.ex;refine impE (Qt (ho H_) O.cl V ok hr b .nil Xg (W H_) x y N) λY H Q q=>?_;obtain⟨U,o,R,M,l,k⟩:=q;refine⟨U,o,R,_,l,λv r H1 s1 I h1=>?_⟩;obtain⟨⟨S,ed⟩,h1⟩:=h1;have z:=I.view;obtain⟨kd,d⟩:=r;cases ed;have D:Rep X.K H1 [] (.ob C ns S) v:=z.rep0;obtain⟨a,dx,E,rfl,q,_,ln,nd,rr⟩:=z;refine⟨a,dx,_,rfl,q,ky F.no,U,o,R.to s1,_,h1,λvs rs H2 s2 g h2=>?_⟩;show spD X.K ps.length T (.ref a::(vs++[])) H2 Q E0;rw[zaX];refine⟨.ob C ns S::rs.map EV.d,M,by rw[zLc,zLm];exact zdF h2.1,⟨_,_,rfl,RepN.grow (Grow.same s2) _ _ D,g.reps0⟩,h2.2,λu es H3 G j pr Z=>?_⟩
 exact k u es H3 ((s1.trans s2).trans G) (RV.start (j.lift pr λa e=>R.ofree ((s1.trans s2).free e)) (s1.trans s2)) Z
def A6{P:Program}{w:World}{K:W.Frag}{mg:Str->Option Value}{base:Heap}{x a m:Str}{st:Stmt}{f:Addr}{fd:FuncData}{N ps:List Str}{k:Nat}{T:FT}{C:Addr}{ns:List Str}(F:Fun K x a st f fd)(ds:zo N ps (zd st))(b:um K fd ps [])(g:Meth K C m f)(e:m∉ns)(d:∀ (qZ:Value) (A:Around) (outer:List Env) (s:Shared) (H:Hp) (xs:XK) (S:List D) (M:EV->Prop),Room k (A.deeper (envOfC a (zd st) s.heap.objs.size f qZ))->S.length=ps.length->T S M ->
   ∃ t,SDs (λ_=>True) (cxOf CX0 P w K mg base N a (zd st) f qZ A outer s H xs).nox (yu st) t/\t (wo N.length S) {nx:=λ_=>M (dv .non),rt:=λr=>qm r/\M r}):FMD P w K mg base (k+1) C ns m ps T :=
 ⟨⟨f,fd,O2 F ds d,b,g⟩,e⟩
end
structure FunV(K:W.Frag)(x qual:Str)(st:Stmt)(f:Addr)(v:Value)(fd:FuncData):Prop where
 ex:∃(T:Addr)(oT:Obj)(n:Nat)(oc:Value)(od:Option Addr)(kV doc pm:Value)(an:Option Addr)(qZ ct:Value)(osl:Array (Option Value)),
  fd=W.fnOf x qual (vf st) (yu st) (zd st) (.ref T) kV doc pm an qZ ct/\K.lookup f=some ⟨oc,od,.func fd,osl⟩/\W.codeIn K qZ qual=true/\K.lookup T=some oT/\oT.data=.seq #[v] n
 kp:W.keepIn K (.ref f)=true
def FunV.ok{x a:Str}{st:Stmt}{f:Addr}{v:Value}{fd:FuncData}{N ps:List Str}{k:Nat}{sp:Sp}(F:FunV K x a st f v fd)(ds:zo N ps (zd st))(len:∀ vs H Q xs,sp vs H Q xs->vs.length=ps.length)(g:∀ (qZ:Value) (A:Around) (outer:List Env) (s:Shared) (H:Hp) (vs:List V) (Q:VK) (xs:XK),Room k (A.deeper (envOfC a (zd st) s.heap.objs.size f qZ))->sp vs H Q xs ->
   ∃ t,PSs (cxOf CX0 P w K mg base N a (zd st) f qZ A outer s H xs).nox (yu st) t/\t {nx:=λ_ H'=>Q .non H',rt:=Q} (start N vs) H):FnOk P w K mg base CX0 (k+1) f fd ps sp:=by
 obtain⟨T,B,n,z,y,kV,r,u,G,qZ,D,j,rfl,l,e,_⟩:=F.ex;refine Bz l e ds len λA outer s H vs Q xs hr d=>?_;obtain⟨t,h,q⟩:=g qZ A outer s H vs Q xs hr d;exact⟨t,h.nox,q⟩
def FunV.binds{x a:Str}{st:Stmt}{f:Addr}{v:Value}{fd:FuncData}{ps:List Str}{S:List Value}(F:FunV K x a st f v fd)(h:∀ (T:Addr) (kV d e:Value) (j:Option Addr) (qZ g:Value) (us:List Value),(us++S).length=ps.length->∃ k:Option (Array Value)->Sem (List (Str×Value)),bindArgs (W.fnOf x a (vf st) (yu st) (zd st) (.ref T) kV d e j qZ g) ⟨us,[]⟩=seqItems? (.ref T) >>= k/\k (some #[v])=pure (ps.zip (us++S))):um K fd ps S:=by
 obtain⟨T,q,n,D,B,kV,d,e,j,qZ,g,l,rfl,G,u,r,y⟩:=F.ex;intro s us z hl;obtain⟨k,h1,h2⟩:=h T kV d e j qZ g us hl;exact .of_defaults (T:=T) (o:=q) (items:=#[v]) (n:=n) rfl (z _ _ r) y h1 h2
structure FDV(P:Program)(w:World)(K:W.Frag)(mg:Str->Option Value)(base:Heap)(k:Nat)(x:Str)(ps:List Str)(c:Int)(T:FT):Prop where
 ex:∃f fd t,FnOk P w K mg base CX0 k f fd ps (spD K ps.length T)/\um K fd ps [.int c t]/\W.keepIn K (.ref f)=true/\mg x=some (.ref f)
section
variable{x:Str}{ps:List Str}{T:FT}{k:Nat}{J:List Expr}{t:TDs}{p pos:Pos}{c:Int}
def Jr(n:Nat)(c:Int)(T:FT)(t:TDs):TD:=λU M=>t U λrs=>Nat.beq (rs.length+1) n=true/\T (rs.map EV.d++[.int c]) M
def Ly(F:FDV X.prog X.w X.K X.mg X.base k x ps c T)(hr:Room k X.A)(I:EA L X (e::J) t)(D:autoParam (Gl X x) zSr)(u:autoParam (D_ x) zSd)(G:autoParam (S_ X e J) zSr)(l:autoParam (B_ X J pos) zSr):ED L X (.Call (.Name x p) (e::J) [] pos) (Jr ps.length c T t):=λH_=>by
 obtain⟨f,fd,tk,ok,b,z,m⟩:=F.ex;refine impE (V1 ok hr D m z b (dvs:=[.int c]) (.cons ⟨tk,rfl⟩ .nil) Xg (I H_) u G l) λY H Q q=>?_;obtain⟨U,o,R,M,j,B⟩:=q;refine⟨U,o,R,_,j,λvs rs H1 s1 g h1=>?_⟩;show spD X.K ps.length T (vs++[.int c]) H1 Q E0;refine⟨rs.map EV.d++[.int c],M,by rw[zLa,zLm];exact zdF h1.1,g.reps0.append (zj.one (show Rep X.K H1 [] (.int c) (.int c) from rfl)),h1.2,λv r H2 s2 y pr h2=>?_⟩
 exact B v r H2 (s1.trans s2) (RV.start (y.lift pr λa e=>R.ofree (s1.free e)) s1) h2
end
def By{g m:Str}{st s0 s1 s2 s3 s4:Stmt}{f C:Addr}{fd:FuncData}{N ps:List Str}{k nI nM l:Nat}{T:FT}{TI:FTQ}{TM:FTR}{ns:List Str}{as1:List Expr}(c0:∀ {sp:Sp},(∀ vs H Q xs,sp vs H Q xs->vs.length=ps.length)->(∀ (qZ:Value) (A:Around) (outer:List Env) (s:Shared) (H:Hp) (vs:List V) (Q:VK) (xs:XK),Room k (A.deeper (envOfC g (zd st) s.heap.objs.size f qZ))->sp vs H Q xs ->
   ∃ t,PSs (cxOf CX0 P w K mg base N g (zd st) f qZ A outer s H xs).nox (yu st) t/\t {nx:=λ_ H'=>Q .non H',rt:=Q} (ZZ.start N vs) H)->FnOk P w K mg base CX0 (k+1) f fd ps sp)(no:m∉ns)(hb:yu st=[s0,s1,s2,s3,s4])(lM:nM=1)(qY:∀ (qZ:Value) (A:Around) (outer:List Env) (s:Shared) (H:Hp) (xs:XK) (S:List D) (M:EV->Prop),Room k (A.deeper (envOfC g (zd st) s.heap.objs.size f qZ))->S.length=ps.length->T S M ->
   ∃ t0 ta t2 t3,SD (λ_=>True) (cxOf CX0 P w K mg base N g (zd st) f qZ A outer s H xs).nox s0 t0/\EA (λ_=>True) (cxOf CX0 P w K mg base N g (zd st) f qZ A outer s H xs).nox as1 ta /\
    (∀ {t:TA},PA (cxOf CX0 P w K mg base N g (zd st) f qZ A outer s H xs).nox as1 t->PS (cxOf CX0 P w K mg base N g (zd st) f qZ A outer s H xs).nox s1 (tAsg (Zs C (spQ K nI TI) [] E0 t) (u9 l))) /\
    QS (λ_=>True) l (cxOf CX0 P w K mg base N g (zd st) f qZ A outer s H xs).nox s2 t2/\QS (λ_=>True) l (cxOf CX0 P w K mg base N g (zd st) f qZ A outer s H xs).nox s3 t3 /\
    PS (cxOf CX0 P w K mg base N g (zd st) f qZ A outer s H xs).nox s4 (tRet (Nj C m (spR K nM TM) [] E0 (tVar l) tNil)) /\
    t0 (wo N.length S) {nx:=λU=>l<U.length/\ta U λrs=>(∀ r∈rs,r.k≠.own)/\rs.length+1=nI/\TI (.ob C [] []) (rs.map EV.d) λr0 d=>r0=.non/\t2 (setS U l (dv d)) {nx:=λa4=>t3 a4 {nx:=λa0=>∃ S,slot a0 l=some (dv (.ob C ns S))/\TM (.ob C ns S) [] λe=>M ⟨.new,e⟩,rt:=λ_ _=>False},rt:=λ_ _=>False},rt:=λ_=>False}):FnOk P w K mg base CX0 (k+1) f fd ps (spD K ps.length T):=by
 refine c0 (λvs H Q xs h=>?_) (λqZ A outer s H vs Q xs hr h=>?_)
 ·obtain⟨S,M,hl,r,_⟩:=h;rw[r.length,hl]
 obtain⟨S,M,hl,r,hT,kk⟩:=h;obtain⟨t0,ta,t2,t3,h0,W,h1,h2,h3,h4,hq⟩:=qY qZ A outer s H xs S M hr hl hT;rw[hb];refine⟨_,vh (h0 ⟨H,zaA⟩) (vh (h1 (W ⟨H,zaA⟩)) (vh (h2 ⟨H,zaA⟩) (vh (h3 ⟨H,zaA⟩) (qt h4)))),?_⟩;have R0:=jt (N:=N) (S:=S) (vs:=vs) (H:=H) r;refine⟨_,[],R0,_,hq,λU f0 H1 o1 g1 R1 hn=>?_,λ_ _ _ _ _ _ q=>q.elim,λ_ _ _ _ _ _ q=>q.elim,λ_ _ _ _ _ q=>q.elim⟩;obtain⟨c8,hn⟩:=hn;refine⟨U,o1,R1,_,hn,λus rs H2 y a7 es=>?_⟩;obtain⟨O,R,es⟩:=es;intro v dx x d0 c1;have L:Same H2 (upd (upd H2 dx (.own v)) v (.ins C dx [])):=(y9 d0 _).trans (y9 (by rw[zx (Ne.symm c1)];exact x) _)
 show spQ K nI TI (.ref v::(us++[])) _ _ E0;rw[zaX];have rr:=a7.reps O;have gx:Grow (o1.map Prod.snd) [v] H2 (upd (upd H2 dx (.own v)) v (.ins C dx [])):=⟨λc u j _=>⟨L _ _ j,λz=>by rw[zaE.mp z,x]at j;cases j⟩,λc E j=>L _ _ j,λc ob u j=>L _ _ j⟩
 refine⟨.ob C [] [],rs.map EV.d,.ref v,us,[v],_,rfl,by rw[zLm];exact R,⟨v,dx,[],[],rfl,zk,rfl,zcK,rfl,rfl,rfl⟩,by simp,zj.grow gx _ _ rr,es,λu r0 d H3 A3 g3 d3 b0 e3 f3 a8 I=>?_⟩
 obtain⟨rfl,I⟩:=I;have a6:Same H1 H3:=λc u j=>(g3.keep c u (L _ _ (y _ _ j)) λz=>by rw[zaE.mp z]at j;rw[y _ _ j]at x;cases x).1
 have Y:∀a∈A3,H1 a=none:=λa W=>by
  rcases e3 a W with z|z
  ·rw[zaE.mp z];exact y.free x
  exact y.free (L.free z)
 refine⟨a8,?_⟩;have S3:=ST.make (l:=l) R1 c8 a6 d3 b0 Y;refine⟨_,o1,A3,d,.ref v,S3,_,I,λZ e9 H4 o4 A4 d4 S4 c3=>⟨Z,o4,A4,d4,.ref v,S4,_,c3,λf1 e8 H5 o5 A5 d5 B G=>?_,λ_ _ _ _ _ _ _ q=>q.elim,λ_ _ _ _ _ _ _ q=>q.elim,λ_ _ _ _ _ _ _ _ _ _ _ q=>q.elim⟩,λ_ _ _ _ _ _ _ q=>q.elim,λ_ _ _ _ _ _ _ q=>q.elim,λ_ _ _ _ _ _ _ _ _ _ _ q=>q.elim⟩;obtain⟨J,e6,G⟩:=G;have e5:some (dv d5)=some (dv (.ob C ns J)):=by rw[<- e6];exact(wn B.hd).symm
 cases e5
 obtain⟨a5,e7,f2,B5,e4,q5,f5,f4,f8,r5⟩:=id B.ft;refine⟨.ref v,B.hv,a5,e7,_,e4,q5,ky no,?_⟩;show spR K nM TM (.ref v::([]++[])) H5 Q E0;refine⟨_,[],.ref v,[],A5,_,rfl,by rw[lM];rfl,B.ft,B.ndA,rfl,G,λu5 e H6 k6 a9 c2=>?_⟩
 refine kk u5 ⟨.new,e⟩ H6 (λc u j=>k6 c u (B.Q.same _ _ j) λz=>by have z2:H c=none:=B.frA c z;rw[z2]at j;cases j) (RepN.to (Same.refl _) (λa W=>⟨by simp,?_⟩) _ _ a9) trivial c2
 exact W.elim (B.frA a) λz=>B.Q.same.free z
def gT5(i j l m n:Nat):TGD:=λd U G=>match d with
 |.tup [a,b,c,e,f]=>G (setS (setS (setS (setS (setS U i (dv a)) j (dv b)) l (dv c)) m (dv e)) n (dv f))
 |_=>False
def Fj{K:W.Frag}(i j l m n:Nat):jp K (gTup K 5 (uz (u9 i) (uz (u9 j) (uz (u9 l) (uz (u9 m) (uz (u9 n) gNil)))))) (gT5 i j l m n):=λH_ H Y U o d v G Q R h a k=>by
 unfold gT5 at a;split at a
 ·obtain⟨p,E,rfl,q,r⟩:=h;obtain⟨y,O,rfl,h1,x,N,rfl,h2,u,L,rfl,D,g,es,rfl,B,e,I,rfl,z,rfl⟩:=r;refine⟨p,_,rfl,q.1,rfl,y,_,rfl,x,_,rfl,u,_,rfl,g,_,rfl,e,_,rfl,rfl,?_⟩;exact k _ _ (((((R.setV i h1).setV j h2).setV l D).setV m B).setV _ z) a
 exact a.elim
noncomputable def stL(E:List V)(k:Int):List V:=E.take 1++V.int k::E.drop 1
variable{E:List V}
def Hl(a:E.length=3)(k:Int):(stL E k).length=4:=by
 unfold stL;rw[zLa,zLc,zaZ,zcE];lia
def Rz(I:Inv X pn Y H s)(h:H a=some (StO a E)):E.length=3/\∃k:Int,0<=k/\Inv X pn Y (upd H a (.lst (stL E k))) s:=by
 obtain⟨⟨d,k,its,n,g,vs,e⟩,_⟩:=(show we X.prog X.w H s.heap a (StO a E) from I.hok a _ h);refine⟨d,k,g,?_⟩;exact I.write (t':=s.toks) (h':=s.heap) (x:=a) (e:=a) (o:=.lst (stL E k)) (by rw[h];exact zcR) (.inl rfl) (λ_ _ _ z=>z) ⟨_,e⟩ (show we X.prog X.w _ s.heap a (.lst _) from⟨by rw[Hl d,zbH];lia,its,n,vs,e⟩)
def Zx{k:Int}(I:Inv X pn Y H s)(h:H a=some (.lst (stL E k)))(g:E.length=3)(d:0<=k):Inv X pn Y (upd H a (StO a E)) s:=by
 obtain⟨z,its,n,vs,e⟩:=(show we X.prog X.w H s.heap a (.lst (stL E k)) from I.hok a _ h);exact I.write (t':=s.toks) (h':=s.heap) (x:=a) (e:=a) (o:=StO a E) (by rw[h];exact zcR) (.inl rfl) (λ_ _ _ z=>z) ⟨_,e⟩ ⟨⟨g,k,its,n,d,vs,e⟩,⟨_,e⟩,λh1 h2 ⟨g,k,its,n,d,vs,e⟩ q=>⟨g,k,its,n,d,vs,q _ e⟩⟩
def z1m:IxR X (λx y H Q=>∃a E j v,x=.ref a/\H a=some (StO a E)/\y=.int j/\(∀k,E.length=3->atI (stL E k) j=some v)/\Q v H):=by
 intro value d pn s Y H x y v u Q I z r h G;obtain⟨a,E,j,w,rfl,l,rfl,es,q⟩:=h;obtain⟨g,k,D,L⟩:=Rz I l;refine thn (sw value d pn s Y _ (.ref a) (.int j) v u (λe H'=>e=w/\H'=upd H a (.lst (stL E k))) L z r ⟨a,_,j,w,rfl,rfl,SqL.of zk,es k g,rfl,rfl⟩ G) λO s' Zh=>?_;obtain⟨e,H',N,B,e1,e2⟩:=Zh;subst e1 e2;have:=Zx N zk g D;rw[Eh l]at this;exact⟨e,H,this,B,q⟩
noncomputable def Gk(j:Int)(S:List D):Option D:=if j=0 then S[0]? else if j=2 then S[1]? else if j=3 then S[2]? else none
def len3{l:List V}(h:l.length=3):∃a b c,l=[a,b,c]:=by
 rcases l with _|⟨a,_|⟨b,_|⟨c,_|⟨d,l⟩⟩⟩⟩ <;> first|exact⟨_,_,_,rfl⟩|cases h
def Mf{K:W.Frag}{H:Hp}{O:List Addr}{j:Int}{S:List D}{d:D}{E:List V}(h:Gk j S=some d)(r:Reps K H O S E):∃v,Rep K H O d v/\∀k,E.length=3->atI (stL E k) j=some v:=by
 have g:∀(n:Nat)(d:D),S[n]?=some d->∃v,E[n]?=some v/\Rep K H O d v:=λn d h=>r.get h;unfold Gk at h;have l:∀(v:V)(n m:Nat),E[n]?=some v->(∀k,E.length=3->(stL E k)[m]?=E[n]?)->m<4->∀k,E.length=3->atI (stL E k) (m:Int)=some v:=λv n m e q x k a=>wz aD (by rw[zbD,q k a,e])
 split at h
 ·rename_i z;subst z;obtain⟨v,e,u⟩:=g 0 d h;refine⟨v,u,λk a=>l v 0 0 e (λk a=>?_) aD k a⟩
  obtain⟨_,_,_,rfl⟩:=len3 a;rfl
 split at h
 ·rename_i z;subst z;obtain⟨v,e,u⟩:=g 1 d h;refine⟨v,u,λk a=>l v 1 2 e (λk a=>?_) aD k a⟩
  obtain⟨_,_,_,rfl⟩:=len3 a;rfl
 split at h
 ·rename_i z;subst z;obtain⟨v,e,u⟩:=g 2 d h;refine⟨v,u,λk a=>l v 2 3 e (λk a=>?_) aD k a⟩
  obtain⟨_,_,_,rfl⟩:=len3 a;rfl
 cases h
def dStx(i:Nat)(j:Int):TD:=λU M=>match slot U i with
 | some ⟨.val,.sx S⟩=>(match Gk j S with
  |some d=>M (dv d)
  | none=>False)
 |_=>False
def Ry{K:W.Frag}{H_ H:Hp}{Y:St}{U:DE}{o:List (Nat×Addr)}(R:REnv K H_ H Y U o){i:Nat}{S:List D}(e:slot U i=some ⟨.val,.sx S⟩):∃a E,Y[i]?=some (some (.ref a))/\H a=some (StO a E)/\a∉o.map Prod.snd/\Reps K H (o.map Prod.snd) S E:=by
 obtain⟨v,d,q⟩:=R.slots i _ (Zy.mp e);rcases q with⟨_,a,E,rfl,h,n,r⟩|⟨k,_⟩
 ·exact⟨a,E,d,h,n,r⟩
 cases k
def Jm(i:Nat)(n:Nat){x:Str}{np pos:Pos} {j p2} (D:autoParam (X.N[i]?=some x) zSr) (g:Vis X.env.scope x:=by walk_at "o") (z:autoParam (D_ x) zSd)
  (k:autoParam ((x==("__classdict__" : Str))=false) zSd) (y:g9 (.Constant (.int n) j p2):=by intro _ _;rfl):ED L X (.Subscript (.Name x np) (.Constant (.int n) j p2) pos) (dStx i n):=λH_ =>
 impE (db z1m (uv D g z k) uw y) λY H Q q=>by
  obtain⟨U,es,R,M,e,u⟩:=q;unfold dStx at e;split at e
  ·rename_i S J;split at e
   ·rename_i d I;obtain⟨a,E,G,B,O,r⟩:=Ry R J;obtain⟨v,l,g⟩:=Mf I r;exact⟨.ref a,G,a,E,n,v,rfl,B,rfl,g,u _ (dv d) H (Same.refl H) l e⟩
   exact e.elim
  exact e.elim
def z0u(i:Nat):TDS:=λU Z=>∃(ns:List Int)(S:List D),slot U i=some (dv (.sx (.lst (ns.map D.int)::S)))/\∀c:Int,0<=c->Z.rt (dv (.int c))
noncomputable abbrev stE(x:Str)(n:Int)(p:Pos)(j:Nat)(q r:Pos):Expr:=.Subscript (.Name x p) (.Constant (.int n) j q) r
def Hm(i:Nat){x:Str}{d p2 g p4 p5 p6 W Q p9 q1 q2 q3 G D B q7 q8 q9 r1 r2 r3 r4 r5 r6 r7 r8 r9 s1 s2 s3 s4 s5 s6 t1 t2:Pos} {j1 j2 j3 j4 j5 j6 j7 j8 j9 j0 k1} (a8:X.mg "len" = none) (hN:autoParam (X.N[i]?=some x) zSr) (hv:Vis X.env.scope x:=by walk_at "o")
  (hd:autoParam (D_ x) zSd) (a9:autoParam ((x==("__classdict__" : Str))=false) zSd) (hg:autoParam (Gl X "len") zSr)
  (hm:behindInMarks .Gt (.Call (.Name "len" q3) [stE x 0 G j5 D B] [] q7)=false:=by with_unfolding_all rfl)
  (he:autoParam (starEach [stE x 0 G j5 D B] X.env=(false,eval (stE x 0 G j5 D B) X.env)::starEach [] X.env) zSr) (a7:autoParam ((backTo q7 (starEach [] X.env)).any (·.1)=false) zSr)
  (a6:autoParam (swapsWithSole [stE x 1 d j1 p2 g] (.BinOp (stE x 1 p4 j2 p5 p6) .Add (.Constant (.int 1) j3 W) Q) p9.line X.env=pure false) zSr)
  (hw:autoParam (swappedStores [stE x 1 d j1 p2 g] (.BinOp (stE x 1 p4 j2 p5 p6) .Add (.Constant (.int 1) j3 W) Q) X.env=pure none) zSr)
  (h1:autoParam ((assignEach [stE x 1 d j1 p2 g] X.env).map (·.2)=[assign (stE x 1 d j1 p2 g) X.env]) zSr)
  (ha:∀v,assign (stE x 1 d j1 p2 g) X.env v=(do
   let ov <- holding [v] (eval (.Name x d) X.env)
   let iv <- holding [v,ov] (eval (.Constant (.int 1) j1 p2) X.env)
   standAt g
   holding [v,ov,iv] (setItem ov iv v)
   release [v,ov,iv] []):=by intro _;rfl) :
  SDs L X [.Assign [stE x 1 d j1 p2 g] (.BinOp (stE x 1 p4 j2 p5 p6) .Add (.Constant (.int 1) j3 W) Q) p9,
   .If (.Compare (stE x 1 q1 j4 q2 q8) [.Gt] [.Call (.Name "len" q3) [stE x 0 G j5 D B] [] q7] q9) [.Return (some (.Constant (.int 0) j6 r1)) r2] [] r3,
   .Return (some (.BinOp (.Subscript (stE x 0 r4 j7 r5 r6) (.BinOp (stE x 1 r7 j8 r8 r9) .Sub (.Constant (.int 1) j9 s1) s2) s3) .Mod (.BinOp (.Constant (.int 10) j0 s4) .Pow (.Constant (.int 60) k1 s5) s6) t1)) t2] (z0u i):=λH_ pn s Y H EE I h=>by
 obtain⟨U,o,R,Z,⟨ns,S,J,hZ⟩,_,_,_,k4⟩:=h;obtain⟨a,E,r,hA,na,rp⟩:=Ry R J;obtain⟨v0,r0,rfl,⟨b,ys,rfl,l,nb,rb⟩,rt⟩:=rp;cases Z4 rb;obtain⟨hx,k,k0,I1⟩:=Rz I hA;have a4:b≠a:=λz=>by rw[z,hA]at l;cases l
 have q:∀p:Pos,PE X (.Name x p) _:=λp=>uv hN hv hd a9 (pos:=p);have O:=vh (Xe (S7 Kz (db sw (q p4) (uw (i:=1) (j:=j2) (pos:=p5)) (by intro _ _;rfl) (pos:=p6)) (uw (i:=1) (j:=j3) (pos:=W)) (pos:=Q)) (Qq (q d) (uw (i:=1) (j:=j1) (pos:=p2)) Y0 ha) a6 hw h1 (pos:=p9))
  (vh (Mc (Qk Cp (db sw (q q1) (uw (i:=1) (j:=j4) (pos:=q2)) (by intro _ _;rfl) (pos:=q8)) (Y5 gn hg a8 PySem.boot_len (vz (db sw (q G) (uw (i:=0) (j:=j5) (pos:=D)) (by intro _ _;rfl) (pos:=B)) su he) aB aB he a7 (p:=q3)) hm (pos:=q9)) (qt (Z9 (uw (i:=0) (j:=j6) (pos:=r1)) (pos:=r2))) Y4 (pos:=r3))
  (qt (Z9 (S7 Qz (db sw (db sw (q r4) (uw (i:=0) (j:=j7) (pos:=r5)) (by intro _ _;rfl) (pos:=r6)) (S7 Ku (db sw (q r7) (uw (i:=1) (j:=j8) (pos:=r8)) (by intro _ _;rfl) (pos:=r9)) (uw (i:=1) (j:=j9) (pos:=s1)) (pos:=s2)) (by intro _ _;rfl) (pos:=s3)) (S7 Kv (uw (i:=10) (j:=j0) (pos:=s4)) (uw (i:=60) (j:=k1) (pos:=s5)) (pos:=s6)) (pos:=t1)) (pos:=t2))))
 let D1:Ends:={EE with nx:=λ_ _=>False,bk:=λ_ _=>False,ct:=λ_ _=>False,rt:=λv H2=>∃(c k':Int),v=.int c/\0<=c/\0<=k'/\H2 a=some (.lst (stL (.ref b::r0) k'))/\∀b u,b≠a->H b=some u->H2 b=some u}
 refine thn (O pn s Y _ D1 I1 ?_) λfl s' p=>?_
 ·obtain⟨_,y,z,e⟩:=len3 hx;cases e;have e1:∀m:Int,stL [V.ref b,y,z] m=[.ref b,.int m,y,z]:=λm=>rfl;rw[e1];have es:∀u,upd H a u b=some (.lst (ns.map V.int)):=λu=>by rw[zx a4];exact l
  refine⟨.ref a,r,a,_,1,.int k,rfl,rfl,SqL.of zk,rfl,k,1,rfl,rfl,.ref a,r,a,_,1,1,rfl,rfl,zk,rfl,?_⟩;rw[Rj];refine⟨.ref a,r,a,_,1,.int (k+1),rfl,rfl,SqL.of zk,rfl,.ref a,r,a,_,0,.ref b,rfl,rfl,SqL.of zk,rfl,b,_,rfl,.inl (SqL.of (es _)),k+1,ns.length,rfl,by rw[zLm],_,rfl,?_⟩
  have kp:∀u (c:Addr) (w:HO),c≠a->H c=some w->upd H a u c=some w:=λu c w hc hw=>by rw[zx hc];exact hw
  by_cases hl:(ns.length:Int)<k+1
  ·dsimp only
   rw[zaK (zdT hl)];exact⟨0,k+1,rfl,by lia,by lia,zk,kp _⟩
  dsimp only
  rw[zaJ (by simpa using hl)]
  have hk:k.toNat<ns.length:=by lia
  have b0:(10:Int) ^ (60:Int).toNat≠0:=by decide
  refine⟨.ref a,r,a,_,0,.ref b,rfl,rfl,SqL.of zk,rfl,.ref a,r,a,_,1,.int (k+1),rfl,rfl,SqL.of zk,rfl,k+1,1,rfl,rfl,b,_,k+1-1,.int ns[k.toNat],rfl,rfl,SqL.of (es _),?_,10,60,rfl,rfl,?_,_,_,rfl,rfl,b0,?_⟩
  ·refine wz aD ?_
   rw[zai,show(k+1-1).toNat=k.toNat by lia,zaf hk]
   rfl
  ·exact⟨by decide,by decide,by decide⟩
  exact⟨_,k+1,rfl,zbJ _ aB,by lia,zk,kp _⟩
 cases fl with
 |ret u =>
  obtain⟨v,a0,H2,I2,rv,c,k',rfl,c0,a5,e2,kp⟩:=p;refine⟨.int c,a0,upd H2 a (StO a (.ref b::r0)),Zx I2 e2 hx a5,rv,k4 _ (dv (.int c)) _ (R.same.trans λb u l=>?_) aH (hZ c c0)⟩
  by_cases hba:b=a
  ·subst hba;rw[zk];rw[hA]at l;exact l
  rw[zx hba];exact kp b u hba l
 |next=>obtain⟨_,_,_,f⟩:=p;exact f.elim
 |brk=>obtain⟨_,_,_,f⟩:=p;exact f.elim
 |cont=>obtain⟨_,_,_,f⟩:=p;exact f.elim
def REnv.st{K:W.Frag}{H_ H:Hp}{Y:St}{U:DE}{o:List (Nat×Addr)}(R:REnv K H_ H Y U o){i:Nat}{d e2 f:D}{k:Int}(e:slot U i=some (dO (.lst [d,.int k,e2,f]))) :
  ∃a o' E,E.length=3/\H a=some (.lst (stL E k))/\REnv K H_ (upd H a (StO a E)) Y (setS U i (dv (.sx [d,e2,f]))) o'/\Grow (o.map Prod.snd) (o'.map Prod.snd) H (upd H a (StO a E)):=by
 obtain⟨v,ev,q⟩:=R.slots i _ (Zy.mp e);obtain⟨a,rfl,mem,E,V,rp⟩:∃a,v=.ref a/\(i,a)∈o/\∃E,H a=some (.lst E)/\Reps K H (o.map Prod.snd) [d,.int k,e2,f] E:=by
  rcases q with⟨k,_⟩|⟨_,a,e1,m,c⟩
  ·cases k
  exact⟨a,e1,m,c⟩
 obtain⟨Q,_,rfl,r0,v1,_,rfl,r1,O,_,rfl,r2,N,_,rfl,r3,rfl⟩:=rp;cases (show v1=_ from r1);have sub:∀p∈o.filter (λp=>decide (p.1≠i)),p∈o:=λp x=>(zcV.mp x).1;have ne:∀p∈o.filter (λp=>decide (p.1≠i)),p.2≠a:=λp x z=>by
  have:=Yh R.nda (sub p x) mem z;have I:=zbN (zcV.mp x).2;rw[this]at I;exact I rfl
 have B:∀b∈(o.filter (λp=>decide (p.1≠i))).map Prod.snd,b∈o.map Prod.snd:=λb es=>by
  obtain⟨p,x,e⟩:=zah.mp es;exact zah.mpr ⟨p,sub p x,e⟩
 have a0:a∈o.map Prod.snd:=zah.mpr ⟨_,mem,rfl⟩;have L:a∉(o.filter (λp=>decide (p.1≠i))).map Prod.snd:=λes=>by
  obtain⟨p,x,e⟩:=zah.mp es;exact ne p x e
 have g:Grow (o.map Prod.snd) ((o.filter (λp=>decide (p.1≠i))).map Prod.snd) H (upd H a (StO a [Q,O,N])) :=
  ⟨λb u h n=>⟨by rw[zx (λz=>n (by rw[z];exact a0))];exact h,λz=>n (B b z)⟩,λb ys h=>by rw[zx (λz=>by subst z;rw[V]at h;cases h)];exact h,λb ob u h=>by rw[zx (λz=>by subst z;rw[V]at h;cases h)];exact h⟩
 refine⟨a,_,[Q,O,N],rfl,V,?_,g⟩;have a4:=R.len;exact {
  same:=λb u h=>by
   have es:b≠a:=λz=>by
    subst z;have:=R.fresh _ mem;rw[this]at h;cases h
   rw[zx es];exact R.same b u h
  fresh:=λp x=>R.fresh p (sub p x)
  trk:=λp x=>by rw[zx (ne p x)];exact R.trk p (sub p x)
  mtb:=λp x=>by rw[zx (ne p x)];exact R.mtb p (sub p x)
  nda:=List.Nodup.sublist (List.Sublist.map _ List.filter_sublist) R.nda
  len:=by rw[wa,zaY];exact R.len
  slots:=λj r y=>by
   rw[wa,List.getElem?_set]at y;by_cases hj:i=j
   ·subst hj;rw[zaK rfl]at y;split at y
    ·cases y
     exact⟨.ref a,ev,.inl ⟨rfl,a,[Q,O,N],rfl,zk,L,Q,_,rfl,RepN.grow g _ _ r0,O,_,rfl,RepN.grow g _ _ r2,N,_,rfl,RepN.grow g _ _ r3,rfl⟩⟩
    cases y
   rw[zaJ hj]at y;obtain⟨v,Z,q⟩:=R.slots j r y;refine⟨v,Z,?_⟩;rcases q with⟨k,q⟩|⟨k,b,e1,mb,c⟩
   ·exact .inl ⟨k,RepN.grow g _ _ q⟩
   have G:(j,b)∈o.filter (λp=>decide (p.1≠i)):=zcV.mpr ⟨mb,zdT (Ne.symm hj)⟩;have nb:=ne _ G;refine .inr ⟨k,b,e1,G,?_⟩;obtain⟨kk,d⟩:=r;cases d with
   |lst S=>obtain⟨E,q,r⟩:=c;exact⟨E,by rw[zx nb];exact q,zj.grow g _ _ r⟩
   |dk ks S=>obtain⟨E,q,l,nd,r⟩:=c;exact⟨E,by rw[zx nb];exact q,l,nd,zj.grow g _ _ r⟩
   | _=>exact c.elim}
def sSt(i:Nat)(t:TDS):TDS:=λU Z=>∃(d:D)(k:Int)(e f:D),slot U i=some (dO (.lst [d,.int k,e,f]))/\0<=k/\t (setS U i (dv (.sx [d,e,f]))) Z
def z0t(i:Nat){st:Stmt}{t:TDS}(h:SD L X st t):SD L X st (sSt i t):=λH_ pn s Y H O I q=>by
 obtain⟨U,o,R,Z,⟨d,k,e,f,J,B,es⟩,z,y,x,v⟩:=q;obtain⟨a,o',E,D,G,N,g⟩:=R.st J;refine h H_ pn s Y _ O (Zx I G D B) ⟨_,o',N,Z,es,λl j H2 u g2 R2 r=>z l j H2 u (g.trans g2) R2 r,λl j H2 u g2 R2 r=>y l j H2 u (g.trans g2) R2 r,λl j H2 u g2 R2 r=>x l j H2 u (g.trans g2) R2 r,v⟩
def txD(r:EV):Prop:=(∃z,r=dv (.str z))\/∃zs:List Str,r=df (.lst (zs.map D.str))
theorem Z1{K:W.Frag}{H:Hp}{O:List Addr}:∀{ns:List Str}{E:List V},Reps K H O (ns.map D.str) E->E=ns.map V.str
 |[],_,h=>h
 |n::ns,E,h=>by
  obtain⟨v,r,rfl,q,t⟩:=h;cases (show v=_ from q);rw[Z1 t];rfl
theorem X2{K:W.Frag}{H:Hp}{O:List Addr}:∀(ns:List Str),Reps K H O (ns.map D.str) (ns.map V.str)
 |[]=>rfl
 |n::ns=>⟨_,_,rfl,rfl,X2 ns⟩
def txD.up{K:W.Frag}{H0 H:Hp}{O:List Addr}{r:EV}{v:V}{p:Addr}{u:HO} {kvs} (t:txD r) (h:RV K H0 H O r v) (g:H p=some (.dK kvs)):RV K H0 (upd H p u) O r v:=by
 rcases t with⟨z,rfl⟩|⟨zs,rfl⟩
 ·exact h
 obtain⟨a,rfl,h0,n,E,d,e⟩:=h;cases Z1 e;exact⟨a,rfl,h0,n,_,by rw[zx (λz=>by rw[z,g]at d;cases d)];exact d,X2 zs⟩
section
variable{a1 b1 a2 b2 a3 b3 ix:Expr}{t1 u1 t2 u2 t3 u3 tk:TD}{pos pos2:Pos}
def dPk3(t1 u1 t2 u2 t3 u3 tk:TD):TD:=λU M=>t1 U λa=>u1 U λx=>t2 U λb=>u2 U λy=>t3 U λc=>u3 U λz=>∃z1 z2 z3:Str,a.d=.str z1/\b.d=.str z2/\c.d=.str z3/\z1≠z2/\z1≠z3/\z2≠z3/\txD x/\txD y/\txD z/\tk U λe=>∃w:Str,e.d=.str w/\((w=z1/\M x)\/(w=z2/\M y)\/(w=z3/\M z))
def Jn(hu:X.A.units+64<cLine)(h1:ED L X a1 t1)(g1:ED L X b1 u1)(h2:ED L X a2 t2)(g2:ED L X b2 u2)(h3:ED L X a3 t3)(g3:ED L X b3 u3)(hk:ED L X ix tk)(hs:g9 ix:=by intro _ _;rfl):ED L X (.Subscript (.Dict [some a1,some a2,some a3] [b1,b2,b3] pos) ix pos2) (dPk3 t1 u1 t2 u2 t3 u3 tk):=λH_ =>
 impE (db (V7 aD) (V0 (rq (h1 H_) (g1 H_) (rq (h2 H_) (g2 H_) (rq (h3 H_) (g3 H_) Wz))) rfl rfl aE aE) (hk H_) hs) λY H Q q=>by
  obtain⟨U,o,R,M,c3,k⟩:=q;intro p hp;have g:=y9 hp (HO.dK []);refine⟨U,o,R.to g,_,c3,λv1 r1 H1 s1 b0 a0=>⟨U,o,R.to (g.trans s1),_,a0,λr r2 H2 s2 a9 Z=>⟨U,o,R.to ((g.trans s1).trans s2),_,Z,λv3 r3 H3 x a8 W=>⟨U,o,R.to (((g.trans s1).trans s2).trans x),_,W,λl r4 H4 es a7 O=>⟨U,o,R.to ((((g.trans s1).trans s2).trans x).trans es),_,O,λv5 r5 H5 I a6 N=>⟨U,o,R.to (((((g.trans s1).trans s2).trans x).trans es).trans I),_,N,λj r6 H6 s6 a5 e=>?_⟩⟩⟩⟩⟩⟩;obtain⟨z1,z2,z3,e1,e2,e3,D,B,z,tx,ty,tz,e⟩:=e;have v:H6 p=some (.dK []):=s6 _ _ (I _ _ (es _ _ (x _ _ (s2 _ _ (s1 _ _ zk)))));have w1:v1=V.str z1:=by have:=b0.view;rw[e1]at this;exact this
  have w3:v3=V.str z2:=by have:=a8.view;rw[e2]at this;exact this
  have w5:v5=V.str z3:=by have:=a6.view;rw[e3]at this;exact this
  refine⟨v,[(.inr z1,r),(.inr z2,l),(.inr z3,j)],by rw[w1,w3,w5];rfl,by simp,?_⟩
  have em:sv [] [((.inr z1:Key),r),(.inr z2,l),(.inr z3,j)]=[(.inr z1,r),(.inr z2,l),(.inr z3,j)]:=by
   simp[sv,putK,D,B,z,Ne.symm D,Ne.symm B,Ne.symm z]
  rw[em];have sm:Same H (upd H6 p (.dK [((.inr z1:Key),r),(.inr z2,l),(.inr z3,j)])):=λb u hb=>by
   rw[zx (zp hb hp)];exact s6 _ _ (I _ _ (es _ _ (x _ _ (s2 _ _ (s1 _ _ (g _ _ hb))))))
  refine⟨U,o,R.to sm,_,e,λv7 r7 H7 y a4 d=>?_⟩;obtain⟨w,ew,d⟩:=d;have w7:v7=V.str w:=by have:=a4.view;rw[ew]at this;exact this
  have c2:=(tx.up (((a9.start (g.trans s1)).same (x.trans (es.trans (I.trans s6))))) v (u:=.dK [((.inr z1:Key),r),(.inr z2,l),(.inr z3,j)])).same y;have c1:=(ty.up (((a7.start (g.trans (s1.trans (s2.trans x)))).same (I.trans s6))) v (u:=.dK [((.inr z1:Key),r),(.inr z2,l),(.inr z3,j)])).same y;have c0:=(tz.up (a5.start (g.trans (s1.trans (s2.trans (x.trans (es.trans I)))))) v (u:=.dK [((.inr z1:Key),r),(.inr z2,l),(.inr z3,j)])).same y;have G:=y _ _ (zk (H:=H6) (a:=p) (o:=.dK [((.inr z1:Key),r),(.inr z2,l),(.inr z3,j)]));rcases d with⟨rfl,h⟩|⟨rfl,h⟩|⟨rfl,h⟩
  ·exact⟨p,_,.inr w,r,rfl,G,w7,by simp[valV],k _ _ _ (sm.trans y) c2 h⟩
  ·exact⟨p,_,.inr w,l,rfl,G,w7,by simp[valV,D],k _ _ _ (sm.trans y) c1 h⟩
  exact⟨p,_,.inr w,j,rfl,G,w7,by simp[valV,B,z],k _ _ _ (sm.trans y) c0 h⟩
def dPk2(t1 u1 t2 u2 tk:TD):TD:=λU M=>t1 U λa=>u1 U λx=>t2 U λb=>u2 U λy=>∃z1 z2:Str,a.d=.str z1/\b.d=.str z2/\z1≠z2/\txD x/\txD y/\tk U λe=>∃w:Str,e.d=.str w/\((w=z1/\M x)\/(w=z2/\M y))
def Ag(hu:X.A.units+64<cLine)(h1:ED L X a1 t1)(g1:ED L X b1 u1)(h2:ED L X a2 t2)(g2:ED L X b2 u2)(hk:ED L X ix tk)(hs:g9 ix:=by intro _ _;rfl):ED L X (.Subscript (.Dict [some a1,some a2] [b1,b2] pos) ix pos2) (dPk2 t1 u1 t2 u2 tk):=λH_ =>
 impE (db (V7 aD) (V0 (rq (h1 H_) (g1 H_) (rq (h2 H_) (g2 H_) Wz)) rfl rfl aE aE) (hk H_) hs) λY H Q q=>by
  obtain⟨U,o,R,M,a6,k⟩:=q;intro p hp;have l:=y9 hp (HO.dK []);refine⟨U,o,R.to l,_,a6,λv1 r1 H1 s1 a0 D=>⟨U,o,R.to (l.trans s1),_,D,λj r2 H2 s2 Z B=>⟨U,o,R.to ((l.trans s1).trans s2),_,B,λv3 r3 H3 y W z=>⟨U,o,R.to (((l.trans s1).trans s2).trans y),_,z,λg r4 H4 es O e=>?_⟩⟩⟩⟩;obtain⟨z1,z2,e1,e2,r,tx,ty,e⟩:=e;have v:H4 p=some (.dK []):=es _ _ (y _ _ (s2 _ _ (s1 _ _ zk)));have w1:v1=V.str z1:=by have:=a0.view;rw[e1]at this;exact this
  have w3:v3=V.str z2:=by have:=W.view;rw[e2]at this;exact this
  refine⟨v,[(.inr z1,j),(.inr z2,g)],by rw[w1,w3];rfl,by simp,?_⟩
  have em:sv [] [((.inr z1:Key),j),(.inr z2,g)]=[(.inr z1,j),(.inr z2,g)]:=by
   simp[sv,putK,r,Ne.symm r]
  rw[em];have I:Same H (upd H4 p (.dK [((.inr z1:Key),j),(.inr z2,g)])):=λb u hb=>by
   rw[zx (zp hb hp)];exact es _ _ (y _ _ (s2 _ _ (s1 _ _ (l _ _ hb))))
  refine⟨U,o,R.to I,_,e,λv7 r7 H7 x N d=>?_⟩;obtain⟨w,ew,d⟩:=d;have w7:v7=V.str w:=by have:=N.view;rw[ew]at this;exact this
  have a5:=(tx.up (((Z.start (l.trans s1)).same (y.trans es))) v (u:=.dK [((.inr z1:Key),j),(.inr z2,g)])).same x;have a4:=(ty.up (O.start (l.trans (s1.trans (s2.trans y)))) v (u:=.dK [((.inr z1:Key),j),(.inr z2,g)])).same x;have G:=x _ _ (zk (H:=H4) (a:=p) (o:=.dK [((.inr z1:Key),j),(.inr z2,g)]));rcases d with⟨rfl,h⟩|⟨rfl,h⟩
  ·exact⟨p,_,.inr w,j,rfl,G,w7,by simp[valV],k _ _ _ (I.trans x) a5 h⟩
  exact⟨p,_,.inr w,g,rfl,G,w7,by simp[valV,r],k _ _ _ (I.trans x) a4 h⟩
end
def Ao(i:Nat)(te:TD):TD:=λU M=>te (frzS U i) λr=>(∃J,r=df (.lst J)/\zu J)/\M r
def E5(i:Nat)(x:ED L X e te):ED L X e (Ao i te):=λH_=>impE (x H_) λY H Q q=>by
 obtain⟨U,o,R,M,d,k⟩:=q;obtain⟨o',y,sub⟩:=R.frz1 i;refine⟨frzS U i,o',y,_,d,λv r H' s g h=>?_⟩;obtain⟨⟨J,rfl,l⟩,h⟩:=h;obtain⟨a,rfl,h0,n,E,u,j⟩:=g;exact k _ (df (.lst J)) H' s ⟨a,rfl,h0,R.ofree h0,E,u,zj.pure _ _ l j⟩ h
def spO(K:W.Frag)(n:Nat)(T:FT):Sp:=λvs H Q _=>∃S M,S.length=n/\Reps K H [] S vs/\T S M/\∀v r H',Same H H'->RV K H H' [] r v->M r->Q v H'
structure FO(P:Program)(w:World)(K:W.Frag)(mg:Str->Option Value)(base:Heap)(k:Nat)(x:Str)(ps:List Str)(T:FT):Prop where
 ex:∃f fd,FnOk P w K mg base CX0 k f fd ps (spO K ps.length T)/\um K fd ps []/\W.keepIn K (.ref f)=true/\mg x=some (.ref f)
def P7:DE->Prop
 |[]=>True
 |none::U=>P7 U
 |some r::U=>(match r.k with|.own=>False|_=>True)/\P7 U
theorem Y7:∀{U:DE}{i:Nat}{r:EV},P7 U->U[i]?=some (some r)->r.k≠.own
 |none::U,0,r,h,e=>by simp at e
 |some r'::U,0,r,h,e=>by
  have e:r'=r:=by simpa using e
  subst e;exact uf h.1
 |none::U,i+1,r,h,e=>Y7 (U:=U) (i:=i) h (by simpa using e)
 |some r'::U,i+1,r,h,e=>Y7 (U:=U) (i:=i) h.2 (by simpa using e)
def REnv.less0{K:W.Frag}{H_ H:Hp}{Y:St}{U:DE}{o:List (Nat×Addr)}(R:REnv K H_ H Y U o)(h:P7 U):REnv K H_ H Y U [] :=
 ⟨R.same,λ_ z=>(nomatch z),λ_ z=>(nomatch z),λ_ z=>(nomatch z),zcK,λi r e=>by
  obtain⟨v,a,q|q⟩:=R.slots i r e
  ·exact⟨v,a,.inl ⟨q.1,RepN.sub (λ_ z=>absurd z aE) _ _ q.2⟩⟩
  exact absurd q.1 (Y7 h e),R.len⟩
def Dd(i n:Nat)(T:FT)(t:TDs):TDS:=λU Z=>P7 U/\t U λrs=>Nat.beq rs.length n=true/\T (rs.map EV.d) λr=>Z.nx (setS U i (dv r.d))
section
variable{x y:Str}{ps:List Str}{T:FT}{k:Nat}{J:List Expr}{t:TDs}{p pos pos' pos2:Pos}
def Hu(i:Nat)(hN:X.N.Nodup)(F:FO X.prog X.w X.K X.mg X.base k x ps T)(hr:Room k X.A)(ha:EA L X (e::J) t)(hi:autoParam (X.N[i]?=some y) zSr)(V:Loc X.env.scope y:=by first|exact Or.inl rfl|exact Or.inr rfl)(W:autoParam (swapsWith (.Call (.Name x p) (e::J) [] pos2) (some (.Name y pos')) pos.line X.env=pure false) zSr)(hf:X.fn y=true\/X.env.scope.names.lookup y=some .local:=by first|exact .inl rfl|exact .inr rfl|assumption)(hg:autoParam (Gl X x) zSr)(l:autoParam (D_ x) zSd)(he:autoParam (S_ X e J) zSr)(j:autoParam (B_ X J pos2) zSr):SD L X (.Assign [.Name y pos'] (.Call (.Name x p) (e::J) [] pos2) pos) (Dd i ps.length T t):=λH_=>by
 obtain⟨f,fd,ok,b,O,m⟩:=F.ex;refine impS (gf hN hi V (V1 ok hr hg m O b .nil Xg (ha H_) l he j) W hf) λD Y H h=>?_;obtain⟨U,o,R,Z,B,Q,k2,k3,k4⟩:=h;have G:=R.less0 B.1;refine⟨U,[],G,_,B.2,λvs rs H1 s1 a h1=>?_⟩;show spO X.K ps.length T (vs++[]) H1 _ E0;rw[zaX];refine⟨rs.map EV.d,_,by rw[zLm];exact zdF h1.1,a.reps0,h1.2,λv r H2 s2 I h2=>?_⟩
 have es:Rep X.K H2 [] r.d v:=by
  have:=RVs.reps0 (rs:=[r]) (vs:=[v]) ⟨v,[],rfl,I,rfl⟩;obtain⟨v',ws,e,q,_⟩:=this;cases e;exact q
 obtain⟨o',R',g⟩:=G.put (r:=dv r.d) (s1.trans s2) i es (λz=>(nomatch z));exact Q _ _ H2 o' (Grow.trans ⟨λb u h n=>⟨h,λz=>absurd z aE⟩,λb E h=>h,λb ob u h=>h⟩ g) R' h2
end
def z1u{x a:Str}{st:Stmt}{f:Addr}{fd:FuncData}{N ps:List Str}{k:Nat}{T:FT}(F:Fun K x a st f fd)(ds:zo N ps (zd st))(b:um K fd ps [])(m:mg x=some (.ref f))(g:∀ (qZ:Value) (A:Around) (outer:List Env) (s:Shared) (H:Hp) (xs:XK) (S:List D) (M:EV->Prop),Room k (A.deeper (envOfC a (zd st) s.heap.objs.size f qZ))->S.length=ps.length->T S M ->
   ∃ t,SDs (λ_=>True) (cxOf CX0 P w K mg base N a (zd st) f qZ A outer s H xs).nox (yu st) t/\t (wo N.length S) {nx:=λ_=>False,rt:=M}):FO P w K mg base (k+1) x ps T:=by
 refine⟨f,fd,F.ok ds (λvs H Q xs h=>?_) (λqZ A outer s H vs Q xs hr h=>?_),b,F.kp,m⟩
 ·obtain⟨S,M,hl,r,_⟩:=h;rw[r.length,hl]
 obtain⟨S,M,hl,r,hT,j⟩:=h;obtain⟨t,l,u⟩:=g qZ A outer s H xs S M hr hl hT;exact⟨Ph K H t,l ⟨H,zaA⟩,wo N.length S,[],jt r,_,u,λ_ _ _ _ _ _ q=>q.elim,λ_ _ _ _ _ _ q=>q.elim,λ_ _ _ _ _ _ q=>q.elim,λv e H' s' d q=>j v e H' s' d q⟩
section
variable{pos:Pos}{a b:Expr}{ta tb:TD}
def Room.far{k:Nat}{A:Around}(r:Room k A):A.units+200<cLine:=by have:=r.un;lia
def rEqH(K:W.Frag)(a:Bool):R2:=λx y H Q=>∃d e,Rep K H [] d x/\Rep K H [] e y/\okD 150 d/\okD 150 e/\Q (.bl (if a then !eqD d e else eqD d e)) H
def Ci(hu:X.A.units+200<cLine):OpR X (compareOp .NotEq) (rEqH X.K true):=by
 intro pn s Y H x y v u Q I g a h;obtain⟨d,e,h1,h2,k,j,q⟩:=h;exact(Yp I 150 d e x y v u X.A k j h1 h2 g a aD).2.1 X.prog X.w X.xe _ ⟨.bl _,H,I,rfl,q⟩
def sNeH:D->D->(EV->Prop)->Prop:=λx y M=>okD 150 x/\okD 150 y/\M (dv (.bl (!eqD x y)))
def Jj(hu:X.A.units+200<cLine)(j:ED L X a ta)(g:ED L X b tb):ET L X (.Compare a [.NotEq] [b] pos) (tBo (d2 sNeH ta tb)) :=
 rj (Ci hu) (λH O x y q l M Q ho e d h k=>⟨x,y,e.rep0,d.rep0,h.1,h.2.1,k _ _ H (Same.refl H) aH h.2.2⟩) j g (ug _)
end
section
variable{a b:Expr}{ta tb:TD}{pos:Pos}
def Kx(hu:X.A.units+200<cLine):OpR X (compareOp .Eq) (rEqH X.K false):=by
 intro pn s Y H x y v u Q I g a h;obtain⟨d,e,h1,h2,k,j,q⟩:=h;exact(Yp I 150 d e x y v u X.A k j h1 h2 g a aD).1 X.prog X.w X.xe _ ⟨.bl _,H,I,rfl,q⟩
def sEqH:D->D->(EV->Prop)->Prop:=λx y M=>okD 150 x/\okD 150 y/\M (dv (.bl (eqD x y)))
def A9(hu:X.A.units+200<cLine)(j:ED L X a ta)(g:ED L X b tb):ET L X (.Compare a [.Eq] [b] pos) (tBo (d2 sEqH ta tb)) :=
 rj (Kx hu) (λH O x y q l M Q ho e d h k=>⟨x,y,e.rep0,d.rep0,h.1,h.2.1,k _ _ H (Same.refl H) aH h.2.2⟩) j g (ug _)
end
section
open PySem PySem.Spec PySem.W PyProof.Rows
theorem J6:∀(f n r:Nat),r<=1->n<=f->minRun' f n r<=64
 |0,n,r,h,l=>by
  show n+r<=64;lia
 |f+1,n,r,h,l=>by
  rw[minRun'_succ];split
  ·lia
  exact J6 f _ _ aD aD
def F7(n:Nat):minRun' n n 0<=n:=by
 cases n with
 |zero=>exact zaj _
 |succ n =>
  rw[minRun'_succ];split
  ·lia
  have:=J6 n ((n+1) / 2) (max 0 ((n+1) % 2)) aD aD
  lia
variable{κ:SortKind}{it:Array Keyed}
def U9{n k:Nat}(h:k<n):(List.toArray (List.range n)).getD k 0=k:=by
 simp[Array.getD,h]
theorem N4{n:Nat}{a:Nat->Nat->(Bool->Shared->Prop)->Shared->Prop}(d:∀ i C,0<i->i<n->C false s->a i (i-1) C s){Q:Nat->Shared->Prop}(q:Q n s):∀f k,k+f=n->1<=k->(kas_asc (List.toArray (List.range n)) f k).kasWp a Q s
 |0,k,e,_=>by
  have:k=n:=e;subst this;exact q
 |f+1,k,e,h=>by
  show a ((List.toArray (List.range n)).getD k 0) ((List.toArray (List.range n)).getD (k-1) 0) _ s;rw[U9 aD,U9 aD]
  exact d k _ h aD (N4 d q f (k+1) aD aD)
def K8{n:Nat}{Q:Unit->SortSt->Shared->Prop}(h2:2<=n)(j:∀ i C,0<i->i<n->C false s->kas_cmp prog w A κ it i (i-1) C s)(k:∀ st',arrOf st'=(List.toArray (List.range n)).map (kas_item it)->failedOf st'=none->Q () st' s):kasC (model prog w) A xs sortRuns' Q (kas_st κ it (List.toArray (List.range n))) s:=by
 obtain⟨r,rfl⟩:∃r,n=r+2:=⟨n-2,by lia⟩
 have a:(List.toArray (List.range (r+2))).size=r+2:=by simp
 rw[sortRuns'_eq];refine kasC_bind (kasC_get ?_)
 dsimp only
 have hsz:(arrOf (kas_st κ it (List.toArray (List.range (r+2))))).size=r+2:=by
  show((List.toArray (List.range (r+2))).map (kas_item it)).size=_;rw[Array.size_map,a]
 have d:=F7 (r+2);simp only[hsz];generalize minRun' (r+2) (r+2) 0=q at d ⊢;refine kasC_bind (kasC_range ?_);show kasC _ _ _ (forIn (0::1::List.range' 2 r) _ _) _ _ _;refine kasC_cons ?_
 dsimp only
 rw[zaJ aD]
 simp only[Nat.sub_zero,Nat.zero_add];refine kasC_bind (kas_count_ (G:=λx s'=>x=(r+2,List.toArray (List.range (r+2)))/\s'=s) aD (by rw[a];exact zaj _) (λm l s' _ _ _ g=>?_) ?_)
 ·obtain⟨e,rfl⟩:=g
  injection e with e1 e2
  subst e1 e2
  dsimp only
  rw[zaJ aD]
  refine kasC_bind (kasC_get ?_);rw[show(pendingOf (kas_st κ it (List.toArray (List.range (r+2))))).back?=none from rfl]
  dsimp only
  refine kasC_bind (kasC_modify (kasC_pure ?_));show kasC _ _ _ (forIn (1::List.range' 2 r) _ _) _ _ _;refine kasC_cons ?_
  dsimp only
  rw[zaK (zaj _)];refine kasC_pure ?_
  dsimp only
  refine kasC_bind (kasC_range ?_);show kasC _ _ _ (forIn (0::1::List.range' 2 r) _ _) _ _ _;refine kasC_cons ?_;refine kasC_bind (kasC_get ?_);rw[zaK (show(pendingOf (setPending (kas_st κ it (List.toArray (List.range (r+2)))) ((pendingOf (kas_st κ it (List.toArray (List.range (r+2))))).push (0,r+2,0)))).size<=1 from zaj 1)];refine kasC_pure ?_
  dsimp only
  exact kasC_pure (k _ rfl rfl)
 unfold kas_count;rw[KasT.kasWp_bind];refine N4 j ?_ _ _ aD (zaj 1)
 rw[zaK aE]
 exact⟨rfl,rfl⟩
def Zp{zs:List Int}{us:List Value}(h:Vals (zs.map V.int) us){i:Nat}(hi:i<us.length):∃z t,zs[i]?=some z/\us.getD i Value.none=.int z t:=by
 have hl:=h.length;rw[zLm]at hl;obtain⟨u,e,t,r⟩:=Vals.get (i:=i) (x:=V.int (zs[i]' aD)) h (by rw[zai,zaf aD];rfl)
 exact⟨zs[i]' aD,t,zaf _,by rw[zeE,e,<- r];rfl⟩
def Nl{l:Addr}{bs:List Value}{zs:List Int}{n:Nat}{P:PySem.Fin->Shared->Prop}(g:s.heap.get? l=some (seqObj "list" bs.toArray n))(I:Vals (zs.map V.int) bs)(up:zs.Pairwise (·<·))(hl:bs.length<=100000)(q:∀ h' n',(∀ b o,b≠l->s.heap.get? b=some o->h'.get? b=some o)->h'.get? l=some (seqObj "list" bs.toArray n')->P (.done (.ret .none)) {s with heap:=h'}) :
  wpAny (model prog w) A (Builtin.«list.sort» ⟨[.ref l],[]⟩) P xs s:=by
 obtain⟨e1,g1⟩:∃e1,(s.heap.update l (Obj.mapSeq λ_=>(#[]:Array Value))).get? l=some (seqObj "list" #[] e1):=⟨_,get?_update_seq g λ_=>#[]⟩;have G:=zcJ s.heap l (Obj.mapSeq λ_=>(#[]:Array Value));rw[list_sort_plain];apply zaa;refine listItems_at g rfl ?_;apply zaa;refine listUpdate_at g rfl ?_ (by rw[zap,zbH];lia) (zcB _)
 apply zaa;refine seqEpoch_at g1 rfl ?_;apply zaa;refine wpAny_newTuple ?_ (by show bs.length<=_;rw[zbH];lia)
 apply zaa;refine wpAny_newList ?_ (zcB _);apply zbF;show wpAny (model prog w) A _ P xs {s with heap:=((s.heap.update l (Obj.mapSeq λ_=>(#[]:Array Value))).push (seqObj "tuple" bs.toArray 0)).push (seqObj "list" #[] 0)};generalize eh:((s.heap.update l (Obj.mapSeq λ_=>(#[]:Array Value))).push (seqObj "tuple" bs.toArray 0)).push (seqObj "list" #[] 0)=a;have W:∀b o,b≠l->s.heap.get? b=some o->a.get? b=some o:=λb o D e=>by
  rw[<- eh];exact zac _ (zac _ ((G.2 b D).trans e))
 have g3:a.get? l=some (seqObj "list" #[] e1):=by
  rw[<- eh];exact zac _ (zac _ g1)
 have B:P (.done (.ret .none)) {s with heap:=a.update l (Obj.mapSeq λ_=>bs.toArray)}:=by
  obtain⟨N,g4⟩:∃N,(a.update l (Obj.mapSeq λ_=>bs.toArray)).get? l=some (seqObj "list" bs.toArray N):=⟨_,get?_update_seq g3 λ_=>bs.toArray⟩;exact q _ N (λb o D e=>((zcJ a l (Obj.mapSeq λ_=>bs.toArray)).2 b D).trans (W b o D e)) g4
 dsimp only
 by_cases h2:bs.toArray.size<2
 ·rw[zaK h2,zaK h2];apply zaa;apply zab;rw[StateT.run_pure];apply zaa;apply zab
  dsimp only
  have eo:(arrOf (SortSt.mk' general' (bs.toArray.zip bs.toArray) #[] 7 none)).map (·.2)=bs.toArray:=by
   show(bs.toArray.zip bs.toArray).map (·.2)=_;apply Array.toList_inj.mp;simp;exact vc _
  rw[eo];apply zaa;refine seqEpoch_at (s:={s with heap:=a}) g3 rfl ?_;apply zaa;refine listUpdate_at (s:={s with heap:=a}) g3 rfl ?_ (zcB _) (by rw[zap,zbH];lia)
  simp only[bne_self_eq_false,zdJ,zfW];exact zab B
 rw[zaJ h2,zaJ h2];have r:2<=bs.length:=by rw[zap]at h2;lia
 apply zaa;refine kas_kind (s:={s with heap:=a}) (T:=Value.type "int") r (λv Y=>?_) aB aB ?_
 ·obtain⟨i,hi,rfl⟩:=List.getElem_of_mem Y;obtain⟨z,t,_,e⟩:=Zp I hi;have:bs[i]=.int z t:=by rw[<- e,zeE,zaf hi];rfl
  rw[this];exact .now
 apply zaa;have k:(bs.toArray.zip bs.toArray).size=bs.length:=by simp
 have L:SortSt.mk' oneType' (bs.toArray.zip bs.toArray) #[] 7 none=kas_st oneType' (bs.toArray.zip bs.toArray) (List.toArray (List.range bs.length)):=by
  have e:=kas_range (bs.toArray.zip bs.toArray);rw[k]at e;show SortSt.mk' oneType' (bs.toArray.zip bs.toArray) #[] 7 none=SortSt.mk' oneType' ((List.toArray (List.range bs.length)).map (kas_item (bs.toArray.zip bs.toArray))) #[] 7 none;rw[e]
 have j:=K8 (prog:=prog) (w:=w) (A:=A) (xs:=xs) (s:={s with heap:=a}) (κ:=oneType') (it:=bs.toArray.zip bs.toArray) (n:=bs.length)
  (Q:=λ_ d s'=>s'={s with heap:=a}/\failedOf d=none/\(arrOf d).map (·.2)=bs.toArray) r (λi C h0 hi hC=>by
   unfold kas_cmp;rw[kat_item rfl,kat_item rfl];obtain⟨x,t,ex,ei⟩:=Zp I hi;obtain⟨y,u,ey,ej⟩:=Zp I (show i-1<bs.length by lia)
   rw[ei,ej,keyLt'_oneType];refine oneLt_int ?_;have lt:y<x:=by
    obtain⟨R,rfl⟩:=zag.mp ex;obtain⟨O,rfl⟩:=zag.mp ey;exact List.pairwise_iff_getElem.mp up _ _ O R aD
   rw[zbQ aD]
   exact hC)
  (λd Z es=>⟨rfl,es,by
   have e:=kas_range (bs.toArray.zip bs.toArray);rw[k]at e;rw[Z,e];apply Array.toList_inj.mp;simp;exact vc _⟩)
 rw[<- L]at j;refine wpAny_mono j ?_ λ_ _ e=>e;rintro⟨⟨⟩,d⟩ s' ⟨rfl,es,eu⟩
 dsimp only
 rw[eu];apply zaa;refine seqEpoch_at (s:={s with heap:=a}) g3 rfl ?_;apply zaa;refine listUpdate_at (s:={s with heap:=a}) g3 rfl ?_ (zcB _) (by rw[zap,zbH];lia)
 rw[es];simp only[bne_self_eq_false,zdJ,zfW];exact zab B
noncomputable def Pm(r a:Addr):HO:=.ext λh=>KdlKeysView h r a
theorem Xn{P:Program}{w:World}:∀{kvs:List (Key×V)}{vs:List (Key×Value)}{zs:List Int},KV kvs vs->kvs.map Prod.fst=zs.map Sum.inl->∀{us:List Value},us.length=vs.length->(∀(i:Nat)(u:Value),us[i]?=some u->∃k x,vs[i]?=some (k,x)/\(yp P w).is k u=true)->Vals (zs.map V.int) us
 |_,_,[],.nil,_,[],_,_=>.nil
 |_,_,[],.nil,_,_::_,h,_=>by cases h
 |_,_,_::_,.nil,e,_,_,_=>by cases e
 |_,_,[],.cons _ _,e,_,_,_=>by cases e
 |_,_,_::_,.cons _ _,_,[],h,_=>by cases h
 |_,_,z::zs,.cons r t,e,u::us,h,hu=>by
  rw[zaB,zaB]at e
  injection e with e1 e2
  refine .cons ?_ (Xn t e2 (zfY h) λi v l=>hu (i+1) v l);obtain⟨k,x,q,g⟩:=hu 0 u rfl;cases q;have d:=r.1
  dsimp only at d
  rw[<- d,e1]at g;rcases xc (show V6 (Sum.inl z) u=true from g) with⟨i,t,a,j⟩|⟨x,t,a,_⟩
  ·cases a
   exact⟨t,j⟩
  cases a
def cz(W:X.calm=true):t8 X (.builtin "sorted") (λE H Q=>∃(r a:Addr)(kvs:List (Key×V))(zs:List Int),E=[.ref r]/\H r=some (Pm r a)/\H a=some (.dK kvs)/\kvs.length<=100000/\kvs.map Prod.fst=zs.map Sum.inl/\zs.Pairwise (·<·) /\
  ∀p,H p=none->Q (.ref p) (upd H p (.lst (zs.map V.int)))):=by
 intro pn s Y H E us Q I r h;obtain⟨v,a,kvs,zs,rfl,hr,Z,hl,R,up,q⟩:=h;obtain⟨u,rfl,G⟩:=kg r;cases G;obtain⟨z,nb,vs,B,hd⟩:=(show we X.prog X.w H s.heap a (.dK kvs) from I.hok a _ Z);obtain⟨ep,y⟩:=hd.dictAt;obtain⟨O,_⟩:=(show we X.prog X.w H s.heap v (Pm v a) from I.hok v _ hr);have L:vs.length=kvs.length:=B.length.symm;refine Calls.call_function_entry kind_sorted plain_sorted entry_sorted (args_sorted1 _) (?_:_);unfold Builtin.«sorted»;apply zaa (m:=checkCount "sorted" 1 1 _);apply zab;apply zaa;refine kdu_collect (kdl_keys (knd:=yp X.prog X.w) (kvs:=vs) (ep:=ep)) (I.ok.hd W) ⟨O,y⟩ (by rw[zbH];lia) λh1 tk g N d=>?_
 have l:g.toList.length=vs.length:=by simpa using d.1
 have j:Vals (zs.map V.int) g.toList:=Xn B R l λi u e=>by
  obtain⟨k,x,e1,e2⟩:=d.2 i u (by rw[<- zfF];exact e)
  exact⟨k,x,e1,e2⟩
 apply zaa;refine wpAny_newList ?_ (by rw[l,zbH];lia)
 have D:Inv X pn Y H {s with heap:=h1,toks:=tk}:=I.kept N;apply zaa;refine zbF (zbK slot_list_sort ⟨_,zad _ rfl,rfl⟩ entry_list_sort (?_:_) (args_list_sort _));refine Nl (s:={s with heap:=h1.push (seqObj "list" g.toList.toArray 0),toks:=tk}) (n:=0) (zad _ rfl) j up aD λh' es keep gl=>?_
 refine⟨_,rfl,zab ⟨_,rfl,.ref h1.objs.size,_,D.laid (h':=h') (t':=tk) (o:=.lst (zs.map V.int)) (λb u e=>?_) (zaj _) ?_,rfl,q _ (D.hok.fresh (zaj _))⟩⟩
 ·exact keep b u (zaT (zae e)) (zac _ e)
 exact⟨by rw[j.length,l,L];exact z,_,es,j,gl⟩
def F5:MtR X "dict.keys" (λx E H Q=>∃a kvs,x=.ref a/\E=[]/\H a=some (.dK kvs)/\∀r,H r=none->Q (.ref r) (upd H r (Pm r a))):=by
 intro pn s Y H x E v us Q I j rs h;obtain⟨a,kvs,rfl,rfl,y,q⟩:=h;cases j;cases rs;obtain⟨z,l,vs,B,d⟩:=(show we X.prog X.w H s.heap a (.dK kvs) from I.hok a _ y);refine zbK F.slot_dict_keys d.typeIs F.entry_dict_keys (?body) (F.args_dict_keys_1 _);unfold Builtin.«dict.keys»;apply zaa;unfold Builtin.Dict.noArgs;apply zaa;refine zfI d.typeIs (?_:_);show wpAny _ _ (pure a) _ _ s;apply zab;show wpAny _ _ (Builtin.Dict.showsAll a >>= _) _ _ s;unfold Builtin.Dict.showsAll;rw[zaJ (show ¬ ((a==sysModules)=true) by rw[l];decide)]
 apply zaa;apply zab;apply zaa;have g:(s.heap.push {cls:=.type "dict_keys",data:=.fields #[.ref a]}).get? s.heap.objs.size=some {cls:=.type "dict_keys",data:=.fields #[.ref a]}:=zad _ rfl;refine zbR (zab ⟨_,rfl,.ref s.heap.objs.size,_,I.laid (t':=s.toks) (λb u e=>zac _ e) (zaj _) ?_,rfl,q _ (I.hok.fresh (zaj _))⟩);refine(show we X.prog X.w _ _ _ (Pm _ a) from⟨⟨_,g,rfl,rfl⟩,⟨_,g⟩,λh1 h2 p k=>?_⟩);obtain⟨o,e,r⟩:=p;exact⟨o,k o e,r⟩
def Nd:typeOf (.builtin "dict.keys")=pure (.type "method_descriptor"):=by kernel_rfl
end
theorem Z5{K:W.Frag}{H:Hp}{O:List Addr}:∀zs:List Int,Reps K H O (zs.map D.int) (zs.map V.int)
 |[]=>rfl
 |x::k=>⟨_,_,rfl,rfl,Z5 k⟩
theorem Yx{α a:Type}:∀{ks:List α}{E:List a},ks.length=E.length->(ks.zip E).map Prod.fst=ks
 |[],_,_=>rfl
 |_::_,[],h=>by cases h
 |k::ks,x::E,h=>by rw[zaL,zaB,Yx (zfY h)]
section
variable{p pos:Pos}
def Ou(td:TD):TD:=λU M=>td U λr=>match r.d with
 |.dk ks _=>ks.length<=100000/\∃zs:List Int,ks=zs.map Sum.inl/\zs.Pairwise (·<·)/\M (df (.lst (zs.map D.int)))
 |_=>False
def Vp(N:X.mg "sorted" = none)(ho:ED L X o td)(W:autoParam (X.calm=true) zSr)(O:autoParam (Gl X "sorted") zSr)(j:autoParam (attributeBase o "keys" X.env (eval o X.env)=eval o X.env) zSr)(g:autoParam ((apos.endLine==cpos.line)=true) zSr)(z:autoParam (starEach [.Call (.Attribute o "keys" apos) [] [] cpos] X.env=(false,eval (.Call (.Attribute o "keys" apos) [] [] cpos) X.env)::starEach [] X.env) zSr)(u:autoParam ((backTo pos (starEach [] X.env)).any (·.1)=false) zSr) :
  ED L X (.Call (.Name "sorted" p) [.Call (.Attribute o "keys" apos) [] [] cpos] [] pos) (Ou td):=λH_ =>
 impE (Y5 (cz W) O N (show bootBuiltins "sorted" = some (.builtin "sorted") by kernel_rfl) (vz (Qw PySem.F.plainAttrs_dict PySem.F.slot_dict_keys Nd F5 (ho H_) j g) su z) aB aB z u) λY H Q q=>by
  obtain⟨U,G,R,M,k,es⟩:=q;refine⟨U,G,R,_,k,λv r H1 s1 B h1=>?_⟩;obtain⟨kd,d⟩:=r;cases d with
  |dk ks S =>
   obtain⟨I,zs,rfl,up,h2⟩:=h1;obtain⟨a,E,rfl,q,l,Z,D⟩:=B.view;have hl:(zs.map (Sum.inl:Int->Key)).length=E.length:=by rw[l,D.length]
   refine⟨.inr (.inr (.inl ⟨rfl,.inl ⟨_,q⟩⟩)),a,_,rfl,rfl,q,λr hr=>?_⟩;have x:a≠r:=zp q hr;show ∃(r' a':Addr)(kvs:List (Key×V))(zs':List Int),[V.ref r]=[V.ref r']/\_;have e:=y9 hr (Pm r a);refine⟨r,a,_,zs,rfl,zk,(by rw[zx x];exact q),by rw[zbG,hl,zfX,<- hl];exact I,Yx hl,up,λp y=>?_⟩
   exact es (.ref p) _ _ (s1.trans (e.trans (y9 y _))) ((qj (λa h=>(R.to (s1.trans e)).ofree h) y (Z5 zs)).start (s1.trans e)) h2
  |_=>exact h1.elim
end
section
variable{a1 b1:Expr}{t1 u1:TD}{pos:Pos}
def Ap(t1 u1:TD):TD:=λU M=>t1 U λa=>u1 U λx=>∃k1,keyD a.d=some k1/\zi x.d/\M (df (.dk [k1] [x.d]))
def Lv(h1:ED L X a1 t1)(g1:ED L X b1 u1):ED L X (.Dict [some a1] [b1] pos) (Ap t1 u1):=λH_ =>
 impE (V0 (rq (h1 H_) (g1 H_) Wz) rfl rfl aE aE) λY H Q q=>by
  obtain⟨U,o,R,M,y,k⟩:=q;intro p j;have l:=y9 j (HO.dK []);refine⟨U,o,R.to l,_,y,λes Z H1 s1 v g=>⟨U,o,R.to (l.trans s1),_,g,λv2 D H2 s2 r a=>?_⟩⟩;obtain⟨k1,e1,N,a⟩:=a;have B:∀{G:Hp},Same (upd H p (.dK [])) G->G p=some (.dK []):=λs=>s _ _ zk;have e:H2 p=some (.dK []):=s2 _ _ (B s1);have w1:es=kV k1:=f7 v.view e1;refine⟨e,[(k1,v2)],by rw[w1];rfl,by simp,?_⟩
  have W:sv [] [(k1,v2)]=[k1].zip [v2]:=by
   simp[sv,putK]
  rw[W];have V:Grow (p::o.map Prod.snd) (p::o.map Prod.snd) H2 (upd H2 p (.dK ([k1].zip [v2]))):=⟨λb u h n=>⟨by rw[zx (λz=>n (zam.mpr (.inl z)))];exact h,n⟩,λb E h=>by rw[zx (λz=>by rw[z,e]at h;cases h)];exact h,λb ob u h=>by rw[zx (λz=>by rw[z,e]at h;cases h)];exact h⟩
  have x:Rep X.K H2 (p::o.map Prod.snd) D.d v2:=RepN.pure _ _ N r.view.rep0;refine k (.ref p) (df (.dk [k1] [D.d])) _ ?_ ⟨p,rfl,j,R.ofree j,[v2],zk,rfl,by simp,v2,[],rfl,RepN.grow V _ _ x,rfl⟩ a
  intro b u I;have O:b≠p:=zp I j;rw[zx O];exact s2 _ _ (s1 _ _ (l _ _ I))
end
section
variable{a b:Expr}{ta tb:TD}{pos:Pos}
def Aj(hu:X.A.units+200<cLine)(j:ED L X a ta)(g:ED L X b tb):ED L X (.Compare a [.Eq] [b] pos) (d2 sEqH ta tb) :=
 W9 (Kx hu) (λH O x y q l M Q ho e d h k=>⟨x,y,e.rep0,d.rep0,h.1,h.2.1,k _ _ H (Same.refl H) aH h.2.2⟩) j g (ug _)
end
def jb{α:Type}{us:List α}(h:us.length=1):∃a0,us=[a0]:=match us,h with
 |[a0],_=>⟨a0,rfl⟩
def sf{α:Type}{us:List α}(h:us.length=2):∃a0 a1,us=[a0,a1]:=match us,h with
 |[a0,a1],_=>⟨a0,a1,rfl⟩
def Xm{α:Type}{us:List α}(h:us.length=3):∃a0 a1 a2,us=[a0,a1,a2]:=match us,h with
 |[a0,a1,a2],_=>⟨a0,a1,a2,rfl⟩
def Pj{α:Type}{us:List α}(h:us.length=4):∃a0 a1 a2 a3,us=[a0,a1,a2,a3]:=match us,h with
 |[a0,a1,a2,a3],_=>⟨a0,a1,a2,a3,rfl⟩
noncomputable abbrev pA:List Str:=["_law_state","_law_scope","_law_deep","_law_shape"]
noncomputable abbrev pB:List Str:=["program","name","args","most"]
noncomputable abbrev pC:List Str:=["_law_program_here","_law_found","_law_k","_law_turn"]
local macro_rules|`(tactic| walk_at "dl")=>do
 let ids <- (("q_ Q_ sNil sSeq sRet sIf sSet sUn d2 d1 u4 dC slot setS EV.sto EV.ret aNil w6 dTup dCB fq vAnd vIf bAnd bNot bYes tTru tBo truD sMod sPow sI sAdd sNeg sEq sNe sIx1 sSl dSl F3 F2 sLen sIsI sTupC sListC sApp gN gT2 wo xa List.map_cons List.map_nil zLc zLn List.cons_append List.nil_append List.replicate_succ List.replicate_zero Nat.reduceAdd Nat.reduceSub Nat.zero_add Nat.sub_self Bool.and_self true_and and_true Bool.not_true Bool.not_false forall_const false_implies Bool.true_eq_false reduceCtorEq implies_true ye yt g0 Yq qm zi kdD kdDs Bool.not_eq_eq_eq_not beq_eq_false_iff_ne beq_iff_eq ne_eq not_false_eq_true K7 Av z2i and_self Nat.beq_eq Nat.ble_eq Nat.reduceLeDiff sIxx keyD cp10 Int.reduceLE Int.reduceToNat Ro E9 zLm Option.map_some Int.zero_add Int.reduceEq Int.reduceNeg sFrz frzS iZ Nt Hx seqD qSeq qSet Dr qE qT qB qIf qNil qRet Dt Dv hid G7 Ko Qh dFld fE2 fTup Fy fNil qFld Dw Du M5 pFld Gv Jp rE rP Do List.getElem?_cons_succ List.getElem?_cons_zero ix0 ix2 ix3 ix4 ix5 ix6 ix7 Ds Ti An gL5".splitOn " ").toArray).mapM λs=>`(Lean.Parser.Tactic.simpLemma| $(Lean.mkIdent s.toName):ident)
 `(tactic| simp only[$ids,*])
seal SDs SD ED EA ET EW EQ QA QT QS QSs QL
structure Tops(mg:Str->Option Value):Prop where
 abs:mg "abs" = none
 ValueError:mg "ValueError" = none
 all:mg "all" = none
 bool:mg "bool" = none
 dict:mg "dict" = none
 enumerate:mg "enumerate" = none
 int:mg "int" = none
 isinstance:mg "isinstance" = none
 len:mg "len" = none
 list:mg "list" = none
 max:mg "max" = none
 min:mg "min" = none
 range:mg "range" = none
 reversed:mg "reversed" = none
 set:mg "set" = none
 sorted:mg "sorted" = none
 str:mg "str" = none
 sum:mg "sum" = none
 tuple:mg "tuple" = none
 zip:mg "zip" = none
variable{f:Addr}{fd:FuncData}
noncomputable def mth(i:Nat):Stmt:=Pr (top 17) i
noncomputable def fNames:List Str:=["functions","most","calls","steps","frames","tasks","ready","is_cut"]
structure Con2(K:W.Frag)(mg:Str->Option Value):Prop where
 c_MOST_CALLS:GC K mg "MOST_CALLS" (.int 20)
 c_MOST_SIZE:GC K mg "MOST_SIZE" (.int 100)
noncomputable def fL:List (Str×Nat):=[("_law_whole",31),("_law_small",33),("_law_beneath",34),("_law_due",35),("_law_by_itself",36),("function_of",6),("check_args",16),("is_whole",5),("is_tree",9),("nodes_of",11),("fits",8),("size_of",10),("_law_names",21),("_law_number",20),("_law_cell_at",19),("_law_take",25),("_law_putting",22),("_law_planting",23),("_law_head",24),("_law_expression",26),("_law_body",27),("_law_program",28),("_law_tree",29),("_law_args",30),("_law_plain",32)]
noncomputable def mL:List (Str×Str×Nat):=[("step","Run.step",3),("own_step","Run.own_step",4),("standing","Run.standing",5),("stand","Run.stand",6),("taken","Run.taken",7),("bring","Run.bring",11),("choose","Run.choose",12),("leave","Run.leave",17),("make","Run.make",15),("follow","Run.follow",10),("behind","Run.behind",8),("begin_value","Run.begin_value",13),("begin_body","Run.begin_body",9),("enter","Run.enter",16),("apply","Run.apply",14),("go","Run.go",2),("__init__","Run.__init__",0),("told","Run.told",1)]
structure AX(K:W.Frag)(mg:Str->Option Value)(C:Addr):Prop where
 T:Tops mg
 O:CO K C fNames
 Z:Con2 K mg
 f:∀x i,(x,i)∈fL->∃f fd,Fun K x x (top i) f fd/\mg x=some (.ref f)
 m:∀x q i,(x,q,i)∈mL->∃f fd,Fun K x q (mth i) f fd/\Meth K C x f
def ix0:ixF fNames "functions" = some 0:=by decide
def ix2:ixF fNames "calls" = some 2:=by decide
def ix3:ixF fNames "steps" = some 3:=by decide
def ix4:ixF fNames "frames" = some 4:=by decide
def ix5:ixF fNames "tasks" = some 5:=by decide
def ix6:ixF fNames "ready" = some 6:=by decide
def ix7:ixF fNames "is_cut" = some 7:=by decide
structure MS where
 calls:List D
 steps:List D
 frames:List (Int×List (Str×D))
 tasks:List D
 ready:List D
 cut:Bool
noncomputable def dkD(rows:List (Str×D)):D:=.dk (rows.map λp=>Sum.inr p.1) (rows.map Prod.snd)
noncomputable def frD(p:Int×List (Str×D)):D:=.tup [.int p.1,dkD p.2]
noncomputable def msD(C:Addr)(fns:List (Str×D))(most:Int)(s:MS):D:=.ob C fNames [dkD fns,.int most,.lst s.calls,.lst s.steps,.lst (s.frames.map frD),.lst s.tasks,.lst s.ready,.bl s.cut]
noncomputable def xi(most:Int)(n:Int)(k:Str)(s:MS):Bool×MS:=if most<=s.steps.length then(false,{s with cut:=true}) else(true,{s with steps:=s.steps++[.tup [.int n,.str k]]})
def Hf1(C:Addr):FTQ:=λd S M=>∃fns most s n k,d=msD C fns most s/\S=[.int n,.str k]/\s.steps.length<=10000/\M (.bl (xi most n k s).1) (msD C fns most (xi most n k s).2)
def O3(X:AX K mg C):FM P w K mg base 1 C fNames "step" ["self","number","kind"] (Hf1 C):=by
 obtain⟨f,fd,F,a⟩:=X.m "step" "Run.step" 3 aB
 have ds:zo ["self","number","kind"] ["self","number","kind"] (zd (mth 3)):=by walk_at "f"
 refine qi F ds (F.binds (by walk_at "3")) a aB λqZ A outer s H xs d0 S M hr hl hT=>?_
 have hu:=hr.units;refine⟨_,(yf (vm (uq (R5 (yo X.T.len (za (vo X.O (z9 0)) zb)) (vo X.O (z9 0)))) (yf (Ue X.O yc (x8 wy))
    (y7 (Ud (W5 wy)))) gd)
   (yf (wc (xj X.O yc) (x8 (zh (za (z9 1) (za (z9 2) zb)))))
   (y7 (Ud (W5 wy))))),?_⟩
 obtain⟨fns,most,ms,n,k,rfl,rfl,d,h⟩:=hT;unfold msD at h ⊢;unfold xi at h;refine⟨rfl,rfl,rfl,rfl,λq=>⟨zaA,_,_,rfl,rfl,by decide,zaA,_,rfl,?_⟩,λq=>⟨_,_,rfl,rfl,_,_,rfl,rfl,by show ms.steps.length<=100000;lia,rfl,rfl,⟨zaA,zaA,zaA⟩,zaA,_,rfl,?_⟩⟩
 ·rw[zaK (zbN q)]at h;exact h
 rw[zaJ (zcX q)]at h;exact h
noncomputable def rowG:List (Str×D)->Str->Option D
 |[],_=>none
 |p::r,z=>if p.1=z then some p.2 else rowG r z
theorem dt(z:Str):∀rows:List (Str×D),u0 (rows.map λp=>(Sum.inr p.1:Key)) (rows.map Prod.snd) (Sum.inr z)=rowG rows z
 |[]=>rfl
 |p::r=>by
  show(if (Sum.inr p.1:Key)=Sum.inr z then some p.2 else u0 (r.map λp=>(Sum.inr p.1:Key)) (r.map Prod.snd) (Sum.inr z))=_
  unfold rowG;by_cases h:p.1=z
  ·rw[zaK h,zaK (by rw[h])]
  rw[zaJ h,zaJ (λe=>h (zfS e))];exact dt z r
theorem Zn:∀(zs:List Str)(vs:List D),zs.length=vs.length->(zs.map Sum.inr:List Key)=(zs.zip vs).map λp=>(Sum.inr p.1:Key)
 |[],_,_=>rfl
 |_::_,[],h=>by simp at h
 |z::zs,v::vs,h=>by rw[zaB,zaL,zaB,Zn zs vs (by simpa using h)]
def tOwn(C:Addr):FTQ:=λd S M=>∃fns most s k fs n rows,d=msD C fns most s/\S=[.str k]/\s.steps.length<=10000/\s.frames=fs++[(n,rows)]/\M (.bl (xi most n k s).1) (msD C fns most (xi most n k s).2)
def Es(C:Addr):FTQ:=λd S M=>∃fns most s fs n rows,∃zs:List Str,∃vs:List D,d=msD C fns most s/\S=[.tup (zs.map D.str),.tup vs]/\s.frames=fs++[(n,rows)]/\zs.length=vs.length/\zs.length<=10/\rows.length<=900/\(rows.map Prod.fst++zs).Nodup/\zu vs/\M .non (msD C fns most {s with frames:=fs++[(n,rows++zs.zip vs)]})
def Er(C:Addr):FTQ:=λd S M=>∃fns most s,∃rs us:List D,d=msD C fns most s/\S=[.int us.length]/\s.ready=rs++us/\us≠[]/\us.length<=10/\zu us/\zu rs/\s.ready.length<=10000/\M (.tup us) (msD C fns most {s with ready:=rs})
def ui(X:AX K mg C):FM P w K mg base 2 C fNames "own_step" ["self","kind"] (tOwn C):=by
 obtain⟨f,fd,F,g⟩:=X.m "own_step" "Run.own_step" 4 aB
 have ds:zo ["self","kind"] ["self","kind"] (zd (mth 4)):=by walk_at "f"
 refine qi F ds (F.binds (by walk_at "3")) g aB λqZ A outer s H xs d0 S M hr hl hT=>?_
 have hu:=hr.units;refine⟨_,(y7 (Ud (yn X.O (O3 X) (hr.e rfl) (d7 (W5 (zf hu (zf hu (vo X.O (z9 0)) (ji zc)) zc)) (y3 (z9 1) x9))))),?_⟩;obtain⟨fns,most,ms,k,fs,n,rows,rfl,rfl,a,j,h⟩:=hT;have d:ms.frames.map frD=fs.map frD++[.tup [.int n,dkD rows]]:=by rw[j,zMa];rfl
 have e0:msD C fns most ms=.ob C fNames [dkD fns,.int most,.lst ms.calls,.lst ms.steps,.lst (fs.map frD++[.tup [.int n,dkD rows]]),.lst ms.tasks,.lst ms.ready,.bl ms.cut]:=by unfold msD;rw[d]
 rw[e0];walk_at "dl";refine⟨_,rfl,fns,most,ms,n,k,e0.symm,rfl,a,_,rfl,h⟩
def T3(X:AX K mg C):FM P w K mg base 1 C fNames "stand" ["self","names","things"] (Es C):=by
 obtain⟨f,fd,F,q⟩:=X.m "stand" "Run.stand" 6 aB
 have ds:zo ["self","names","things","standing"] ["self","names","things"] (zd (mth 6)):=by walk_at "f"
 refine qi F ds (F.binds (by walk_at "3")) q aB λqZ A outer s H xs d0 S M hr hl hT=>?_
 have hu:=hr.units;refine⟨_,(M4 3 aB ds.nd (C8 (C8 (xj X.O yc) (ji zc)) zc) (Tb X.T.dict X.T.zip (za (z9 1) (za (z9 2) zb)))),?_⟩
 obtain⟨fns,most,ms,fs,n,rows,zs,vs,rfl,rfl,v,hl1,u,r,nd,k,h⟩:=hT;unfold msD at h ⊢;rw[v,zMa,zaB,zbO];have g:zs.Nodup:=(zaO.mp nd).2.1;have l:(fs.map frD++[frD (n,rows)]).length=fs.length+1:=by rw[zLa,zLm];rfl
 have d:(fs.map frD++[frD (n,rows)])[fs.length]?=some (frD (n,rows)):=by
  have:=zaC (l₁:=fs.map frD) (l₂:=[frD (n,rows)]) (i:=fs.length) (by rw[zLm];exact zaj _)
  rw[this,zLm,zbX];rfl
 have j:∀π,atQ (4::fs.length::π) (.ob C fNames [dkD fns,.int most,.lst ms.calls,.lst ms.steps,.lst (fs.map frD++[frD (n,rows)]),.lst ms.tasks,.lst ms.ready,.bl ms.cut])=atQ π (frD (n,rows)):=λπ=>by
  show(match (fs.map frD++[frD (n,rows)])[fs.length]? with|some x=>atQ π x|none=>none)=_
  rw[d]
 refine⟨_,_,rfl,rfl,_,_,_,_,fs.length,rfl,rfl,rfl,rfl,by rw[l];exact L8 _,_,_,_,_,1,rfl,j [],rfl,rfl,rfl,_,_,_,rfl,j [1],zaj 4,zs,vs,⟨.inr rfl,.inr rfl⟩,hl1,by lia,g,k,by rw[zLm,zLm];show rows.length+zs.length<=1000;lia,?_,_,rfl,?_⟩
 ·have e:(rows.map λ(p:Str×D)=>(Sum.inr p.1:Key))++zs.map Sum.inr=(rows.map Prod.fst++zs).map Sum.inr:=by rw[zMa,zbI];rfl
  show((rows.map λ(p:Str×D)=>(Sum.inr p.1:Key))++zs.map Sum.inr).Nodup;rw[e];exact zfC _ (λa b h e=>h (zfS e)) nd
 have e1:(rows.map λp=>(Sum.inr p.1:Key))++zs.map Sum.inr=(rows++zs.zip vs).map λp=>(Sum.inr p.1:Key):=by
  rw[zMa];rw[Zn zs vs hl1]
 have e2:rows.map Prod.snd++vs=(rows++zs.zip vs).map Prod.snd:=by rw[zMa,vc1 hl1]
 have y:putQ [4,fs.length,1] (.ob C fNames [dkD fns,.int most,.lst ms.calls,.lst ms.steps,.lst (fs.map frD++[frD (n,rows)]),.lst ms.tasks,.lst ms.ready,.bl ms.cut]) (.dk ((rows.map λp=>(Sum.inr p.1:Key))++zs.map Sum.inr) (rows.map Prod.snd++vs))=.ob C fNames [dkD fns,.int most,.lst ms.calls,.lst ms.steps,.lst (fs.map frD++[frD (n,rows++zs.zip vs)]),.lst ms.tasks,.lst ms.ready,.bl ms.cut]:=by
  rw[e1,e2];show D.ob C fNames [dkD fns,.int most,.lst ms.calls,.lst ms.steps,(match (fs.map frD++[frD (n,rows)])[fs.length]? with|some x=>D.lst ((fs.map frD++[frD (n,rows)]).set fs.length (putQ [1] x (dkD (rows++zs.zip vs))))|none=>.lst (fs.map frD++[frD (n,rows)])),.lst ms.tasks,.lst ms.ready,.bl ms.cut]=_
  rw[d];show D.ob C fNames [dkD fns,.int most,.lst ms.calls,.lst ms.steps,D.lst ((fs.map frD++[frD (n,rows)]).set fs.length (frD (n,rows++zs.zip vs))),.lst ms.tasks,.lst ms.ready,.bl ms.cut]=_;rw[zfK _ _ (by rw[zLm];exact zaj _),zLm,zbX]
  rfl
 have h2:=h;rw[show(fs++[(n,rows++zs.zip vs)]).map frD=fs.map frD++[frD (n,rows++zs.zip vs)] from by rw[zMa];rfl]at h2
 rw[<- y]at h2;exact h2
def qf(X:AX K mg C):FM P w K mg base 1 C fNames "taken" ["self","many"] (Er C):=by
 obtain⟨f,fd,F,d⟩:=X.m "taken" "Run.taken" 7 aB
 have ds:zo ["self","many","parts"] ["self","many"] (zd (mth 7)):=by walk_at "f"
 refine qi F ds (F.binds (by walk_at "3")) d aB λqZ A outer s H xs d0 S M hr hl hT=>?_
 have hu:=hr.units;refine⟨_,(yf (G3 2 aB ds.nd (yq (vo X.O (z9 0)) (yg (ji (z9 1))) xk))
   (yf (Ue X.O yc (x8 (yq (vo X.O (z9 0)) xk (yg (ji (z9 1))))))
   (y7 (Ud (W5 (wk X.T.tuple (za (z9 2) zb))))))),?_⟩
 obtain⟨fns,most,ms,rs,us,rfl,rfl,g,ne,hl1,a,pr,e,h⟩:=hT;unfold msD at h ⊢;rw[g];obtain⟨k,j⟩:=Oy rs us ne;walk_at "dl";rw[k,j];exact⟨a,pr,_,_,rfl,rfl,by decide,a,_,rfl,h⟩
def wf{t u:TQS}{U:DE}{Z:QZ}(a:DE)(h:∀ es:DE->Prop,es a->t U {Z with nx:=es})(h2:u a Z):qSeq t u U Z:=h _ h2
def y4{tc:TDb}{t u:TQS}{U:DE}{Z:QZ}(b:Bool)(h:∀ G:Bool->Prop,G b->tc U G)(h1:b=true->t U Z)(h2:b=false->u U Z):qIf (qT tc) t u U Z:=h _ ⟨h1,h2⟩
def cs{n m:Nat}{a b:Str}{Q:Prop}(h:Q):okD n (.str a)/\okD m (.str b)/\Q:=⟨yt▸trivial,yt▸trivial,h⟩
def cn{n m:Nat}{a b:Str}{G:Bool->Prop}(e:a≠b)(h:G false):okD n (.str a)/\okD m (.str b)/\G (eqD (.str a) (.str b)):=⟨yt▸trivial,yt▸trivial,by rw[Yq,zbA.mpr e];exact h⟩
noncomputable def vlD(e:D):D:=.tup [.str "value",e]
noncomputable def bdD(b:D):D:=.tup [.str "body",b]
def Hj(C:Addr):FTQ:=λd S M=>∃fns most s,∃J:List D,∃t,d=msD C fns most s/\S=[.tup J,t]/\J.length<=100/\zu J/\zi t/\s.tasks.length<=10000/\M .non (msD C fns most {s with tasks:=s.tasks++[t]++J.reverse.map vlD})
def Ki(C:Addr):FTQ:=λd S M=>∃fns most s fs n rows z e b rs v,d=msD C fns most s/\S=[.tup [.str "let",.str z,e,b]]/\s.frames=fs++[(n,rows)]/\s.ready=rs++[v]/\s.steps.length<=10000/\s.ready.length<=10000/\s.tasks.length<=10000/\zi e/\zi b/\zi v/\zu rs/\rows.length<=900/\(rows.map Prod.fst++[z]).Nodup /\
 M .non (msD C fns most (match xi most n "let" s with
  |(true,s')=>{s' with frames:=fs++[(n,rows++[(z,v)])],ready:=rs,tasks:=s.tasks++[bdD b]}
  | (false,s')=>s'))
def Rv(C:Addr):FTQ:=λd S M=>∃fns most s fs n rows e1 e2 b1 b2 rs,∃x y:Int,d=msD C fns most s/\S=[.tup [.str "less",e1,e2,b1,b2]]/\s.frames=fs++[(n,rows)]/\s.ready=rs++[.int x,.int y]/\s.steps.length<=10000/\s.ready.length<=10000/\s.tasks.length<=10000/\zi b1/\zi b2/\zu rs /\
 M .non (msD C fns most (match xi most n "less" s with
  |(true,s')=>{s' with ready:=rs,tasks:=s.tasks++[bdD (if x<y then b1 else b2)]}
  | (false,s')=>s'))
def Kf(C:Addr):FTQ:=λd S M=>∃fns most s fs,∃n:Nat,∃rows nm args up rs v cl1 cl2,d=msD C fns most s/\S=[]/\s.frames=fs++[((n:Int),rows)]/\s.ready=rs++[v]/\zi v/\s.calls=cl1++[.tup [nm,args,up,.bl false,.non]]++cl2/\cl1.length=n/\zi nm/\zi args/\zi up /\
 M .non (msD C fns most {s with frames:=fs,calls:=cl1++[.tup [nm,args,up,.bl true,v]]++cl2})
def Li(X:AX K mg C):FM P w K mg base 3 C fNames "bring" ["self","body"] (Ki C):=by
 obtain⟨f,fd,F,x⟩:=X.m "bring" "Run.bring" 11 aB
 have ds:zo ["self","body"] ["self","body"] (zd (mth 11)):=by walk_at "f"
 refine qi F ds (F.binds (by walk_at "3")) x aB λqZ A outer s H xs d0 S M hr hl hT=>?_
 have hu:=hr.units;refine⟨_,(y7 (vm (Z6 (yn X.O (ui X) (hr.e rfl) (y3 zg x9))) (yf (xp (yn X.O (T3 X) (hr.e rfl) (y3 (yq (z9 1) (yg zc) (yg zc)) (d7 (yn X.O (qf X) (hr.e rfl) (y3 zc x9)) x9))))
    (y7 (wc (xj X.O yc) (x8 (zh (za zg (za (zf hu (z9 1) zc) zb))))))) gd)),?_⟩
 obtain⟨fns,most,ms,fs,n,rows,z,e,b,rs,v,rfl,rfl,l,d,hl1,j,B,D,r,k,a,g,u,h⟩:=hT;unfold msD;refine⟨_,rfl,zaA,rfl,fns,most,ms,"let",fs,n,rows,rfl,rfl,hl1,l,?_⟩;by_cases q:most<=ms.steps.length
 ·have J:xi most n "let" ms=(false,{ms with cut:=true}):=by unfold xi;rw[zaK q]
  rw[J]at h ⊢;exact⟨λy=>(nomatch y),λ_=>⟨_,rfl,h⟩⟩
 have J:xi most n "let" ms=(true,{ms with steps:=ms.steps++[.tup [.int n,.str "let"]]}):=by unfold xi;rw[zaJ q]
 rw[J]at h ⊢;refine⟨λ_=>⟨_,rfl,λy=>(nomatch y.1),zaA,_,rfl,zaA,rfl,fns,most,{ms with steps:=ms.steps++[.tup [.int n,.str "let"]]},rs,[v],rfl,rfl,d,nofun,zaP rfl,⟨k,zaA⟩,a,j,rfl,?_⟩,λy=>(nomatch y)⟩;refine⟨fns,most,{ms with steps:=ms.steps++[.tup [.int n,.str "let"]],ready:=rs},fs,n,rows,[z],[v],rfl,rfl,l,rfl,zaP rfl,g,u,⟨k,zaA⟩,?_⟩;exact⟨_,_,rfl,rfl,_,_,rfl,rfl,by show ms.tasks.length<=100000;lia,rfl,rfl,⟨zaA,r,zaA⟩,_,rfl,h⟩
def O5(X:AX K mg C):FM P w K mg base 3 C fNames "choose" ["self","body"] (Rv C):=by
 obtain⟨f,fd,F,k⟩:=X.m "choose" "Run.choose" 12 aB
 have ds:zo ["self","body","compared"] ["self","body"] (zd (mth 12)):=by walk_at "f"
 refine qi F ds (F.binds (by walk_at "3")) k aB λqZ A outer s H xs d0 S M hr hl hT=>?_
 have hu:=hr.units;refine⟨_,(y7 (vm (Z6 (yn X.O (ui X) (hr.e rfl) (y3 zg x9))) (yf (ju 2 aB ds.nd (yn X.O (qf X) (hr.e rfl) (y3 zc x9)))
    (y7 (wc (xj X.O yc) (x8 (zh (za zg (za (fh (Sw (zf hu (z9 2) zc) (zf hu (z9 2) zc)) (zf hu (z9 1) zc) (zf hu (z9 1) zc)) zb))))))) gd)),?_⟩
 obtain⟨fns,most,ms,fs,n,rows,e1,e2,b1,b2,rs,x,y,rfl,rfl,r,d,hl1,g,l,j,p2,a,h⟩:=hT;unfold msD;refine⟨_,rfl,zaA,rfl,fns,most,ms,"less",fs,n,rows,rfl,rfl,hl1,r,?_⟩;by_cases q:most<=ms.steps.length
 ·have J:xi most n "less" ms=(false,{ms with cut:=true}):=by unfold xi;rw[zaK q]
  rw[J]at h ⊢;exact⟨λy=>(nomatch y),λ_=>⟨_,rfl,h⟩⟩
 have J:xi most n "less" ms=(true,{ms with steps:=ms.steps++[.tup [.int n,.str "less"]]}):=by unfold xi;rw[zaJ q]
 rw[J]at h ⊢;refine⟨λ_=>⟨_,rfl,zaA,rfl,fns,most,{ms with steps:=ms.steps++[.tup [.int n,.str "less"]]},rs,[.int x,.int y],rfl,rfl,d,nofun,zaP rfl,⟨zaA,zaA,zaA⟩,a,g,?_⟩,λy=>(nomatch y)⟩;refine⟨_,_,rfl,rfl,_,_,rfl,rfl,by show ms.tasks.length<=100000;lia,?_⟩
 refine⟨λq=>⟨rfl,rfl,⟨zaA,j,zaA⟩,_,rfl,?_⟩,λq=>⟨rfl,rfl,⟨zaA,p2,zaA⟩,_,rfl,?_⟩⟩
 ·rw[zaK (zbN q)]at h;exact h
 rw[zaJ (zcX q)]at h;exact h
def Lh(X:AX K mg C):FM P w K mg base 1 C fNames "leave" ["self"] (Kf C):=by
 obtain⟨f,fd,F,u⟩:=X.m "leave" "Run.leave" 17 aB
 have ds:zo ["self","frame"] ["self"] (zd (mth 17)):=by walk_at "f"
 refine qi F ds (F.binds (by walk_at "3")) u aB λqZ A outer s H xs d0 S M hr hl hT=>?_
 have hu:=hr.units;refine⟨_,(yf (wb (Xd 1 aB ds.nd (xj X.O yc)))
   (y7 (wb (G5 (xj X.O yc) (zf hu (z9 1) zc) (x3 (yq (zf hu (vo X.O (z9 0)) (zf hu (z9 1) zc)) xk (yg zc)) (zh (za wy (za (zf hu (vo X.O (z9 0)) (ji zc)) zb)))))))),?_⟩
 obtain⟨fns,most,ms,fs,n,rows,e,a,up,rs,v,d,cl2,rfl,rfl,x,g,k,z,r,q,p2,l,h⟩:=hT;have j:ms.frames.map frD=fs.map frD++[frD ((n:Int),rows)]:=by rw[x,zMa];rfl
 have e0:msD C fns most ms=.ob C fNames [dkD fns,.int most,.lst (d++[.tup [e,a,up,.bl false,.non]]++cl2),.lst ms.steps,.lst (fs.map frD++[frD ((n:Int),rows)]),.lst ms.tasks,.lst (rs++[v]),.bl ms.cut]:=by unfold msD;rw[j,z,g]
 rw[e0];refine xg (λU=>U=[q_ (.ob C fNames [dkD fns,.int most,.lst (d++[.tup [e,a,up,.bl false,.non]]++cl2),.lst ms.steps,.lst (fs.map frD),.lst ms.tasks,.lst (rs++[v]),.bl ms.cut]),q_ (frD ((n:Int),rows))]) ?_ ?_
 ·refine⟨_,_,rfl,rfl,_,_,frD ((n:Int),rows),rfl,rfl,?_,?_⟩
  ·rw[zLa];show(fs.map frD++[frD ((n:Int),rows)])[(fs.map frD).length+1-1]?=_;rw[Nat.add_sub_cancel,zaC (zaj _),zbX];rfl
  rw[List.dropLast_concat];rfl
 rintro _ rfl;have B:atI (d++[D.tup [e,a,up,.bl false,.non]]++cl2) (n:Int)=some (.tup [e,a,up,.bl false,.non]):=wz aD (by
  rw[show((n:Int)).toNat=d.length from by lia,zaS,zaC (zaj _),zbX]
  rfl)
 simp only[frD];refine⟨λU=>∃d',slot U 0=q_ d'/\M .non d',?_,λ_ y=>y⟩;walk_at "dl";simp only[B,Ti];have G:cutD [e,a,up,D.bl false,D.non] none (some 3)=[e,a,up]:=rfl;rw[G];refine⟨λy=>absurd y.2 (by unfold ZZ.sIx;simp),by simp,by rw[zbH];show 5<=_;decide,⟨q,p2,l,zaA,k,zaA⟩,_,_,rfl,rfl,_,_,_,n,rfl,rfl,rfl,?_,_,rfl,?_⟩
 ·unfold ixN;rw[zaK aD,zaK (by rw[zLa,zLa];simp;lia)]
  rfl
 have J:(d++[D.tup [e,a,up,.bl false,.non]]++cl2).set n (.tup ([e,a,up]++[D.bl true,v]))=d++[.tup [e,a,up,.bl true,v]]++cl2:=by
  rw[zaS,zfK _ _ aD,r,zbX,zaS]
  rfl
 unfold msD at h;simp only[g]at h;rw[J];exact h
variable{R:Str->D->Int->Prop}
def Rp(R:Str->D->Int->Prop):FT:=g2 λa b M=>∃sh v n,a=.str sh/\b=v/\R sh v n/\M (dv (.int n))
def Zs1(C:Addr)(R:Str->D->Int->Prop):FTQ:=λd S M=>∃fns most s fs n rows sh v sz,d=msD C fns most s/\S=[.str sh,v]/\s.frames=fs++[(n,rows)]/\s.steps.length<=10000/\s.ready.length<=10000/\zi v/\R sh v sz /\
 M .non (msD C fns most (if 100<sz then {s with cut:=true} else match xi most n "make" s with
  |(true,s')=>{s' with ready:=s.ready++[v]}
  | (false,s')=>s'))
def Fp(X:AX K mg C)(a:FD P w K mg base 5 "size_of" ["shape","value"] (Rp R)):FM P w K mg base 6 C fNames "make" ["self","shape","thing"] (Zs1 C R):=by
 obtain⟨f,fd,F,g⟩:=X.m "make" "Run.make" 15 aB
 have ds:zo ["self","shape","thing"] ["self","shape","thing"] (zd (mth 15)):=by walk_at "f"
 refine qi F ds (F.binds (by walk_at "3")) g aB λqZ A outer s H xs d0 S M hr hl hT=>?_
 have hu:=hr.units;refine⟨_,(y7 (vm (uq (Sy (zy a (hr.e rfl) (za (z9 1) (za (z9 2) zb))) (Oj X.Z.c_MOST_SIZE))) (y7 (Ue X.O yc (x8 wy))) (y7 (vm (Z6 (yn X.O (ui X) (hr.e rfl) (y3 zg x9))) (y7 (wc (xj X.O yc) (x8 (z9 2)))) gd)))),?_⟩;obtain⟨fns,most,ms,fs,n,rows,sh,v,sz,rfl,rfl,k,hl1,j,d,l,h⟩:=hT;unfold msD;refine⟨rfl,sh,v,sz,rfl,rfl,l,λq=>⟨zaA,_,_,rfl,rfl,by decide,_,rfl,?_⟩,λq=>⟨_,rfl,zaA,rfl,fns,most,ms,"make",fs,n,rows,rfl,rfl,hl1,k,?_⟩⟩
 ·rw[zaK (zbN q)]at h;exact h
 rw[zaJ (zcX q)]at h;have r:frs2 (dv v):=by
  cases v <;> first|exact d|exact d.elim
 by_cases q2:most<=ms.steps.length
 ·have J:xi most n "make" ms=(false,{ms with cut:=true}):=by unfold xi;rw[zaK q2]
  rw[J]at h ⊢;exact⟨λy=>(nomatch y),λ_=>⟨_,rfl,h⟩⟩
 have J:xi most n "make" ms=(true,{ms with steps:=ms.steps++[.tup [.int n,.str "make"]]}):=by unfold xi;rw[zaJ q2]
 rw[J]at h ⊢;exact⟨λ_=>⟨_,_,rfl,rfl,_,_,rfl,rfl,by show ms.ready.length<=100000;lia,r,_,rfl,h⟩,λy=>(nomatch y)⟩
def Ow(v:D)(r:List D):ZZ.cutD (v::r) (some 1) none=r:=by
 unfold ZZ.cutD;simp[ZZ.sIx]
def Zt(C:Addr):FTQ:=λd S M=>∃fns most s fs n rows,∃kd x:Str,∃b1 b2,d=msD C fns most s/\s.frames=fs++[(n,rows)]/\s.tasks.length<=10000/\zi b1/\zi b2/\rows.length<=900 /\
 ((∃bs th,S=[.tup (.str kd::.str x::b1::bs),th]/\(th=.non\/th=.tup [])/\M .non (msD C fns most {s with tasks:=s.tasks++[bdD b1]})) \/
  (∃h t:Str,∃v r,S=[.tup [.str "list",.str x,b1,.str h,.str t,b2],.tup (v::r)]/\okD 150 (.tup (v::r))/\zi v/\zu r/\(rows.map Prod.fst++[h,t]).Nodup/\M .non (msD C fns most {s with frames:=fs++[(n,rows++[(h,v),(t,.tup r)])],tasks:=s.tasks++[bdD b2]})) \/
  (∃l m r:Str,∃v1 v2 v3,S=[.tup [.str "tree",.str x,b1,.str l,.str m,.str r,b2],.tup [v1,v2,v3]]/\okD 150 (.tup [v1,v2,v3])/\zi v1/\zi v2/\zi v3/\(rows.map Prod.fst++[l,m,r]).Nodup/\M .non (msD C fns most {s with frames:=fs++[(n,rows++[(l,v1),(m,v2),(r,v3)])],tasks:=s.tasks++[bdD b2]})))
def O4(X:AX K mg C):FM P w K mg base 2 C fNames "follow" ["self","body","thing"] (Zt C):=by
 obtain⟨f,fd,F,W⟩:=X.m "follow" "Run.follow" 10 aB
 have ds:zo ["self","body","thing","parts"] ["self","body","thing"] (zd (mth 10)):=by walk_at "f"
 refine qi F ds (F.binds (by walk_at "3")) W aB λqZ A outer s H xs d0 S M hr hl hT=>?_
 have hu:=hr.units;refine⟨_,(yf (vm (uq (EW.et (ua (A8 (z9 2) uk) (uj (A9 (ZZ.Room.far hr) (z9 2) (zh zb)))))) (yf (wc (xj X.O yc) (x8 (zh (za zg (za (zf hu (z9 1) zc) zb)))))
    (y7 G4)) gd)
   (yf (Uc 3 aB ds.nd (fh (xy hu (zf hu (z9 1) zc) zg) (zh (za (zf hu (z9 2) zc) (za (yq (z9 2) (yg zc) xk) zb))) (z9 2)))
   (yf (xp (yn X.O (T3 X) (hr.e rfl) (y3 (yq (z9 1) (yg zc) (yg (ji zc))) (y3 (z9 3) x9))))
   (y7 (wc (xj X.O yc) (x8 (zh (za zg (za (zf hu (z9 1) (ji zc)) zb))))))))),?_⟩
 obtain⟨fns,most,ms,fs,n,rows,kd,x,b1,b2,rfl,B,hl1,R,p2,g,h⟩:=hT;unfold msD;have d:okD 150 (.tup []):=by intro x h;cases h
 rcases h with⟨bs,th,rfl,V,h⟩|⟨k,j,v,r,rfl,ok,Q,pr,nd,h⟩|⟨k,j,D,N,L,I,rfl,ok,u,q,l,nd,h⟩
 ·refine y4 true (λG a=>?_) (λ_=>?_) nofun
  ·rcases V with rfl|rfl
   ·exact⟨λ_=>a,nofun⟩
   exact⟨nofun,λ_=>⟨rfl,rfl,d,d,a⟩⟩
  walk_at "dl";exact⟨_,_,rfl,rfl,_,_,rfl,rfl,by show ms.tasks.length<=100000;lia,⟨zaA,R,zaA⟩,_,rfl,h⟩
 ·refine wf [_,_,_,none] (λes z=>y4 false (λG a=>⟨nofun,λ_=>⟨rfl,rfl,ok,d,a⟩⟩) nofun λ_=>z) ?_;refine wf [q_ (msD C fns most ms),q_ (.tup [.str "list",.str x,b1,.str k,.str j,b2]),q_ (.tup (v::r)),q_ (.tup [v,.tup r])] (λes z=>?_) ?_
  ·refine cs ⟨λ_=>?_,nofun⟩;walk_at "dl";have Y:ZZ.cutD (v::r) (some 1) none=r:=Ow v r;rw[Y];exact⟨λy=>absurd y.1 (by unfold ZZ.sIx;simp),z⟩
  refine⟨_,rfl,λy=>(nomatch y.1),zaA,zaA,rfl,fns,most,ms,fs,n,rows,[k,j],[v,.tup r],rfl,rfl,B,rfl,zaP rfl,g,nd,⟨Q,pr,zaA⟩,?_⟩;exact⟨_,_,rfl,rfl,_,_,rfl,rfl,by show ms.tasks.length<=100000;lia,rfl,rfl,⟨zaA,p2,zaA⟩,_,rfl,h⟩
 refine y4 false (λG a=>⟨nofun,λ_=>⟨rfl,rfl,ok,d,a⟩⟩) nofun (λ_=>?_);refine cs ⟨nofun,λ_=>⟨zaA,_,rfl,λy=>(nomatch y.1),zaA,zaA,rfl,fns,most,ms,fs,n,rows,[k,j,D],[N,L,I],rfl,rfl,B,rfl,zaP rfl,g,nd,⟨u,q,l,zaA⟩,?_⟩⟩;exact⟨_,_,rfl,rfl,_,_,rfl,rfl,by show ms.tasks.length<=100000;lia,rfl,rfl,⟨zaA,p2,zaA⟩,_,rfl,h⟩
def ci{v:D}(a:zi v):frs2 (dv v):=by
 cases v <;> first|exact a|exact a.elim
def jf(X:AX K mg C):FM P w K mg base 1 C fNames "behind" ["self","parts","task"] (Hj C):=by
 obtain⟨f,fd,F,k⟩:=X.m "behind" "Run.behind" 8 aB
 have ds:zo ["self","parts","task"] ["self","parts","task"] (zd (mth 8)):=by walk_at "f"
 refine qi F ds (F.binds (by walk_at "3")) k aB λqZ A outer s H xs d0 S M hr hl hT=>?_
 have hu:=hr.units;refine⟨_,(yf (wb (wc (xj X.O yc) (x8 (z9 2))))
   (y7 (wb (G6 (xj X.O yc) (sk (T:=["part"]) (F:=[]) (js:=[]) (W6 X.T.reversed (za (z9 1) zb)) (show y0 (zd (mth 8)) _ ["part"] [] from by walk_at "c") .nil aB (by walk_at "t") (yi aB) (ym 0) (λcl C fp s H=>wg) (λcl C fp s H=>(zh (za zg (za (z9 0) zb))))))))),?_⟩
 obtain⟨fns,most,ms,J,t,rfl,rfl,hl1,e,pt,l,h⟩:=hT;have ft:frs2 (dv t):=ci pt;refine xg (λU=>U=[q_ (msD C fns most {ms with tasks:=ms.tasks++[t]}),q_ (.tup J),q_ t]) ?_ ?_
 ·unfold msD;exact⟨_,_,rfl,rfl,_,_,rfl,rfl,by show ms.tasks.length<=100000;lia,ft,rfl⟩
 rintro _ rfl;refine⟨λU=>∃d',slot U 0=q_ d'/\M .non d',?_,λ_ y=>y⟩;unfold msD;simp only[G9,pFld,Gv,slot,List.getElem?_cons_zero,ix5];refine⟨_,_,rfl,rfl,_,_,rfl,rfl,by show(ms.tasks++[t]).length<=100000;rw[zLa];simp;lia,?_⟩
 refine xx J.reverse ?_ (λd=>some (vlD d)) (by rw[zaH];lia) ?_ ?_
 ·intro G a;unfold iBT;exact⟨zaA,a⟩
 ·intro d r;unfold ρ0;walk_at "dl";rfl
 have q:J.reverse.filterMap (λd=>some (vlD d))=J.reverse.map vlD:=by rw[<- zdK];rfl
 rw[q];refine⟨?_,by rw[zLm,zaH];lia,_,rfl,?_⟩
 ·refine y8.mpr λx j=>?_;obtain⟨y,g,rfl⟩:=zah.mp j;exact⟨zaA,y8.mp e y (List.mem_reverse.mp g),zaA⟩
 exact h
def Hg(C:Addr):FT:=λS M=>∃fns most s z fs n rows v,S=[msD C fns most s,.str z]/\s.frames=fs++[(n,rows)]/\rowG rows z=some v/\zi v/\M (dv v)
def gj(X:AX K mg C):FMD P w K mg base 1 C fNames "standing" ["self","name"] (Hg C):=by
 obtain⟨f,fd,F,e⟩:=X.m "standing" "Run.standing" 5 aB
 have ds:zo ["self","name"] ["self","name"] (zd (mth 5)):=by walk_at "f"
 refine A6 F ds (F.binds (by walk_at "3")) e aB λqZ A outer s H xs S M hr hl hT=>?_
 have hu:=hr.units;refine⟨_,(zm (yb (zf hu (zf hu (zf hu (vo X.O (z9 0)) (ji zc)) zc) (z9 1)))),?_⟩;obtain⟨fns,most,ms,z,fs,n,rows,v,rfl,g,d,a,h⟩:=hT;unfold msD;rw[g,zMa,zaB,zbO];simp only[frD];walk_at "dl";unfold dkD;simp only[dt,d];exact⟨a,h⟩
noncomputable def apD(e:D):D:=.tup [.str "apply",e]
def tVal(C:Addr):FTQ:=λd S M=>∃fns most s,d=msD C fns most s/\s.tasks.length<=10000/\s.ready.length<=10000 /\
 ((∃v,S=[.tup [.str "num",v]]/\zi v/\M .non (msD C fns most {s with ready:=s.ready++[v]})) \/
  (∃fs n rows z v,S=[.tup [.str "var",.str z]]/\s.frames=fs++[(n,rows)]/\rowG rows z=some v/\zi v/\M .non (msD C fns most {s with ready:=s.ready++[v]})) \/
  (S=[.tup [.str "nil"]]/\M .non (msD C fns most {s with ready:=s.ready++[.tup []]})) \/
  (S=[.tup [.str "leaf"]]/\M .non (msD C fns most {s with ready:=s.ready++[.non]})) \/
  (∃f J,S=[.tup [.str "call",f,.tup J]]/\J.length<=100/\zi f/\zu J/\M .non (msD C fns most {s with tasks:=s.tasks++[apD (.tup [.str "call",f,.tup J])]++J.reverse.map vlD})) \/
  (∃kd:Str,∃J,S=[.tup (.str kd::J)]/\(kd = "cons"\/kd = "node"\/kd = "add"\/kd = "sub")/\J.length<=100/\zu J/\M .non (msD C fns most {s with tasks:=s.tasks++[apD (.tup (.str kd::J))]++J.reverse.map vlD})))
def X1{d:D}{S:List D}{M G:D->D->Prop}(h:Zt C d S M)(k:∀ d,M .non d->G .non d):Zt C d S G:=by
 obtain⟨fns,most,ms,fs,n,rows,kd,x,b1,b2,e,Q,hl1,N,p2,y,h⟩:=h;refine⟨fns,most,ms,fs,n,rows,kd,x,b1,b2,e,Q,hl1,N,p2,y,?_⟩;rcases h with⟨bs,th,e,O,h⟩|⟨g,a,v,r,e,ok,L,pr,u,h⟩|⟨g,a,z,es,I,B,e,ok,q,l,j,u,h⟩
 ·exact .inl ⟨bs,th,e,O,k _ h⟩
 ·exact .inr (.inl ⟨g,a,v,r,e,ok,L,pr,u,k _ h⟩)
 exact .inr (.inr ⟨g,a,z,es,I,B,e,ok,q,l,j,u,k _ h⟩)
noncomputable def brD(b:D):D:=.tup [.str "bring",b]
noncomputable def chD(b:D):D:=.tup [.str "choose",b]
def D6(C:Addr):FTQ:=λd S M=>∃fns most s,d=msD C fns most s/\s.tasks.length<=10000 /\
 ((∃e,S=[.tup [.str "give",e]]/\zi e/\M .non (msD C fns most {s with tasks:=s.tasks++[vlD e]})) \/
  (∃z e b,S=[.tup [.str "let",z,e,b]]/\zi z/\zi e/\zi b/\M .non (msD C fns most {s with tasks:=s.tasks++[brD (.tup [.str "let",z,e,b])]++[vlD e]})) \/
  (∃e1 e2 b1 b2,S=[.tup [.str "less",e1,e2,b1,b2]]/\zi e1/\zi e2/\zi b1/\zi b2/\M .non (msD C fns most {s with tasks:=s.tasks++[chD (.tup [.str "less",e1,e2,b1,b2])]++[vlD e2,vlD e1]})) \/
  (∃kd x:Str,∃bs fs n rows th,S=[.tup (.str kd::.str x::bs)]/\(kd = "list"\/kd = "tree")/\s.frames=fs++[(n,rows)]/\s.steps.length<=10000/\rowG rows x=some th/\zi th /\
    (match xi most n "open" s with
   |(true,s')=>Zt C (msD C fns most s') [.tup (.str kd::.str x::bs),th] M
   | (false,s')=>M .non (msD C fns most s'))))
def b9(X:AX K mg C):FM P w K mg base 2 C fNames "begin_value" ["self","expression"] (tVal C):=by
 obtain⟨f,fd,F,r⟩:=X.m "begin_value" "Run.begin_value" 13 aB
 have ds:zo ["self","expression","kind"] ["self","expression"] (zd (mth 13)):=by walk_at "f"
 refine qi F ds (F.binds (by walk_at "3")) r aB λqZ A outer s H xs d0 S M hr hl hT=>?_
 have hu:=hr.units;refine⟨_,(yf (Uc 2 aB ds.nd (zf hu (z9 1) zc))
   (y7 (vm (uq (xy hu (z9 2) zg)) (y7 (wc (xj X.O yc) (x8 (zf hu (z9 1) zc)))) (y7 (vm (uq (xy hu (z9 2) zg)) (y7 (wc (xj X.O yc) (x8 (Oi X.O (gj X) (hr.e rfl) (z9 0) (za (zf hu (z9 1) zc) zb))))) (y7 (vm (uq (xy hu (z9 2) zg)) (y7 (wc (xj X.O yc) (x8 (zh zb)))) (y7 (vm (uq (xy hu (z9 2) zg)) (y7 (wc (xj X.O yc) (x8 uk))) (y7 (vm (uq (xy hu (z9 2) zg)) (y7 (xp (yn X.O (jf X) (hr.e rfl) (y3 (zf hu (z9 1) zc) (y3 (zh (za zg (za (z9 1) zb))) x9))))) (y7 (xp (yn X.O (jf X) (hr.e rfl) (y3 (yq (z9 1) (yg zc) xk) (y3 (zh (za zg (za (z9 1) zb))) x9)))))))))))))))),?_⟩
 obtain⟨fns,most,ms,rfl,hl1,u,h⟩:=hT;unfold msD;rcases h with⟨v,rfl,k,h⟩|⟨fs,n,rows,z,v,rfl,B,q,k,h⟩|⟨rfl,h⟩|⟨rfl,h⟩|⟨D,J,rfl,d,l,g,h⟩|⟨kd,J,rfl,x,d,g,h⟩
 ·refine wf [_,_,q_ (.str _)] (λes a=>⟨zaA,a⟩) (y4 true (λ_=>cs) (λ_=>?_) nofun);exact⟨_,_,rfl,rfl,_,_,rfl,rfl,by show ms.ready.length<=100000;lia,ci k,_,rfl,h⟩
 ·refine wf [_,_,q_ (.str _)] (λes a=>⟨zaA,a⟩) (y4 false (λ_=>cs) nofun λ_=>y4 true (λ_=>cs) (λ_=>?_) nofun);exact⟨_,_,rfl,rfl,_,_,rfl,rfl,by show ms.ready.length<=100000;lia,⟨_,rfl⟩,rfl,fns,most,ms,z,fs,n,rows,v,rfl,B,q,k,ci k,_,rfl,h⟩
 ·refine wf [_,_,q_ (.str _)] (λes a=>⟨zaA,a⟩) (y4 false (λ_=>cs) nofun λ_=>y4 false (λ_=>cs) nofun λ_=>y4 true (λ_=>cs) (λ_=>?_) nofun);exact⟨_,_,rfl,rfl,_,_,rfl,rfl,by show ms.ready.length<=100000;lia,rfl,rfl,zaA,_,rfl,h⟩
 ·refine wf [_,_,q_ (.str _)] (λes a=>⟨zaA,a⟩) (y4 false (λ_=>cs) nofun λ_=>y4 false (λ_=>cs) nofun λ_=>y4 false (λ_=>cs) nofun λ_=>y4 true (λ_=>cs) (λ_=>?_) nofun);exact⟨_,_,rfl,rfl,_,_,rfl,rfl,by show ms.ready.length<=100000;lia,zaA,_,rfl,h⟩
 ·refine wf [_,_,q_ (.str _)] (λes a=>⟨zaA,a⟩) (y4 false (λ_=>cs) nofun λ_=>y4 false (λ_=>cs) nofun λ_=>y4 false (λ_=>cs) nofun λ_=>y4 false (λ_=>cs) nofun λ_=>y4 true (λ_=>cs) (λ_=>?_) nofun);exact⟨_,rfl,zaA,rfl,rfl,zaA,rfl,fns,most,ms,J,apD _,rfl,rfl,d,g,⟨zaA,⟨zaA,l,g,zaA⟩,zaA⟩,hl1,_,rfl,h⟩
 have j:kd≠"num"/\kd≠"var"/\kd≠"nil"/\kd≠"leaf"/\kd≠"call":=by rcases x with rfl|rfl|rfl|rfl <;> decide
 refine wf [_,_,q_ (.str _)] (λes a=>by walk_at "dl";exact a) (y4 false (λ_=>cn j.1) nofun λ_=>y4 false (λ_=>cn j.2.1) nofun λ_=>y4 false (λ_=>cn j.2.2.1) nofun λ_=>y4 false (λ_=>cn j.2.2.2.1) nofun λ_=>y4 false (λ_=>cn j.2.2.2.2) nofun λ_=>?_)
 walk_at "dl";rw[Ow];refine⟨_,rfl,⟨λy=>absurd y.1 (by unfold ZZ.sIx;simp),?_⟩⟩
 refine⟨fns,most,ms,J,apD _,rfl,rfl,d,g,⟨zaA,⟨zaA,g⟩,zaA⟩,hl1,?_⟩;exact⟨_,rfl,h⟩
def Yk(X:AX K mg C):FM P w K mg base 3 C fNames "begin_body" ["self","body"] (D6 C):=by
 obtain⟨f,fd,F,G⟩:=X.m "begin_body" "Run.begin_body" 9 aB
 have ds:zo ["self","body","kind"] ["self","body"] (zd (mth 9)):=by walk_at "f"
 refine qi F ds (F.binds (by walk_at "3")) G aB λqZ A outer s H xs d0 S M hr hl hT=>?_
 have hu:=hr.units;refine⟨_,(yf (Uc 2 aB ds.nd (zf hu (z9 1) zc))
   (y7 (vm (uq (xy hu (z9 2) zg)) (y7 (wc (xj X.O yc) (x8 (zh (za zg (za (zf hu (z9 1) zc) zb)))))) (y7 (vm (uq (xy hu (z9 2) zg)) (y7 (xp (yn X.O (jf X) (hr.e rfl) (y3 (yq (z9 1) (yg zc) (yg zc)) (y3 (zh (za zg (za (z9 1) zb))) x9))))) (y7 (vm (uq (xy hu (z9 2) zg)) (y7 (xp (yn X.O (jf X) (hr.e rfl) (y3 (yq (z9 1) (yg zc) (yg zc)) (y3 (zh (za zg (za (z9 1) zb))) x9))))) (y7 (vm (Z6 (yn X.O (ui X) (hr.e rfl) (y3 zg x9))) (y7 (xp (yn X.O (O4 X) (hr.e rfl) (y3 (z9 1) (d7 (W5 (Oi X.O (gj X) (hr.e rfl) (z9 0) (za (zf hu (z9 1) zc) zb))) x9))))) gd))))))))),?_⟩
 obtain⟨fns,most,ms,rfl,hl1,h⟩:=hT;unfold msD;rcases h with⟨v,rfl,g,h⟩|⟨z,e,b,rfl,j,p2,k,h⟩|⟨e1,e2,b1,b2,rfl,j,p2,k,B,h⟩|⟨kd,x,bs,fs,n,rows,th,rfl,I,u,r,D,g,h⟩
 ·refine wf [_,_,q_ (.str _)] (λes a=>⟨zaA,a⟩) (y4 true (λ_=>cs) (λ_=>?_) nofun);exact⟨_,_,rfl,rfl,_,_,rfl,rfl,by show ms.tasks.length<=100000;lia,rfl,rfl,⟨zaA,g,zaA⟩,_,rfl,h⟩
 ·refine wf [_,_,q_ (.str _)] (λes a=>⟨zaA,a⟩) (y4 false (λ_=>cs) nofun λ_=>y4 true (λ_=>cs) (λ_=>?_) nofun);exact⟨_,rfl,λy=>(nomatch y.1),zaA,rfl,rfl,zaA,rfl,fns,most,ms,[e],brD _,rfl,rfl,zaP rfl,⟨p2,zaA⟩,⟨zaA,⟨zaA,j,p2,k,zaA⟩,zaA⟩,hl1,_,rfl,h⟩
 ·refine wf [_,_,q_ (.str _)] (λes a=>⟨zaA,a⟩) (y4 false (λ_=>cs) nofun λ_=>y4 false (λ_=>cs) nofun λ_=>y4 true (λ_=>cs) (λ_=>?_) nofun);exact⟨_,rfl,λy=>(nomatch y.1),zaA,rfl,rfl,zaA,rfl,fns,most,ms,[e1,e2],chD _,rfl,rfl,zaP rfl,⟨j,p2,zaA⟩,⟨zaA,⟨zaA,j,p2,k,B,zaA⟩,zaA⟩,hl1,_,rfl,h⟩
 have l:kd≠"give"/\kd≠"let"/\kd≠"less":=by rcases I with rfl|rfl <;> decide
 refine wf [_,_,q_ (.str _)] (λes a=>by walk_at "dl";exact a) (y4 false (λ_=>cn l.1) nofun λ_=>y4 false (λ_=>cn l.2.1) nofun λ_=>y4 false (λ_=>cn l.2.2) nofun λ_=>?_)
 walk_at "dl";refine⟨_,rfl,fns,most,ms,"open",fs,n,rows,rfl,rfl,r,u,?_⟩;by_cases q:most<=ms.steps.length
 ·have J:xi most n "open" ms=(false,{ms with cut:=true}):=by unfold xi;rw[zaK q]
  rw[J]at h ⊢;exact⟨λy=>(nomatch y),λ_=>⟨_,rfl,h⟩⟩
 have J:xi most n "open" ms=(true,{ms with steps:=ms.steps++[.tup [.int n,.str "open"]]}):=by unfold xi;rw[zaJ q]
 rw[J]at h ⊢;refine⟨λ_=>?_,λy=>(nomatch y)⟩;refine⟨_,rfl,⟨_,rfl⟩,fns,most,{ms with steps:=ms.steps++[.tup [.int n,.str "open"]]},x,fs,n,rows,th,rfl,u,D,g,g,?_⟩;exact X1 h λd L=>⟨_,rfl,L⟩
noncomputable def pmD(ps:List (Str×D)):D:=.tup (ps.map λp=>.tup [.str p.1,p.2])
noncomputable def upD(fs:List (Int×List (Str×D))):D:=match fs.getLast? with
 |some p=>.int p.1
 |none=>.non
noncomputable def qq(most:Int)(d:Str)(a:List D)(ps:List (Str×D))(b:D)(s:MS):MS:=if 20<=s.frames.length then {s with cut:=true} else match xi most s.calls.length "call" s with
 |(true,s')=>{s' with calls:=s.calls++[.tup [.str d,.tup a,upD s.frames,.bl false,.non]],frames:=s.frames++[((s.calls.length:Int),(ps.map Prod.fst).zip a)],tasks:=s.tasks++[.tup [.str "leave"]]++[bdD b]}
 |(false,s')=>s'
def U3(C:Addr):FTQ:=λd S M=>∃fns most s,∃nm:Str,∃as:List D,∃n0 ps sz b,d=msD C fns most s/\S=[.str nm,.tup as]/\rowG fns nm=some (.tup [n0,pmD ps,sz,b])/\zi n0/\zu (ps.map Prod.snd)/\zi sz/\zi b/\zu as/\ps.length=as.length/\as.length<=10/\(ps.map Prod.fst).Nodup/\s.steps.length<=10000/\s.calls.length<=10000/\s.tasks.length<=10000 /\
 M .non (msD C fns most (qq most nm as ps b s))
def Rx(C:Addr)(R:Str->D->Int->Prop):FTQ:=λd S M=>∃fns most s rs,d=msD C fns most s/\s.ready.length<=10000/\zu rs /\
 ((∃nm:Str,∃J us,S=[.tup [.str "call",.str nm,.tup J]]/\s.ready=rs++us/\us.length=J.length/\us≠[]/\us.length<=10/\zu us/\U3 C (msD C fns most {s with ready:=rs}) [.str nm,.tup us] M) \/
  (∃e1 e2 v r,S=[.tup [.str "cons",e1,e2]]/\s.ready=rs++[v,.tup r]/\zi v/\zu r/\r.length<=10000/\Zs1 C R (msD C fns most {s with ready:=rs}) [.str "list",.tup (v::r)] M) \/
  (∃e1 e2 e3 v1 v2 v3,S=[.tup [.str "node",e1,e2,e3]]/\s.ready=rs++[v1,v2,v3]/\zi v1/\zi v2/\zi v3/\Zs1 C R (msD C fns most {s with ready:=rs}) [.str "tree",.tup [v1,v2,v3]] M) \/
  (∃(kd:Str),∃e1 e2,∃x y:Int,∃fs n rows,S=[.tup [.str kd,e1,e2]]/\(kd = "add"\/kd = "sub")/\s.frames=fs++[(n,rows)]/\s.steps.length<=10000/\s.ready=rs++[.int x,.int y] /\
    M .non (msD C fns most (match xi most n "sum" s with
   |(true,s')=>{s' with ready:=rs++[.int (if kd = "add" then x+y else x-y)]}
   | (false,s')=>s'))))
def Wq{d:D}{S:List D}{M G:D->D->Prop}(h:U3 C d S M)(k:∀ d,M .non d->G .non d):U3 C d S G:=by
 obtain⟨fns,most,s,q,es,r,ps,sz,b,h1,h2,I,B,z,y,x,v,u,l,j,g,e,a,h⟩:=h;exact⟨fns,most,s,q,es,r,ps,sz,b,h1,h2,I,B,z,y,x,v,u,l,j,g,e,a,k _ h⟩
def bw{d:D}{S:List D}{M G:D->D->Prop}(h:Zs1 C R d S M)(k:∀ d,M .non d->G .non d):Zs1 C R d S G:=by
 obtain⟨fns,most,s,fs,n,rows,sh,v,sz,h1,h2,l,j,g,e,a,h⟩:=h;exact⟨fns,most,s,fs,n,rows,sh,v,sz,h1,h2,l,j,g,e,a,k _ h⟩
def T4(X:AX K mg C):FM P w K mg base 2 C fNames "enter" ["self","name","args"] (U3 C):=by
 obtain⟨f,fd,F,hm⟩:=X.m "enter" "Run.enter" 16 aB
 have ds:zo ["self","name","args","number","up","function"] ["self","name","args"] (zd (mth 16)):=by walk_at "f"
 refine qi F ds (F.binds (by walk_at "3")) hm aB λqZ A outer s H xs d0 S M hr hl hT=>?_
 have hu:=hr.units;refine⟨_,(yf (wb (ju 3 aB ds.nd (W5 (yo X.T.len (za (vo X.O (z9 0)) zb)))))
   (y7 (wb (vm (uq (R5 (yo X.T.len (za (vo X.O (z9 0)) zb)) (Oj X.Z.c_MOST_CALLS))) (y7 (wb (Ue X.O yc (x8 wy)))) (y7 (wb (vm (Z6 (yn X.O (O3 X) (hr.e rfl) (y3 (z9 3) (y3 zg x9)))) (yf (wb (ju 4 aB ds.nd (W5 (fh (x4 (vo X.O (z9 0))) (zf hu (zf hu (vo X.O (z9 0)) (ji zc)) zc) uk))))
     (yf (wb (ju 5 aB ds.nd (W5 (zf hu (vo X.O (z9 0)) (z9 1)))))
     (yf (wb (wc (xj X.O yc) (x8 (zh (za (z9 1) (za (z9 2) (za (z9 4) (za wy (za uk zb)))))))))
     (yf (wb (wc (xj X.O yc) (Ad (T9 (x8 (z9 3)) (T9 (x8 (Tb X.T.dict X.T.zip (za (sk (T:=["param","shape"]) (F:=[]) (js:=[]) (xo (zf hu (z9 5) zc)) (show y0 (zd (mth 16)) _ ["param","shape"] [] from by walk_at "c") .nil aB (by walk_at "t") (ca (wx xf (k7 xf ur) (yi aB) (wx xf ur (yi aB) cf))) (rg 0 1) (λcl C fp s H=>wg) (λcl C fp s H=>(z9 0))) (za (z9 2) zb)))) E1)))))
     (yf (wb (wc (xj X.O yc) (x8 (zh (za zg zb)))))
     (y7 (wb (wc (xj X.O yc) (x8 (zh (za zg (za (zf hu (z9 5) zc) zb)))))))))))) gd))))))),?_⟩
 obtain⟨fns,most,ms,j,g,k,ps,sz,b,rfl,rfl,hf,W,p2,V,es,I,hl,a5,nd,v,a4,a0,h⟩:=hT;refine xg (λU=>U=[q_ (msD C fns most ms),q_ (.str j),q_ (.tup g),q_ (.int ms.calls.length),none,none]) ?_ ?_
 ·exact⟨rfl,rfl,zaA,rfl⟩
 rintro _ rfl;refine⟨λU=>∃d',slot U 0=q_ d'/\M .non d',?_,λ_ y=>y⟩;unfold msD;refine⟨rfl,rfl,λq=>⟨λU=>∃d',slot U 0=q_ d'/\M .non d',?_,λ_ y=>y⟩,λq=>⟨λU=>∃d',slot U 0=q_ d'/\M .non d',?_,λ_ y=>y⟩⟩
 ·unfold qq at h;rw[zaK (by have z:=zbN q;rw[zLm]at z;lia)]at h
  exact⟨zaA,_,_,rfl,rfl,by decide,_,rfl,h⟩
 unfold qq at h;have q:¬ 20<=ms.frames.length:=by have z:=zcX q;rw[zLm]at z;lia
 rw[zaJ q]at h;refine⟨_,rfl,zaA,zaA,rfl,fns,most,ms,ms.calls.length,"call",rfl,rfl,v,?_⟩;by_cases q2:most<=ms.steps.length
 ·have J:xi most ms.calls.length "call" ms=(false,{ms with cut:=true}):=by unfold xi;rw[zaK q2]
  rw[J]at h ⊢;exact⟨λy=>(nomatch y),λ_=>⟨_,rfl,h⟩⟩
 have J:xi most ms.calls.length "call" ms=(true,{ms with steps:=ms.steps++[.tup [.int ms.calls.length,.str "call"]]}):=by unfold xi;rw[zaJ q2]
 rw[J]at h ⊢;refine⟨λ_=>?_,λy=>(nomatch y)⟩;generalize e1:({ms with steps:=ms.steps++[.tup [.int ms.calls.length,.str "call"]]}:MS)=s1 at h ⊢;have B:s1.frames=ms.frames:=by rw[<- e1]
 have Q:s1.calls=ms.calls:=by rw[<- e1]
 have N:s1.tasks=ms.tasks:=by rw[<- e1]
 refine xg (λU=>U=[q_ (msD C fns most s1),q_ (.str j),q_ (.tup g),q_ (.int ms.calls.length),q_ (upD ms.frames),none]) ?_ ?_
 ·unfold msD;rw[B];rcases zeB ms.frames with e|⟨fs,p,e⟩
  ·rw[e];exact⟨rfl,rfl,λz=>(nomatch z),λ_=>⟨zaA,rfl⟩⟩
  obtain⟨pn,pr⟩:=p;rw[e,zdL,zMa];have eu:upD (fs++[(pn,pr)])=.int pn:=by unfold upD;simp
  rw[eu];simp only[frD,zaB,zbO];walk_at "dl";exact λz=>absurd z aE
 rintro _ rfl;have l:zi (pmD ps):=y8.mpr λx Y=>by
  obtain⟨y,L,rfl⟩:=zah.mp Y;exact⟨zaA,y8.mp p2 _ (zah.mpr ⟨y,L,rfl⟩),zaA⟩
 refine xg (λU=>U=[q_ (msD C fns most s1),q_ (.str j),q_ (.tup g),q_ (.int ms.calls.length),q_ (upD ms.frames),q_ (.tup [k,pmD ps,sz,b])]) ?_ ?_
 ·unfold msD;walk_at "dl";unfold dkD;simp only[dt,hf];exact⟨⟨W,l,V,es,zaA⟩,zaA⟩
 rintro _ rfl;have R:zi (upD ms.frames):=by unfold upD;split <;> trivial
 refine xg (λU=>U=[q_ (msD C fns most {s1 with calls:=ms.calls++[.tup [.str j,.tup g,upD ms.frames,.bl false,.non]]}),q_ (.str j),q_ (.tup g),q_ (.int ms.calls.length),q_ (upD ms.frames),q_ (.tup [k,pmD ps,sz,b])]) ?_ ?_
 ·unfold msD;exact⟨_,_,rfl,rfl,_,_,rfl,rfl,by show s1.calls.length<=100000;rw[Q];lia,rfl,rfl,⟨zaA,I,R,zaA,zaA,zaA⟩,by rw[Q];rfl⟩
 rintro _ rfl;refine xg (λU=>U=[q_ (msD C fns most {s1 with calls:=ms.calls++[.tup [.str j,.tup g,upD ms.frames,.bl false,.non]],frames:=ms.frames++[((ms.calls.length:Int),(ps.map Prod.fst).zip g)]}),q_ (.str j),q_ (.tup g),q_ (.int ms.calls.length),q_ (upD ms.frames),q_ (.tup [k,pmD ps,sz,b])]) ?_ ?_
 ·unfold msD;walk_at "dl";refine⟨_,_,rfl,rfl,_,_,rfl,rfl,by show(s1.frames.map frD).length<=100000;rw[zLm,B];lia,zaA,?_⟩
  refine xx (ps.map λp=>.tup [.str p.1,p.2]) ?_ (λd=>match d with|.tup [a,_]=>some a|_=>none) (by rw[zLm];lia) ?_ ?_
  ·intro G u;unfold pmD;exact⟨zaA,u⟩
  ·intro d hd;obtain⟨y,L,rfl⟩:=zah.mp hd;unfold ρ0;walk_at "dl"
  have ef:(ps.map λp=>D.tup [.str p.1,p.2]).filterMap (λd=>match d with|.tup [a,_]=>some a|_=>none)=(ps.map Prod.fst).map D.str:=by
   rw[zdV,zbI,<- zdK];rfl
  rw[ef];have r:(ps.map Prod.fst).length=g.length:=by rw[zLm];exact hl
  have e5:(ms.frames++[((ms.calls.length:Int),(ps.map Prod.fst).zip g)]).map frD=s1.frames.map frD++[D.tup [.int ms.calls.length,.dk ((ps.map Prod.fst).map Sum.inr) g]]:=by
   rw[zMa,B];show _++[D.tup [.int ms.calls.length,dkD ((ps.map Prod.fst).zip g)]]=_;unfold dkD;rw[<- Zn _ _ r,vc1 r]
  refine⟨ps.map Prod.fst,g,⟨.inl rfl,.inr rfl⟩,r,by lia,nd,I,?_⟩
  rw[e5];rfl
 rintro _ rfl;refine xg (λU=>U=[q_ (msD C fns most {s1 with calls:=ms.calls++[.tup [.str j,.tup g,upD ms.frames,.bl false,.non]],frames:=ms.frames++[((ms.calls.length:Int),(ps.map Prod.fst).zip g)],tasks:=ms.tasks++[.tup [.str "leave"]]}),q_ (.str j),q_ (.tup g),q_ (.int ms.calls.length),q_ (upD ms.frames),q_ (.tup [k,pmD ps,sz,b])]) ?_ ?_
 ·unfold msD;exact⟨_,_,rfl,rfl,_,_,rfl,rfl,by show s1.tasks.length<=100000;rw[N];lia,rfl,rfl,⟨zaA,zaA⟩,by rw[N];rfl⟩
 rintro _ rfl;refine⟨λU=>∃d',slot U 0=q_ d'/\M .non d',?_,λ_ y=>y⟩;have ea:atI [k,pmD ps,sz,b] (3:Int)=some b:=wz aB rfl
 unfold msD;walk_at "dl";rw[ea];exact⟨_,_,rfl,rfl,_,_,rfl,rfl,by show(ms.tasks++[D.tup [D.str "leave"]]).length<=100000;rw[zLa];simp only[zLc,zLn];lia,⟨zaA,es,zaA⟩,_,rfl,h⟩
def Lj(X:AX K mg C)(l:FM P w K mg base 6 C fNames "make" ["self","shape","thing"] (Zs1 C R)):FM P w K mg base 7 C fNames "apply" ["self","expression"] (Rx C R):=by
 obtain⟨f,fd,F,Z⟩:=X.m "apply" "Run.apply" 14 aB
 have ds:zo ["self","expression","kind","parts"] ["self","expression"] (zd (mth 14)):=by walk_at "f"
 refine qi F ds (F.binds (by walk_at "3")) Z aB λqZ A outer s H xs d0 S M hr hl hT=>?_
 have hu:=hr.units;refine⟨_,(yf (Uc 2 aB ds.nd (zf hu (z9 1) zc))
   (y7 (vm (uq (xy hu (z9 2) zg)) (y7 (xp (yn X.O (T4 X) (hr.e rfl) (y3 (zf hu (z9 1) zc) (d7 (yn X.O (qf X) (hr.e rfl) (y3 (yo X.T.len (za (zf hu (z9 1) zc) zb)) x9)) x9))))) (y7 (vm (uq (xy hu (z9 2) zg)) (yf (ju 3 aB ds.nd (yn X.O (qf X) (hr.e rfl) (y3 zc x9)))
     (y7 (xp (yn X.O l (hr.e rfl) (y3 zg (y3 (Om (zh (za (zf hu (z9 3) zc) zb)) (zf hu (z9 3) zc)) x9)))))) (y7 (vm (uq (xy hu (z9 2) zg)) (y7 (xp (yn X.O l (hr.e rfl) (y3 zg (d7 (yn X.O (qf X) (hr.e rfl) (y3 zc x9)) x9))))) (y7 (vm (Z6 (yn X.O (ui X) (hr.e rfl) (y3 zg x9))) (yf (ju 3 aB ds.nd (yn X.O (qf X) (hr.e rfl) (y3 zc x9)))
       (y7 (wc (xj X.O yc) (x8 (fh (xy hu (z9 2) zg) (x3 (zf hu (z9 3) zc) (zf hu (z9 3) zc)) (Ta (zf hu (z9 3) zc) (zf hu (z9 3) zc))))))) gd))))))))),?_⟩
 obtain⟨fns,most,ms,rs,rfl,hl1,g,h⟩:=hT;unfold msD;rcases h with⟨nm,J,us,rfl,a,j,ne,I,Y,h⟩|⟨e1,e2,v,r,rfl,a,L,pr,j,h⟩|⟨e1,e2,e3,W,V,Q,rfl,a,D,B,z,h⟩|⟨kd,e1,e2,x,y,fs,n,rows,rfl,N,hf,j,a,h⟩
 ·refine wf [_,_,q_ (.str _),none] (λes k=>⟨zaA,k⟩) (y4 true (λ_=>cs) (λ_=>?_) nofun);exact⟨_,rfl,zaA,_,rfl,zaA,rfl,fns,most,ms,rs,us,rfl,by rw[j],a,ne,I,Y,g,hl1,rfl,Wq h λd u=>⟨_,rfl,u⟩⟩
 ·refine wf [_,_,q_ (.str _),none] (λes k=>⟨zaA,k⟩) (y4 false (λ_=>cs) nofun λ_=>y4 true (λ_=>cs) (λ_=>?_) nofun);refine⟨_,rfl,zaA,rfl,fns,most,ms,rs,[v,.tup r],rfl,rfl,a,nofun,zaP rfl,⟨L,pr,zaA⟩,g,hl1,_,rfl,zaA,rfl,rfl,⟨L,zaA⟩,pr,by rw[zbH];show 1+r.length<=_;lia,zaA,rfl,bw h λd u=>⟨_,rfl,u⟩⟩
 ·refine wf [_,_,q_ (.str _),none] (λes k=>⟨zaA,k⟩) (y4 false (λ_=>cs) nofun λ_=>y4 false (λ_=>cs) nofun λ_=>y4 true (λ_=>cs) (λ_=>?_) nofun);exact⟨_,rfl,zaA,_,rfl,zaA,rfl,fns,most,ms,rs,[W,V,Q],rfl,rfl,a,nofun,zaP rfl,⟨D,B,z,zaA⟩,g,hl1,rfl,bw h λd u=>⟨_,rfl,u⟩⟩
 have G:kd≠"call"/\kd≠"cons"/\kd≠"node":=by rcases N with rfl|rfl <;> decide
 refine wf [_,_,q_ (.str _),none] (λes k=>⟨zaA,k⟩) (y4 false (λ_=>cn G.1) nofun λ_=>y4 false (λ_=>cn G.2.1) nofun λ_=>y4 false (λ_=>cn G.2.2) nofun λ_=>?_);refine⟨_,rfl,zaA,rfl,fns,most,ms,"sum",fs,n,rows,rfl,rfl,j,hf,?_⟩;by_cases q:most<=ms.steps.length
 ·have J:xi most n "sum" ms=(false,{ms with cut:=true}):=by unfold xi;rw[zaK q]
  rw[J]at h ⊢;exact⟨λy=>(nomatch y),λ_=>⟨_,rfl,h⟩⟩
 have J:xi most n "sum" ms=(true,{ms with steps:=ms.steps++[.tup [.int n,.str "sum"]]}):=by unfold xi;rw[zaJ q]
 rw[J]at h ⊢;refine⟨λ_=>⟨_,rfl,zaA,rfl,fns,most,{ms with steps:=ms.steps++[.tup [.int n,.str "sum"]]},rs,[.int x,.int y],rfl,rfl,a,nofun,zaP rfl,⟨zaA,zaA,zaA⟩,g,hl1,?_⟩,λy=>(nomatch y)⟩;refine⟨_,_,rfl,rfl,_,_,rfl,rfl,by show rs.length<=100000;have:=zbP List.length a;rw[zLa]at this;lia,?_⟩
 rcases N with rfl|rfl
 ·exact cs ⟨λ_=>⟨zaA,_,rfl,h⟩,nofun⟩
 exact cs ⟨nofun,λ_=>⟨zaA,_,rfl,h⟩⟩
def Does(t:FTQ)(C:Addr)(fns:List (Str×D))(most:Int)(S:List D)(s s1:MS):Prop:=∀M:D->D->Prop,M .non (msD C fns most s1)->t (msD C fns most s) S M
def Mv(C:Addr)(R:Str->D->Int->Prop)(fns:List (Str×D))(most:Int)(s s1:MS):Prop:=∃ts,
 (∃b,s.tasks=ts++[bdD b]/\Does (D6 C) C fns most [b] {s with tasks:=ts} s1) \/
 (∃e,s.tasks=ts++[vlD e]/\Does (tVal C) C fns most [e] {s with tasks:=ts} s1) \/
 (∃e,s.tasks=ts++[apD e]/\Does (Rx C R) C fns most [e] {s with tasks:=ts} s1) \/
 (∃b,s.tasks=ts++[brD b]/\Does (Ki C) C fns most [b] {s with tasks:=ts} s1) \/
 (∃b,s.tasks=ts++[chD b]/\Does (Rv C) C fns most [b] {s with tasks:=ts} s1) \/
 (s.tasks=ts++[.tup [.str "leave"]]/\Does (Kf C) C fns most [] {s with tasks:=ts} s1)
inductive RunN(C:Addr)(R:Str->D->Int->Prop)(fns:List (Str×D))(most:Int):Nat->MS->MS->Prop
 |done {s:MS}:(s.tasks=[]\/s.cut=true)->RunN C R fns most 0 s s
 |step {s s1 s2:MS} {n:Nat}:s.cut=false->Mv C R fns most s s1->RunN C R fns most n s1 s2->RunN C R fns most (n+1) s s2
def tGo(C:Addr)(R:Str->D->Int->Prop):FTQ:=λd S M=>∃fns most s s1 n,d=msD C fns most s/\S=[]/\RunN C R fns most n s s1/\M .non (msD C fns most s1)
def W0(p:Nat->Prop)(h:∃ n,p n):∃n,p n/\∀m,p m->n<=m:=by
 obtain⟨n,d⟩:=h
 induction n using Nat.strongRecOn with
 |ind n ih =>
  by_cases q:∃m,m<n/\p m
  ·obtain⟨m,lt,a⟩:=q;exact ih m lt a
  exact⟨n,d,λm a=>Nat.le_of_not_lt λlt=>q ⟨m,lt,a⟩⟩
def dy(p:Nat->Prop):Nat:=by
 classical
 exact if h:∃n,p n then Classical.choose (W0 p h) else 0
def dw{p:Nat->Prop}(h:∃ n,p n):p (dy p)/\∀m,p m->dy p<=m:=by
 unfold dy;rw[dif_pos h];exact Classical.choose_spec (W0 p h)
def He{tc:TQb}{U:DE}{k:Bool->DE->Prop}(b:Bool)(h:∀ k:Bool->DE->Prop,k b U->tc U k)(a:k b U):tc U k:=h k a
def goP(C:Addr)(R:Str->D->Int->Prop)(fns:List (Str×D))(most:Int)(s1:MS)(U:DE)(n:Nat):Prop:=∃s t,U=[q_ (msD C fns most s),t]/\RunN C R fns most n s s1
def tl1{ts:List D}{x y:D}(h:ts++[x]=ts++[y]):x=y:=List.head_eq_of_cons_eq (List.append_cancel_left h)
def z1v(X:AX K mg C)(u:FM P w K mg base 7 C fNames "apply" ["self","expression"] (Rx C R)):FM P w K mg base 8 C fNames "go" ["self"] (tGo C R):=by
 obtain⟨f,fd,F,g⟩:=X.m "go" "Run.go" 2 aB
 have ds:zo ["self","task"] ["self"] (zd (mth 2)):=by walk_at "f"
 refine qi F ds (F.binds (by walk_at "3")) g aB λqZ A outer s H xs d0 S M hr hl hT=>?_
 have hu:=hr.units;refine⟨_,(y7 (M3 (uq (EW.et (jg (x4 (vo X.O (z9 0))) (rh (xu (x4 (vo X.O (z9 0)))))))) (yf (wb (Xd 1 aB ds.nd (xj X.O yc)))
    (y7 (vm (uq (xy hu (zf hu (z9 1) zc) zg)) (y7 (xp (yn X.O (Yk X) (hr.e rfl) (y3 (zf hu (z9 1) zc) x9)))) (y7 (vm (uq (xy hu (zf hu (z9 1) zc) zg)) (y7 (xp (yn X.O (b9 X) (hr.e rfl) (y3 (zf hu (z9 1) zc) x9)))) (y7 (vm (uq (xy hu (zf hu (z9 1) zc) zg)) (y7 (xp (yn X.O u (hr.e rfl) (y3 (zf hu (z9 1) zc) x9)))) (y7 (vm (uq (xy hu (zf hu (z9 1) zc) zg)) (y7 (xp (yn X.O (Li X) (hr.e rfl) (y3 (zf hu (z9 1) zc) x9)))) (y7 (vm (uq (xy hu (zf hu (z9 1) zc) zg)) (y7 (xp (yn X.O (O5 X) (hr.e rfl) (y3 (zf hu (z9 1) zc) x9)))) (y7 (xp (T7 X.O (Lh X) (hr.e rfl))))))))))))))))),?_⟩
 obtain⟨fns,most,ms,s1,n,rfl,rfl,B,h⟩:=hT;refine⟨λU=>∃n,goP C R fns most s1 U n,λU=>dy (goP C R fns most s1 U),⟨n,ms,none,rfl,B⟩,λr D=>?_⟩;obtain⟨g,_⟩:=dw D;obtain⟨m,v⟩:∃m,m=dy (goP C R fns most s1 r):=⟨_,rfl⟩;rw[<- v]at g;obtain⟨s,t,rfl,g⟩:=g;refine He (!s.tasks.isEmpty&&!s.cut) (λk l=>?_) ?_
 ·unfold msD at l ⊢;walk_at "dl";refine⟨λz=>?_,λz=>?_⟩
  ·rw[z]at l;exact l
  rw[z]at l;exact l
 refine⟨λq=>?_,λq=>?_⟩
 ·have d:∀(s2:MS)(t2:Option EV)(j:Nat),RunN C R fns most j s2 s1->j<m->(∃n,goP C R fns most s1 [q_ (msD C fns most s2),t2] n)/\dy (goP C R fns most s1 [q_ (msD C fns most s2),t2])<dy (goP C R fns most s1 [q_ (msD C fns most s),t]):=λs2 t2 j h2 lt=>⟨⟨j,s2,t2,rfl,h2⟩,by rw[<- v];exact zdW ((dw ⟨j,s2,t2,rfl,h2⟩).2 j ⟨s2,t2,rfl,h2⟩) lt⟩
  cases g with
  |done hd =>
   rcases hd with hd|hd
   ·rw[hd]at q;cases q
   rw[hd]at q;simp at q
  |@step s s2 s3 m hc a hr2 =>
   obtain⟨ts,a⟩:=a;obtain⟨x,ex⟩:∃x,s.tasks=ts++[x]:=by rcases a with⟨b,et,a⟩|⟨b,et,a⟩|⟨b,et,a⟩|⟨b,et,a⟩|⟨b,et,a⟩|⟨et,a⟩ <;> exact⟨_,et⟩
   refine xg (λU=>U=[q_ (msD C fns most {s with tasks:=ts}),q_ x]) ?_ ?_
   ·unfold msD;rw[ex];refine⟨_,_,rfl,rfl,_,_,x,rfl,rfl,?_,?_⟩
    ·rw[zLa];show(ts++[x])[ts.length+1-1]?=_;rw[Nat.add_sub_cancel,zaC (zaj _),zbX];rfl
    rw[List.dropLast_concat];rfl
   rintro _ rfl;rw[ex]at a;rcases a with⟨b,et,a⟩|⟨b,et,a⟩|⟨b,et,a⟩|⟨b,et,a⟩|⟨b,et,a⟩|⟨et,a⟩ <;> cases tl1 et
   ·exact y4 true (λ_=>cs) (λ_=>⟨_,rfl,zaA,rfl,a _ (d s2 _ _ hr2 (zbY _))⟩) nofun
   ·exact y4 false (λ_=>cs) nofun λ_=>y4 true (λ_=>cs) (λ_=>⟨_,rfl,zaA,rfl,a _ (d s2 _ _ hr2 (zbY _))⟩) nofun
   ·exact y4 false (λ_=>cs) nofun λ_=>y4 false (λ_=>cs) nofun λ_=>y4 true (λ_=>cs) (λ_=>⟨_,rfl,zaA,rfl,a _ (d s2 _ _ hr2 (zbY _))⟩) nofun
   ·exact y4 false (λ_=>cs) nofun λ_=>y4 false (λ_=>cs) nofun λ_=>y4 false (λ_=>cs) nofun λ_=>y4 true (λ_=>cs) (λ_=>⟨_,rfl,zaA,rfl,a _ (d s2 _ _ hr2 (zbY _))⟩) nofun
   ·exact y4 false (λ_=>cs) nofun λ_=>y4 false (λ_=>cs) nofun λ_=>y4 false (λ_=>cs) nofun λ_=>y4 false (λ_=>cs) nofun λ_=>y4 true (λ_=>cs) (λ_=>⟨_,rfl,zaA,rfl,a _ (d s2 _ _ hr2 (zbY _))⟩) nofun
   exact y4 false (λ_=>cs) nofun λ_=>y4 false (λ_=>cs) nofun λ_=>y4 false (λ_=>cs) nofun λ_=>y4 false (λ_=>cs) nofun λ_=>y4 false (λ_=>cs) nofun λ_=>⟨_,rfl,rfl,a _ (d s2 _ _ hr2 (zbY _))⟩
 refine⟨_,rfl,?_⟩;cases g with
 |done hd=>exact h
 |@step s s2 s3 m hc a hr2 =>
  obtain⟨ts,a⟩:=a;have ne:s.tasks≠[]:=by
   rcases a with⟨b,et,a⟩|⟨b,et,a⟩|⟨b,et,a⟩|⟨b,et,a⟩|⟨b,et,a⟩|⟨et,a⟩
   all_goals
    rw[et];simp
  rw[hc]at q;cases e:s.tasks with
  |nil=>exact absurd e ne
  |cons x y=>rw[e]at q;cases q
noncomputable def ms0:MS:={calls:=[],steps:=[],frames:=[],tasks:=[],ready:=[],cut:=false}
def Ey(C:Addr):FTQ:=λd S M=>∃fns:List (Str×D),∃most,d=.ob C [] []/\S=[.tup (fns.map Prod.snd),.int most]/\fns.length<=100/\(fns.map Prod.fst).Nodup/\zu (fns.map Prod.snd)/\(∀p∈fns,∃r,p.2=.tup (.str p.1::r))/\M .non (msD C fns most ms0)
def Ep(C:Addr):FTR:=λd S M=>∃fns most s,d=msD C fns most s/\S=[] /\
 ((s.cut=true/\M (.tup [.bl false,.non,.lst s.calls,.lst s.steps]))\/(s.cut=false/\∃v r,s.ready=v::r/\zi v/\M (.tup [.bl true,v,.lst s.calls,.lst s.steps])))
def Fq(X:AX K mg C):FM P w K mg base 2 C fNames "__init__" ["self","program","most"] (Ey C):=by
 obtain⟨f,fd,F,B⟩:=X.m "__init__" "Run.__init__" 0 aB
 have ds:zo ["self","program","most"] ["self","program","most"] (zd (mth 0)):=by walk_at "f"
 refine qi F ds (F.binds (by walk_at "3")) B aB λqZ A outer s H xs d0 S M hr hl hT=>?_
 have hu:=hr.units;refine⟨_,(yf (wb (sr X.O.cl (X.O.na _ aB) yc (x8 (Lw X.T.dict (za (sk (T:=["function"]) (F:=[]) (js:=[]) (xo (z9 1)) (show y0 (zd (mth 0)) _ ["function"] [] from by walk_at "c") .nil aB (by walk_at "t") (yi aB) (ym 0) (λcl C fp s H=>wg) (λcl C fp s H=>(zh (za (zf hu (z9 0) zc) (za (z9 0) zb))))) zb)))))
   (yf (wb (sr X.O.cl (X.O.na _ aB) yc (x8 (z9 2))))
   (yf (wb (sr X.O.cl (X.O.na _ aB) yc (x8 (x5 zb))))
   (yf (wb (sr X.O.cl (X.O.na _ aB) yc (x8 (x5 zb))))
   (yf (wb (sr X.O.cl (X.O.na _ aB) yc (x8 (x5 zb))))
   (yf (wb (sr X.O.cl (X.O.na _ aB) yc (x8 (x5 zb))))
   (yf (wb (sr X.O.cl (X.O.na _ aB) yc (x8 (x5 zb))))
   (y7 (wb (sr X.O.cl (X.O.na _ aB) yc (x8 wy))))))))))),?_⟩
 obtain⟨fns,most,rfl,rfl,hl1,u,l,j,h⟩:=hT;refine xg (λU=>U=[q_ (.ob C ["functions"] [dkD fns]),q_ (.tup (fns.map Prod.snd)),q_ (.int most)]) ?_ ?_
 ·simp only[G8,fE2,dCB,w6,aNil];refine xx (fns.map Prod.snd) ?_ (λd=>match d with|.tup (.str z::r)=>some (.tup [.str z,.tup (.str z::r)])|_=>none) (by rw[zLm];lia) ?_ ?_
  ·intro G g;exact⟨zaA,g⟩
  ·intro d I;obtain⟨y,v,rfl⟩:=zah.mp I;obtain⟨r,k⟩:=j y v;rw[k];unfold ρ0;walk_at "dl"
  have es:(fns.map Prod.snd).filterMap (λd=>match d with|.tup (.str z::r)=>some (D.tup [.str z,.tup (.str z::r)])|_=>none)=Qy (fns.map λp=>Sum.inr p.1) (fns.map Prod.snd):=by
   clear hl1 u l h hl
   induction fns with
   |nil=>rfl
   |cons p fns ih =>
    obtain⟨r,k⟩:=j p zao;simp only[zaB,zbE,k];rw[ih λq x=>j q (zal _ x)];rfl
  rw[es];refine⟨_,_,rfl,by rw[zLm,zLm],?_,l,_,[],[],rfl,rfl,by simp,by simp,rfl⟩
  rw[show(fns.map λp=>(Sum.inr p.1:Key))=(fns.map Prod.fst).map Sum.inr from by rw[zbI];rfl]
  exact zfC _ (λa b h e=>h (zfS e)) u
 rintro _ rfl;refine xg (λU=>U=[q_ (.ob C ["functions","most"] [dkD fns,.int most]),q_ (.tup (fns.map Prod.snd)),q_ (.int most)]) ?_ ?_
 ·exact⟨zaA,_,_,_,rfl,rfl,by decide,by decide,rfl⟩
 rintro _ rfl;refine xg (λU=>U=[q_ (.ob C ["functions","most","calls"] [dkD fns,.int most,.lst []]),q_ (.tup (fns.map Prod.snd)),q_ (.int most)]) ?_ ?_
 ·exact⟨rfl,rfl,zaA,_,_,_,rfl,rfl,by decide,by decide,rfl⟩
 rintro _ rfl;refine xg (λU=>U=[q_ (.ob C ["functions","most","calls","steps"] [dkD fns,.int most,.lst [],.lst []]),q_ (.tup (fns.map Prod.snd)),q_ (.int most)]) ?_ ?_
 ·exact⟨rfl,rfl,zaA,_,_,_,rfl,rfl,by decide,by decide,rfl⟩
 rintro _ rfl;refine xg (λU=>U=[q_ (.ob C ["functions","most","calls","steps","frames"] [dkD fns,.int most,.lst [],.lst [],.lst []]),q_ (.tup (fns.map Prod.snd)),q_ (.int most)]) ?_ ?_
 ·exact⟨rfl,rfl,zaA,_,_,_,rfl,rfl,by decide,by decide,rfl⟩
 rintro _ rfl;refine xg (λU=>U=[q_ (.ob C ["functions","most","calls","steps","frames","tasks"] [dkD fns,.int most,.lst [],.lst [],.lst [],.lst []]),q_ (.tup (fns.map Prod.snd)),q_ (.int most)]) ?_ ?_
 ·exact⟨rfl,rfl,zaA,_,_,_,rfl,rfl,by decide,by decide,rfl⟩
 rintro _ rfl;refine xg (λU=>U=[q_ (.ob C ["functions","most","calls","steps","frames","tasks","ready"] [dkD fns,.int most,.lst [],.lst [],.lst [],.lst [],.lst []]),q_ (.tup (fns.map Prod.snd)),q_ (.int most)]) ?_ ?_
 ·exact⟨rfl,rfl,zaA,_,_,_,rfl,rfl,by decide,by decide,rfl⟩
 rintro _ rfl;refine⟨λU=>∃d',slot U 0=q_ d'/\M .non d',?_,λ_ y=>y⟩;exact⟨zaA,_,_,_,rfl,rfl,by decide,by decide,_,rfl,h⟩
def Lg(X:AX K mg C):FMR P w K mg base 1 C fNames "told" ["self"] (Ep C):=by
 obtain⟨f,fd,F,e⟩:=X.m "told" "Run.told" 1 aB
 have ds:zo ["self"] ["self"] (zd (mth 1)):=by walk_at "f"
 refine A0 F ds (F.binds (by walk_at "3")) e aB λqZ A outer s H xs d0 S M hr hl hT=>?_
 have hu:=hr.units;refine⟨_,(G0 (z0w (uq (x4 (vo X.O (z9 0)))) (Kn (Qe (Jk (ut (Ls wy) (ut (Ls uk) (ut (fc (xj X.O yc)) (ut (fc (xj X.O yc)) Od))))))) Dk)
    (Kn (Qe (Jk (ut (Ls wy) (ut (Ls (zf hu (vo X.O (z9 0)) zc)) (ut (fc (xj X.O yc)) (ut (fc (xj X.O yc)) Od)))))))),?_⟩
 obtain⟨fns,most,ms,rfl,rfl,h⟩:=hT;unfold msD;walk_at "dl";rcases h with⟨a,h⟩|⟨a,v,r,g,d,h⟩
 ·exact⟨λ_=>⟨_,_,rfl,rfl,_,_,rfl,rfl,_,_,rfl,rfl,_,_,rfl,rfl,h⟩,λz=>absurd z (by rw[a];decide)⟩
 rw[g];simp only[at_0];exact⟨λz=>absurd z (by rw[a];decide),λ_=>⟨d,_,_,rfl,rfl,_,_,rfl,rfl,_,_,rfl,rfl,_,_,rfl,rfl,h⟩⟩
section
variable{fns:List (Str×D)}{most:Int}{P:MS->Prop}{n:Int}
def Fin(C:Addr)(R:Str->D->Int->Prop)(fns:List (Str×D))(most:Int)(P:MS->Prop)(s:MS):Prop:=∃n s1,RunN C R fns most n s s1/\P s1
def ya{s s1:MS}(a:s.cut=false)(m:Mv C R fns most s s1)(h:Fin C R fns most P s1):Fin C R fns most P s:=by
 obtain⟨n,s2,r,p⟩:=h;exact⟨n+1,s2,.step a m r,p⟩
def xr{s:MS}(h:s.tasks=[]\/s.cut=true)(p:P s):Fin C R fns most P s:=⟨0,s,.done h,p⟩
noncomputable def stt(cl st:List D)(fs:List (Int×List (Str×D)))(ts rs:List D):MS:={calls:=cl,steps:=st,frames:=fs,tasks:=ts,ready:=rs,cut:=false}
noncomputable def stp(n:Int)(k:Str):D:=.tup [.int n,.str k]
def b6(most:Int)(P:MS->Prop)(cl X:List D):Prop:=most<=X.length->∀s1:MS,s1.cut=true->s1.calls=cl->s1.steps=X->P s1
def wt{s:MS}{k:Str}(q:most<=s.steps.length):xi most n k s=(false,{s with cut:=true}):=by unfold xi;rw[zaK q]
def wr{s:MS}{k:Str}(q:¬ most<=s.steps.length):xi most n k s=(true,{s with steps:=s.steps++[.tup [.int n,.str k]]}):=by unfold xi;rw[zaJ q]
def Sm1(cl st ts rs:List D):Prop:=cl.length+st.length+ts.length+rs.length<=9000/\zu rs
def Z7{a b:List D}:zu (a++b) ↔ zu a/\zu b:=by
 have e:∀l:List D,zu l ↔ ∀d∈l,zi d:=λl=>y8;rw[e,e,e];simp only[zas];exact⟨λh=>⟨λd x=>h d (.inl x),λd x=>h d (.inr x)⟩,λh d x=>x.elim (h.1 d) (h.2 d)⟩
section
variable{cl st ts rs:List D}{fs:List (Int×List (Str×D))}{rows:List (Str×D)}{v e e1 e2 b1 b2:D}{z:Str}
def Ln(b:Sm1 cl st ts rs)(d:zi e)(h:Fin C R fns most P (stt cl st fs (ts++[vlD e]) rs)):Fin C R fns most P (stt cl st fs (ts++[bdD (.tup [.str "give",e])]) rs) :=
 ya rfl ⟨ts,.inl ⟨_,rfl,λM a=>⟨fns,most,_,rfl,by have:=b.1;show ts.length<=10000;lia,.inl ⟨e,rfl,d,a⟩⟩⟩⟩ h
def Ll(b:Sm1 cl st ts rs)(g:zi e1)(p2:zi e2)(e:zi b1)(d:zi b2)(h:Fin C R fns most P (stt cl st fs (ts++[chD (.tup [.str "less",e1,e2,b1,b2])]++[vlD e2]++[vlD e1]) rs)):Fin C R fns most P (stt cl st fs (ts++[bdD (.tup [.str "less",e1,e2,b1,b2])]) rs) :=
 ya rfl ⟨ts,.inl ⟨_,rfl,λM a=>⟨fns,most,_,rfl,by have:=b.1;show ts.length<=10000;lia,.inr (.inr (.inl ⟨e1,e2,b1,b2,rfl,g,p2,e,d,a⟩))⟩⟩⟩ (by rw[zaS (ts++_)]at h;exact h)
def Fs(b:Sm1 cl st ts rs)(e:rowG rows z=some v)(d:zi v)(h:Fin C R fns most P (stt cl st (fs++[(n,rows)]) ts (rs++[v]))):Fin C R fns most P (stt cl st (fs++[(n,rows)]) (ts++[vlD (.tup [.str "var",.str z])]) rs) :=
 ya rfl ⟨ts,.inr (.inl ⟨_,rfl,λM a=>⟨fns,most,_,rfl,by have:=b.1;show ts.length<=10000;lia,by have:=b.1;show rs.length<=10000;lia,.inr (.inl ⟨fs,n,rows,z,v,rfl,rfl,e,d,a⟩)⟩⟩)⟩ h
def Fw(b:Sm1 cl st ts rs)(h:Fin C R fns most P (stt cl st fs ts (rs++[.tup []]))):Fin C R fns most P (stt cl st fs (ts++[vlD (.tup [.str "nil"])]) rs) :=
 ya rfl ⟨ts,.inr (.inl ⟨_,rfl,λM a=>⟨fns,most,_,rfl,by have:=b.1;show ts.length<=10000;lia,by have:=b.1;show rs.length<=10000;lia,.inr (.inr (.inl ⟨rfl,a⟩))⟩⟩)⟩ h
def Lo{f:Str}{J:List D}(b:Sm1 cl st ts rs)(e:J.length<=100)(d:zu J)(h:Fin C R fns most P (stt cl st fs (ts++[apD (.tup [.str "call",.str f,.tup J])]++J.reverse.map vlD) rs)):Fin C R fns most P (stt cl st fs (ts++[vlD (.tup [.str "call",.str f,.tup J])]) rs) :=
 ya rfl ⟨ts,.inr (.inl ⟨_,rfl,λM a=>⟨fns,most,_,rfl,by have:=b.1;show ts.length<=10000;lia,by have:=b.1;show rs.length<=10000;lia,.inr (.inr (.inr (.inr (.inl ⟨.str f,J,rfl,e,zaA,d,a⟩))))⟩⟩)⟩ h
def A7{kd:Str}{J:List D}(b:Sm1 cl st ts rs)(d:kd = "cons"\/kd = "node"\/kd = "add"\/kd = "sub")(g:J.length<=100)(e:zu J)(h:Fin C R fns most P (stt cl st fs (ts++[apD (.tup (.str kd::J))]++J.reverse.map vlD) rs)):Fin C R fns most P (stt cl st fs (ts++[vlD (.tup (.str kd::J))]) rs) :=
 ya rfl ⟨ts,.inr (.inl ⟨_,rfl,λM a=>⟨fns,most,_,rfl,by have:=b.1;show ts.length<=10000;lia,by have:=b.1;show rs.length<=10000;lia,.inr (.inr (.inr (.inr (.inr ⟨kd,J,rfl,d,g,e,a⟩))))⟩⟩)⟩ h
def T5{x e tn:Str}{l:List D}(b:Sm1 cl st ts rs)(g:rowG rows x=some (.tup l))(pl:zu l)(ok:∀ d∈l,okD 149 d)(j:zi b1)(p2:zi b2)(k:rows.length<=900)(u:(rows.map Prod.fst++[e,tn]).Nodup)(y:b6 most P cl st)(h0:¬ most<=st.length->l=[]->Fin C R fns most P (stt cl (st++[stp n "open"]) (fs++[(n,rows)]) (ts++[bdD b1]) rs))(h1:¬ most<=st.length->∀ v r,l=v::r->Fin C R fns most P (stt cl (st++[stp n "open"]) (fs++[(n,rows++[(e,v),(tn,.tup r)])]) (ts++[bdD b2]) rs)) :
  Fin C R fns most P (stt cl st (fs++[(n,rows)]) (ts++[bdD (.tup [.str "list",.str x,b1,.str e,.str tn,b2])]) rs):=by
 have z:=b.1;by_cases q:most<=st.length
 ·refine ya (s1:={calls:=cl,steps:=st,frames:=fs++[(n,rows)],tasks:=ts,ready:=rs,cut:=true}) rfl ⟨ts,.inl ⟨_,rfl,λM a=>⟨fns,most,_,rfl,by show ts.length<=10000;lia,.inr (.inr (.inr ⟨"list",x,_,fs,n,rows,.tup l,rfl,.inl rfl,rfl,by show st.length<=10000;lia,g,pl,?_⟩))⟩⟩⟩ (xr (.inr rfl) (y q _ rfl rfl rfl))
  rw[wt q];exact a
 cases l with
 |nil =>
  refine ya rfl ⟨ts,.inl ⟨_,rfl,λM a=>⟨fns,most,_,rfl,by show ts.length<=10000;lia,.inr (.inr (.inr ⟨"list",x,_,fs,n,rows,.tup [],rfl,.inl rfl,rfl,by show st.length<=10000;lia,g,pl,?_⟩))⟩⟩⟩ (h0 q rfl)
  rw[wr q];exact⟨fns,most,_,fs,n,rows,"list",x,b1,b2,rfl,rfl,by show ts.length<=10000;lia,j,p2,k,.inl ⟨_,_,rfl,.inr rfl,a⟩⟩
 |cons v r =>
  refine ya rfl ⟨ts,.inl ⟨_,rfl,λM a=>⟨fns,most,_,rfl,by show ts.length<=10000;lia,.inr (.inr (.inr ⟨"list",x,_,fs,n,rows,.tup (v::r),rfl,.inl rfl,rfl,by show st.length<=10000;lia,g,pl,?_⟩))⟩⟩⟩ (h1 q v r rfl)
  rw[wr q];exact⟨fns,most,_,fs,n,rows,"list",x,b1,b2,rfl,rfl,by show ts.length<=10000;lia,j,p2,k,.inr (.inl ⟨e,tn,v,r,rfl,by rw[F0 aB];exact ok,pl.1,pl.2,u,a⟩)⟩
def Ss{x y:Int}(b:Sm1 cl st ts rs)(d:zi b1)(p2:zi b2)(g:b6 most P cl st)(h:¬ most<=st.length->Fin C R fns most P (stt cl (st++[stp n "less"]) (fs++[(n,rows)]) (ts++[bdD (if x<y then b1 else b2)]) rs)) :
  Fin C R fns most P (stt cl st (fs++[(n,rows)]) (ts++[chD (.tup [.str "less",e1,e2,b1,b2])]) (rs++[.int x]++[.int y])):=by
 have j:=b.1;have e:rs++[D.int x]++[D.int y]=rs++[.int x,.int y]:=by simp
 by_cases q:most<=st.length
 ·refine ya (s1:={calls:=cl,steps:=st,frames:=fs++[(n,rows)],tasks:=ts,ready:=rs++[D.int x]++[D.int y],cut:=true}) rfl ⟨ts,.inr (.inr (.inr (.inr (.inl ⟨_,rfl,λM a=>?_⟩))))⟩ (xr (.inr rfl) (g q _ rfl rfl rfl));refine⟨fns,most,_,fs,n,rows,e1,e2,b1,b2,rs,x,y,rfl,rfl,rfl,e,by show st.length<=10000;lia,by show(rs++[D.int x]++[D.int y]).length<=10000;simp;lia,by show ts.length<=10000;lia,d,p2,b.2,?_⟩
  rw[wt q];exact a
 refine ya rfl ⟨ts,.inr (.inr (.inr (.inr (.inl ⟨_,rfl,λM a=>?_⟩))))⟩ (h q);refine⟨fns,most,_,fs,n,rows,e1,e2,b1,b2,rs,x,y,rfl,rfl,rfl,e,by show st.length<=10000;lia,by show(rs++[D.int x]++[D.int y]).length<=10000;simp;lia,by show ts.length<=10000;lia,d,p2,b.2,?_⟩
 rw[wr q];exact a
def T6{r:List D}{sz:Int}(b:Sm1 cl st ts rs)(d:zi v)(pr:zu r)(u:r.length<=1000)(k:R "list" (.tup (v::r)) sz)(j:b6 most P cl st)(e:100<sz->∀ s1:MS,s1.cut=true->s1.calls=cl->s1.steps=st->P s1)(h:¬ most<=st.length->¬ 100<sz->Fin C R fns most P (stt cl (st++[stp n "make"]) (fs++[(n,rows)]) ts (rs++[.tup (v::r)]))) :
  Fin C R fns most P (stt cl st (fs++[(n,rows)]) (ts++[apD (.tup [.str "cons",e1,e2])]) (rs++[v]++[.tup r])):=by
 have x:=b.1;have l:rs++[v]++[D.tup r]=rs++[v,.tup r]:=by simp
 have go:∀s1:MS,(∀M:D->D->Prop,M .non (msD C fns most s1)->M .non (msD C fns most (if 100<sz then {calls:=cl,steps:=st,frames:=fs++[(n,rows)],tasks:=ts,ready:=rs,cut:=true} else match xi most n "make" {calls:=cl,steps:=st,frames:=fs++[(n,rows)],tasks:=ts,ready:=rs,cut:=false} with
  |(true,s')=>{s' with ready:=rs++[.tup (v::r)]}
  | (false,s')=>s')))->Mv C R fns most (stt cl st (fs++[(n,rows)]) (ts++[apD (.tup [.str "cons",e1,e2])]) (rs++[v]++[.tup r])) s1:=λs1 g=>by
  refine⟨ts,.inr (.inr (.inl ⟨_,rfl,λM a=>?_⟩))⟩;refine⟨fns,most,_,rs,rfl,by show(rs++[v]++[D.tup r]).length<=10000;simp;lia,b.2,.inr (.inl ⟨e1,e2,v,r,rfl,l,d,pr,by lia,?_⟩)⟩
  exact⟨fns,most,_,fs,n,rows,"list",.tup (v::r),sz,rfl,rfl,rfl,by show st.length<=10000;lia,by show rs.length<=10000;lia,⟨d,pr⟩,k,g M a⟩
 by_cases z:100<sz
 ·refine ya rfl (go {calls:=cl,steps:=st,frames:=fs++[(n,rows)],tasks:=ts,ready:=rs,cut:=true} λM a=>?_) (xr (.inr rfl) (e z _ rfl rfl rfl));rw[zaK z];exact a
 by_cases q:most<=st.length
 ·refine ya rfl (go {calls:=cl,steps:=st,frames:=fs++[(n,rows)],tasks:=ts,ready:=rs,cut:=true} λM a=>?_) (xr (.inr rfl) (j q _ rfl rfl rfl));rw[zaJ z,wt q];exact a
 refine ya rfl (go _ λM a=>?_) (h q z);rw[zaJ z,wr q];exact a
def W2{f:Str}{J us:List D}{g sz e:D}{ps:List (Str×D)}(b:Sm1 cl st ts rs)(G:rowG fns f=some (.tup [g,pmD ps,sz,e]))(y:us.length=J.length)(ne:us≠[])(d:us.length<=10)(j:zu us)(u:zi g)(l:zu (ps.map Prod.snd))(k:zi sz)(r:zi e)(x:ps.length=us.length)(v:(ps.map Prod.fst).Nodup)(I:20<=fs.length->∀ s1:MS,s1.cut=true->s1.calls=cl->s1.steps=st->P s1)(es:b6 most P cl st)(h:¬ most<=st.length->¬ 20<=fs.length->Fin C R fns most P (stt (cl++[.tup [.str f,.tup us,upD fs,.bl false,.non]]) (st++[stp cl.length "call"]) (fs++[((cl.length:Int),(ps.map Prod.fst).zip us)]) (ts++[.tup [.str "leave"]]++[bdD e]) rs)) :
  Fin C R fns most P (stt cl st fs (ts++[apD (.tup [.str "call",.str f,.tup J])]) (rs++us)):=by
 have b1:=b.1;have go:∀s1:MS,(∀M:D->D->Prop,M .non (msD C fns most s1)->M .non (msD C fns most (qq most f us ps e (stt cl st fs ts rs))))->Mv C R fns most (stt cl st fs (ts++[apD (.tup [.str "call",.str f,.tup J])]) (rs++us)) s1:=λs1 B=>by
  refine⟨ts,.inr (.inr (.inl ⟨_,rfl,λM a=>?_⟩))⟩;refine⟨fns,most,_,rs,rfl,by show(rs++us).length<=10000;simp;lia,b.2,.inl ⟨f,J,us,rfl,rfl,y,ne,d,j,?_⟩⟩
  exact⟨fns,most,_,f,us,g,ps,sz,e,rfl,rfl,G,u,l,k,r,j,x,d,v,by show st.length<=10000;lia,by show cl.length<=10000;lia,by show ts.length<=10000;lia,B M a⟩
 by_cases z:20<=fs.length
 ·refine ya rfl (go {calls:=cl,steps:=st,frames:=fs,tasks:=ts,ready:=rs,cut:=true} λM a=>?_) (xr (.inr rfl) (I z _ rfl rfl rfl));unfold qq;rw[zaK (show 20<=(stt cl st fs ts rs).frames.length from z)];exact a
 by_cases q:most<=st.length
 ·refine ya rfl (go {calls:=cl,steps:=st,frames:=fs,tasks:=ts,ready:=rs,cut:=true} λM a=>?_) (xr (.inr rfl) (es q _ rfl rfl rfl));unfold qq;rw[zaJ (show ¬ 20<=(stt cl st fs ts rs).frames.length from z),wt q];exact a
 refine ya rfl (go _ λM a=>?_) (h q z);unfold qq;rw[zaJ (show ¬ 20<=(stt cl st fs ts rs).frames.length from z),wr q];exact a
def O9{m:Nat}{g a up:D}{d e:List D}(r:d.length=m)(q:zi g)(p2:zi a)(l:zi up)(k:zi v)(h:Fin C R fns most P (stt (d++[.tup [g,a,up,.bl true,v]]++e) st fs ts (rs++[v]))) :
  Fin C R fns most P (stt (d++[.tup [g,a,up,.bl false,.non]]++e) st (fs++[((m:Int),rows)]) (ts++[.tup [.str "leave"]]) (rs++[v])) :=
 ya rfl ⟨ts,.inr (.inr (.inr (.inr (.inr ⟨rfl,λM j=>⟨fns,most,_,fs,m,rows,g,a,up,rs,v,d,e,rfl,rfl,rfl,rfl,k,rfl,r,q,p2,l,j⟩⟩))))⟩ h
def Lm(b:Sm1 cl st ts rs)(h:Fin C R fns most P (stt cl st fs ts (rs++[.non]))):Fin C R fns most P (stt cl st fs (ts++[vlD (.tup [.str "leaf"])]) rs) :=
 ya rfl ⟨ts,.inr (.inl ⟨_,rfl,λM a=>⟨fns,most,_,rfl,by have:=b.1;show ts.length<=10000;lia,by have:=b.1;show rs.length<=10000;lia,.inr (.inr (.inr (.inl ⟨rfl,a⟩)))⟩⟩)⟩ h
def O7{x l m r:Str}(b:Sm1 cl st ts rs)(d:rowG rows x=some .non)(e:zi b1)(p2:zi b2)(j:rows.length<=900)(g:b6 most P cl st)(h0:¬ most<=st.length->Fin C R fns most P (stt cl (st++[stp n "open"]) (fs++[(n,rows)]) (ts++[bdD b1]) rs)) :
  Fin C R fns most P (stt cl st (fs++[(n,rows)]) (ts++[bdD (.tup [.str "tree",.str x,b1,.str l,.str m,.str r,b2])]) rs):=by
 have k:=b.1;by_cases q:most<=st.length
 ·refine ya (s1:={calls:=cl,steps:=st,frames:=fs++[(n,rows)],tasks:=ts,ready:=rs,cut:=true}) rfl ⟨ts,.inl ⟨_,rfl,λM a=>⟨fns,most,_,rfl,by show ts.length<=10000;lia,.inr (.inr (.inr ⟨"tree",x,_,fs,n,rows,.non,rfl,.inr rfl,rfl,by show st.length<=10000;lia,d,zaA,?_⟩))⟩⟩⟩ (xr (.inr rfl) (g q _ rfl rfl rfl))
  rw[wt q];exact a
 refine ya rfl ⟨ts,.inl ⟨_,rfl,λM a=>⟨fns,most,_,rfl,by show ts.length<=10000;lia,.inr (.inr (.inr ⟨"tree",x,_,fs,n,rows,.non,rfl,.inr rfl,rfl,by show st.length<=10000;lia,d,zaA,?_⟩))⟩⟩⟩ (h0 q)
 rw[wr q];exact⟨fns,most,_,fs,n,rows,"tree",x,b1,b2,rfl,rfl,by show ts.length<=10000;lia,e,p2,j,.inl ⟨_,_,rfl,.inl rfl,a⟩⟩
def O6{x l m r:Str}{e d a:D}(b:Sm1 cl st ts rs)(j:rowG rows x=some (.tup [e,d,a]))(pl:zu [e,d,a])(ok:okD 150 (.tup [e,d,a]))(k:zi b1)(p2:zi b2)(y:rows.length<=900)(u:(rows.map Prod.fst++[l,m,r]).Nodup)(v:b6 most P cl st)(h1:¬ most<=st.length->Fin C R fns most P (stt cl (st++[stp n "open"]) (fs++[(n,rows++[(l,e),(m,d),(r,a)])]) (ts++[bdD b2]) rs)) :
  Fin C R fns most P (stt cl st (fs++[(n,rows)]) (ts++[bdD (.tup [.str "tree",.str x,b1,.str l,.str m,.str r,b2])]) rs):=by
 have z:=b.1;by_cases q:most<=st.length
 ·refine ya (s1:={calls:=cl,steps:=st,frames:=fs++[(n,rows)],tasks:=ts,ready:=rs,cut:=true}) rfl ⟨ts,.inl ⟨_,rfl,λM g=>⟨fns,most,_,rfl,by show ts.length<=10000;lia,.inr (.inr (.inr ⟨"tree",x,_,fs,n,rows,.tup [e,d,a],rfl,.inr rfl,rfl,by show st.length<=10000;lia,j,pl,?_⟩))⟩⟩⟩ (xr (.inr rfl) (v q _ rfl rfl rfl))
  rw[wt q];exact g
 refine ya rfl ⟨ts,.inl ⟨_,rfl,λM g=>⟨fns,most,_,rfl,by show ts.length<=10000;lia,.inr (.inr (.inr ⟨"tree",x,_,fs,n,rows,.tup [e,d,a],rfl,.inr rfl,rfl,by show st.length<=10000;lia,j,pl,?_⟩))⟩⟩⟩ (h1 q)
 rw[wr q];exact⟨fns,most,_,fs,n,rows,"tree",x,b1,b2,rfl,rfl,by show ts.length<=10000;lia,k,p2,y,.inr (.inr ⟨l,m,r,e,d,a,rfl,ok,pl.1,pl.2.1,pl.2.2.1,u,g⟩)⟩
def Lk{e d a j:D}{sz:Int}(b:Sm1 cl st ts rs)(pl:zu [e,d,a])(r:R "tree" (.tup [e,d,a]) sz)(z:¬ 100<sz)(l:b6 most P cl st)(h:¬ most<=st.length->Fin C R fns most P (stt cl (st++[stp n "make"]) (fs++[(n,rows)]) ts (rs++[.tup [e,d,a]]))) :
  Fin C R fns most P (stt cl st (fs++[(n,rows)]) (ts++[apD (.tup [.str "node",e1,e2,j])]) (rs++[e]++[d]++[a])):=by
 have v:=b.1;have u:rs++[e]++[d]++[a]=rs++[e,d,a]:=by simp
 have go:∀s1:MS,(∀M:D->D->Prop,M .non (msD C fns most s1)->M .non (msD C fns most (if 100<sz then {calls:=cl,steps:=st,frames:=fs++[(n,rows)],tasks:=ts,ready:=rs,cut:=true} else match xi most n "make" {calls:=cl,steps:=st,frames:=fs++[(n,rows)],tasks:=ts,ready:=rs,cut:=false} with
  |(true,s')=>{s' with ready:=rs++[.tup [e,d,a]]}
  | (false,s')=>s')))->Mv C R fns most (stt cl st (fs++[(n,rows)]) (ts++[apD (.tup [.str "node",e1,e2,j])]) (rs++[e]++[d]++[a])) s1:=λs1 k=>by
  refine⟨ts,.inr (.inr (.inl ⟨_,rfl,λM g=>?_⟩))⟩;refine⟨fns,most,_,rs,rfl,by show(rs++[e]++[d]++[a]).length<=10000;simp;lia,b.2,.inr (.inr (.inl ⟨e1,e2,j,e,d,a,rfl,u,pl.1,pl.2.1,pl.2.2.1,?_⟩))⟩
  exact⟨fns,most,_,fs,n,rows,"tree",.tup [e,d,a],sz,rfl,rfl,rfl,by show st.length<=10000;lia,by show rs.length<=10000;lia,pl,r,k M g⟩
 by_cases q:most<=st.length
 ·refine ya rfl (go {calls:=cl,steps:=st,frames:=fs++[(n,rows)],tasks:=ts,ready:=rs,cut:=true} λM g=>?_) (xr (.inr rfl) (l q _ rfl rfl rfl));rw[zaJ z,wt q];exact g
 refine ya rfl (go _ λM g=>?_) (h q);rw[zaJ z,wr q];exact g
end
end
inductive Tr where
 |lf:Tr
 |nd:Tr->Int->Tr->Tr
noncomputable def Tr.d:Tr->D
 |.lf=>.non
 |.nd l v r=>.tup [l.d,.int v,r.d]
noncomputable def Tr.nodes:Tr->Nat
 |.lf=>0
 |.nd l _ r=>1+l.nodes+r.nodes
theorem Tr.pure:∀t:Tr,zi t.d
 |.lf=>trivial
 |.nd l _ r=>⟨l.pure,zaA,r.pure,zaA⟩
def Vt(s:Str)(d:D):Prop:=(s = "num"/\∃i:Int,d=.int i)\/(s = "list"/\∃l:List Int,d=.tup (l.map D.int)/\l.length<=100)\/(s = "tree"/\∃t:Tr,d=t.d/\t.nodes<=100)
def ra(l:List Int):zu (l.map D.int):=y8.mpr λd a=>by
 obtain⟨t,_,rfl⟩:=zah.mp a;trivial
theorem Vt.pure{s:Str}{d:D}(h:Vt s d):zi d:=by
 rcases h with⟨_,i,rfl⟩|⟨_,l,rfl,_⟩|⟨_,t,rfl,_⟩
 ·trivial
 ·exact ra l
 exact t.pure
abbrev Sig:=List (Str×List Str×Str)
noncomputable def sigL:Sig->Str->Option (List Str×Str)
 |[],_=>none
 |p::r,z=>if p.1=z then some p.2 else sigL r z
abbrev Env:=List (Str×Str)
noncomputable def envL:Env->Str->Option Str
 |[],_=>none
 |p::r,z=>if p.1=z then some p.2 else envL r z
mutual
inductive Et(fs:Sig)(g:Env):D->Str->Nat->Prop
 |num (i:Int):Et fs g (.tup [.str "num",.int i]) "num" 1
 |var {z s:Str} (h:envL g z=some s):Et fs g (.tup [.str "var",.str z]) s 1
 |nil:Et fs g (.tup [.str "nil"]) "list" 1
 |leaf:Et fs g (.tup [.str "leaf"]) "tree" 1
 |sum {k:Str} {a b:D} {m n:Nat} (hk:k = "add"\/k = "sub") (ha:Et fs g a "num" m) (hb:Et fs g b "num" n):Et fs g (.tup [.str k,a,b]) "num" (m+(n+0)+1)
 |cons {a b:D} {m n:Nat} (ha:Et fs g a "num" m) (hb:Et fs g b "list" n):Et fs g (.tup [.str "cons",a,b]) "list" (m+(n+0)+1)
 |node {a b c:D} {m n o:Nat} (ha:Et fs g a "tree" m) (hb:Et fs g b "num" n) (hc:Et fs g c "tree" o):Et fs g (.tup [.str "node",a,b,c]) "tree" (m+(n+(o+0))+1)
 |call {f s:Str} {J:List D} {ss:List Str} {m:Nat} (hf:sigL fs f=some (ss,s)) (he:Ets fs g J ss m):Et fs g (.tup [.str "call",.str f,.tup J]) s (m+1)
inductive Ets(fs:Sig)(g:Env):List D->List Str->Nat->Prop
 |nil:Ets fs g [] [] 0
 |cons {e:D} {s:Str} {J:List D} {ss:List Str} {m n:Nat} (h:Et fs g e s m) (t:Ets fs g J ss n):Ets fs g (e::J) (s::ss) (m+n)
end
inductive Bt(fs:Sig):Env->D->Str->Prop
 |give {g:Env} {e:D} {s:Str} {n:Nat} (h:Et fs g e s n) (l:n<=85):Bt fs g (.tup [.str "give",e]) s
 |bind {g:Env} {z s1 s:Str} {e b:D} {n:Nat} (lg:g.length<=100) (h:Et fs g e s1 n) (l:n<=85) (nd:(g.map Prod.fst++[z]).Nodup) (hb:Bt fs (g++[(z,s1)]) b s):Bt fs g (.tup [.str "let",.str z,e,b]) s
 |less {g:Env} {s:Str} {a b c d:D} {m n:Nat} (ha:Et fs g a "num" m) (hb:Et fs g b "num" n) (l:m<=85) (l2:n<=85) (hc:Bt fs g c s) (hd:Bt fs g d s):Bt fs g (.tup [.str "less",a,b,c,d]) s
 |list {g:Env} {x h t s:Str} {b c:D} (lg:g.length<=100) (hx:envL g x=some "list") (hb:Bt fs g b s) (nd:(g.map Prod.fst++[h,t]).Nodup) (hc:Bt fs (g++([(h,"num"),(t,"list")]:Env)) c s):Bt fs g (.tup [.str "list",.str x,b,.str h,.str t,c]) s
 |tree {g:Env} {x l v r s:Str} {b c:D} (lg:g.length<=100) (hx:envL g x=some "tree") (hb:Bt fs g b s) (nd:(g.map Prod.fst++[l,v,r]).Nodup) (hc:Bt fs (g++([(l,"tree"),(v,"num"),(r,"tree")]:Env)) c s):Bt fs g (.tup [.str "tree",.str x,b,.str l,.str v,.str r,c]) s
def Ft1:Env->List (Str×D)->Prop
 |[],r=>r=[]
 |p::g,r=>∃v r',r=(p.1,v)::r'/\Vt p.2 v/\Ft1 g r'
def Ft1.get:∀{g:Env}{r:List (Str×D)}{z s:Str},Ft1 g r->envL g z=some s->∃v,rowG r z=some v/\Vt s v
 |p::g,_,z,s,⟨v,r',rfl,hv,q⟩,e=>by
  unfold envL at e;unfold rowG;by_cases h:p.1=z
  ·rw[zaK h]at e ⊢;cases e;exact⟨v,rfl,hv⟩
  rw[zaJ h]at e ⊢;exact q.get e
def Ft1.names:∀{g:Env}{r:List (Str×D)},Ft1 g r->r.map Prod.fst=g.map Prod.fst
 |[],_,h=>by cases (show _=[] from h);rfl
 |p::g,_,⟨v,r',rfl,hv,q⟩=>by rw[zaB,zaB,q.names]
def Ft1.len{g:Env}{r:List (Str×D)}(h:Ft1 g r):r.length=g.length:=by
 have:=zbP List.length h.names
 rwa [zLm,zLm]at this
def Ft1.add:∀{g:Env}{r:List (Str×D)}{h:Env}{q:List (Str×D)},Ft1 g r->Ft1 h q->Ft1 (g++h) (r++q)
 |[],_,_,_,a,b=>by cases (show _=[] from a);exact b
 |p::g,_,_,_,⟨v,r',rfl,hv,a⟩,b=>⟨v,r'++_,rfl,hv,a.add b⟩
noncomputable abbrev lvD:D:=.tup [.str "leave"]
inductive Kt(fs:Sig):List Env->List D->List Str->Nat->Nat->Prop
 |done {s:Str}:Kt fs [] [] [s] 0 1
 |val {g:Env} {gs:List Env} {e:D} {s:Str} {ts:List D} {rs:List Str} {n k j:Nat} (h:Et fs g e s n) (q:Kt fs (g::gs) ts (s::rs) k (j+1)):Kt fs (g::gs) (vlD e::ts) rs (n+k) j
 |sum {o:Str} {a b:D} {g:Env} {gs:List Env} {ts:List D} {rs:List Str} {k j:Nat} (hk:o = "add"\/o = "sub") (q:Kt fs (g::gs) ts ("num"::rs) k (j+1)):Kt fs (g::gs) (apD (.tup [.str o,a,b])::ts) ("num"::"num"::rs) (1+k) (j+2)
 |cons {a b:D} {g:Env} {gs:List Env} {ts:List D} {rs:List Str} {k j:Nat} (q:Kt fs (g::gs) ts ("list"::rs) k (j+1)):Kt fs (g::gs) (apD (.tup [.str "cons",a,b])::ts) ("list"::"num"::rs) (1+k) (j+2)
 |node {a b c:D} {g:Env} {gs:List Env} {ts:List D} {rs:List Str} {k j:Nat} (q:Kt fs (g::gs) ts ("tree"::rs) k (j+1)):Kt fs (g::gs) (apD (.tup [.str "node",a,b,c])::ts) ("tree"::"num"::"tree"::rs) (1+k) (j+3)
 |call {f s:Str} {J:List D} {ss:List Str} {g:Env} {gs:List Env} {ts:List D} {rs:List Str} {k j:Nat} (hf:sigL fs f=some (ss,s)) (hl:J.length=ss.length) (q:Kt fs (g::gs) ts (s::rs) k (j+1)):Kt fs (g::gs) (apD (.tup [.str "call",.str f,.tup J])::ts) (ss.reverse++rs) (1+k) (j+ss.length)
 |body {g:Env} {gs:List Env} {b:D} {s:Str} {ts:List D} {rs:List Str} {k j:Nat} (h:Bt fs g b s) (q:Kt fs gs ts (s::rs) k (j+1)) (l:k+j<=170):Kt fs (g::gs) (bdD b::lvD::ts) rs 0 0
 |bring {g:Env} {gs:List Env} {z s1 s:Str} {e b:D} {ts:List D} {rs:List Str} {k j:Nat} (lg:g.length<=100) (pe:zi e) (nd:(g.map Prod.fst++[z]).Nodup) (h:Bt fs (g++[(z,s1)]) b s) (q:Kt fs gs ts (s::rs) k (j+1)) (l:k+j<=170):Kt fs (g::gs) (brD (.tup [.str "let",.str z,e,b])::lvD::ts) (s1::rs) 0 1
 |choose {g:Env} {gs:List Env} {s:Str} {a b c d:D} {ts:List D} {rs:List Str} {k j:Nat} (hc:Bt fs g c s) (hd:Bt fs g d s) (q:Kt fs gs ts (s::rs) k (j+1)) (l:k+j<=170):Kt fs (g::gs) (chD (.tup [.str "less",a,b,c,d])::lvD::ts) ("num"::"num"::rs) 0 2
 |leave {g:Env} {gs:List Env} {s:Str} {ts:List D} {rs:List Str} {k j:Nat} (q:Kt fs gs ts (s::rs) k (j+1)) (l:k+j<=170):Kt fs (g::gs) (lvD::ts) (s::rs) 0 1
theorem Kt.vals{fs:Sig}{g:Env}{gs:List Env}:∀{J:List D}{ss:List Str}{ts:List D}{rs:List Str}{m k j:Nat},Ets fs g J ss m->Kt fs (g::gs) ts (ss.reverse++rs) k (j+ss.length)->Kt fs (g::gs) (J.map vlD++ts) rs (m+k) j
 |[],_,_,_,_,_,_,.nil,k=>by rw[Nat.zero_add];exact k
 |_::_,_,_,_,_,_,_,.cons h t,k=>by
  rw[Nat.add_assoc];exact .val h (Kt.vals t (by rw[zdA,zaS,zLc,<- Nat.add_assoc,Nat.add_right_comm]at k;exact k))
def Et.pos{fs:Sig}{g:Env}{e:D}{s:Str}{n:Nat}(h:Et fs g e s n):1<=n:=by
 cases h <;> lia
def Kt.len{fs:Sig}{gs:List Env}{ts:List D}{rs:List Str}{k j:Nat}(h:Kt fs gs ts rs k j)(hl:∀ f ss s,sigL fs f=some (ss,s)->ss.length<=4):ts.length+rs.length<=k+j+2+173*gs.length:=by
 induction h with
 |done=>simp only[zLc,zLn];lia
 |val h q ih =>
  have:1<=_:=Et.pos h;simp only[zLc]at ih ⊢;lia
 |call hf _ q ih =>
  simp only[zLc,zLa,zaH]at ih ⊢;lia
 |_ =>
  simp only[zLc] at *;lia
structure Rw where
 nm:Str
 as:List D
 up:Option Nat
 en:Option D
noncomputable def Rw.d(r:Rw):D:=.tup [.str r.nm,.tup r.as,r.up.elim .non λn=>.int n,.bl r.en.isSome,r.en.getD .non]
structure Sx where
 cl:List Rw
 st:List (Nat×Str)
 fr:List (Nat×List (Str×D))
 ts:List D
 rs:List D
noncomputable def Sx.ms(s:Sx):MS:=stt (s.cl.map Rw.d) (s.st.map λp=>stp p.1 p.2) (s.fr.reverse.map λp=>((p.1:Int),p.2)) s.ts.reverse s.rs.reverse
noncomputable def ad(st:List (Nat×Str))(n:Nat)(k:Str):List (Nat×Str):=st++[(n,k)]
inductive Nx(fns:List (Str×D)):Sx->Option Str->Sx->Prop
 |num {cl st fr ts rs} (i:Int):Nx fns ⟨cl,st,fr,vlD (.tup [.str "num",.int i])::ts,rs⟩ none ⟨cl,st,fr,ts,.int i::rs⟩
 |var {cl st n r fr z ts rs} {v:D} (h:rowG r z=some v) (pv:zi v):Nx fns ⟨cl,st,(n,r)::fr,vlD (.tup [.str "var",.str z])::ts,rs⟩ none ⟨cl,st,(n,r)::fr,ts,v::rs⟩
 |nil {cl st fr ts rs}:Nx fns ⟨cl,st,fr,vlD (.tup [.str "nil"])::ts,rs⟩ none ⟨cl,st,fr,ts,.tup []::rs⟩
 |leaf {cl st fr ts rs}:Nx fns ⟨cl,st,fr,vlD (.tup [.str "leaf"])::ts,rs⟩ none ⟨cl,st,fr,ts,.non::rs⟩
 |op {cl st fr ts rs} {k:Str} {J:List D} (hk:k = "cons"\/k = "node"\/k = "add"\/k = "sub") (pe:zu J) (l:J.length<=10):Nx fns ⟨cl,st,fr,vlD (.tup (.str k::J))::ts,rs⟩ none ⟨cl,st,fr,J.map vlD++apD (.tup (.str k::J))::ts,rs⟩
 |call {cl st fr ts rs} {f:Str} {J:List D} (pe:zu J) (l:J.length<=10):Nx fns ⟨cl,st,fr,vlD (.tup [.str "call",.str f,.tup J])::ts,rs⟩ none ⟨cl,st,fr,J.map vlD++apD (.tup [.str "call",.str f,.tup J])::ts,rs⟩
 |give {cl st fr ts rs} {e:D} (pe:zi e):Nx fns ⟨cl,st,fr,bdD (.tup [.str "give",e])::ts,rs⟩ none ⟨cl,st,fr,vlD e::ts,rs⟩
 |bind {cl st fr ts rs} {z:Str} {e b:D} (pe:zi e) (pb:zi b):Nx fns ⟨cl,st,fr,bdD (.tup [.str "let",.str z,e,b])::ts,rs⟩ none ⟨cl,st,fr,vlD e::brD (.tup [.str "let",.str z,e,b])::ts,rs⟩
 |less {cl st fr ts rs} {a b c d:D} (pa:zi a) (pb:zi b) (pc:zi c) (pd:zi d):Nx fns ⟨cl,st,fr,bdD (.tup [.str "less",a,b,c,d])::ts,rs⟩ none ⟨cl,st,fr,vlD a::vlD b::chD (.tup [.str "less",a,b,c,d])::ts,rs⟩
 |leave {c1 c2 st n r fr ts v rs} {q:Rw} (hn:c1.length=n) (he:q.en=none) (pa:zu q.as) (pv:zi v):Nx fns ⟨c1++q::c2,st,(n,r)::fr,lvD::ts,v::rs⟩ none ⟨c1++{q with en:=some v}::c2,st,fr,ts,v::rs⟩
 |sum {cl st n r fr ts rs} {k:Str} {a b:D} {x y:Int} (hk:k = "add"\/k = "sub"):Nx fns ⟨cl,st,(n,r)::fr,apD (.tup [.str k,a,b])::ts,.int y::.int x::rs⟩ (some "sum") ⟨cl,ad st n "sum",(n,r)::fr,ts,.int (if k = "add" then x+y else x-y)::rs⟩
 |cons {cl st n r fr ts rs} {a b:D} {x:Int} {l:List Int} (h:l.length<100):Nx fns ⟨cl,st,(n,r)::fr,apD (.tup [.str "cons",a,b])::ts,.tup (l.map D.int)::.int x::rs⟩ (some "make") ⟨cl,ad st n "make",(n,r)::fr,ts,.tup (.int x::l.map D.int)::rs⟩
 |node {cl st n r fr ts rs} {a b c:D} {x:Int} {t u:Tr} (h:t.nodes+u.nodes<100):Nx fns ⟨cl,st,(n,r)::fr,apD (.tup [.str "node",a,b,c])::ts,u.d::.int x::t.d::rs⟩ (some "make") ⟨cl,ad st n "make",(n,r)::fr,ts,(Tr.nd t x u).d::rs⟩
 |bring {cl st n r fr ts v rs} {z:Str} {e b:D} (nd:(r.map Prod.fst++[z]).Nodup) (pe:zi e) (pb:zi b) (pv:zi v) (br:r.length<=800):Nx fns ⟨cl,st,(n,r)::fr,brD (.tup [.str "let",.str z,e,b])::ts,v::rs⟩ (some "let") ⟨cl,ad st n "let",(n,r++[(z,v)])::fr,bdD b::ts,rs⟩
 |choose {cl st n r fr ts rs} {a b c d:D} {x y:Int} (pc:zi c) (pd:zi d):Nx fns ⟨cl,st,(n,r)::fr,chD (.tup [.str "less",a,b,c,d])::ts,.int y::.int x::rs⟩ (some "less") ⟨cl,ad st n "less",(n,r)::fr,bdD (if x<y then c else d)::ts,rs⟩
 |openN {cl st n r fr ts rs} {x h t:Str} {b c:D} (hv:rowG r x=some (.tup [])) (nd:(r.map Prod.fst++[h,t]).Nodup) (pb:zi b) (pc:zi c) (br:r.length<=800):Nx fns ⟨cl,st,(n,r)::fr,bdD (.tup [.str "list",.str x,b,.str h,.str t,c])::ts,rs⟩ (some "open") ⟨cl,ad st n "open",(n,r)::fr,bdD b::ts,rs⟩
 |openC {cl st n r fr ts rs} {x h t:Str} {b c:D} {i:Int} {l:List Int} (hv:rowG r x=some (.tup (.int i::l.map D.int))) (nd:(r.map Prod.fst++[h,t]).Nodup) (pb:zi b) (pc:zi c) (br:r.length<=800):Nx fns ⟨cl,st,(n,r)::fr,bdD (.tup [.str "list",.str x,b,.str h,.str t,c])::ts,rs⟩ (some "open") ⟨cl,ad st n "open",(n,r++[(h,.int i),(t,.tup (l.map D.int))])::fr,bdD c::ts,rs⟩
 |openL {cl st n r fr ts rs} {x l v w:Str} {b c:D} (hv:rowG r x=some .non) (pb:zi b) (pc:zi c) (br:r.length<=800):Nx fns ⟨cl,st,(n,r)::fr,bdD (.tup [.str "tree",.str x,b,.str l,.str v,.str w,c])::ts,rs⟩ (some "open") ⟨cl,ad st n "open",(n,r)::fr,bdD b::ts,rs⟩
 |openT {cl st n r fr ts rs} {x l v w:Str} {b c:D} {i:Int} {t u:Tr} (hv:rowG r x=some (Tr.nd t i u).d) (hn:(Tr.nd t i u).nodes<=100) (nd:(r.map Prod.fst++[l,v,w]).Nodup) (pb:zi b) (pc:zi c) (br:r.length<=800):Nx fns ⟨cl,st,(n,r)::fr,bdD (.tup [.str "tree",.str x,b,.str l,.str v,.str w,c])::ts,rs⟩ (some "open") ⟨cl,ad st n "open",(n,r++[(l,t.d),(v,.int i),(w,u.d)])::fr,bdD c::ts,rs⟩
 |enter {cl st fr ts rs} {f:Str} {J us:List D} {n0 sz b:D} {ps:List (Str×D)} (hf:rowG fns f=some (.tup [n0,pmD ps,sz,b])) (le:us.length=J.length) (ne:us≠[]) (l10:us.length<=10) (pu:zu us) (lp:ps.length=us.length) (nd:(ps.map Prod.fst).Nodup) (h20:fr.length<20):Nx fns ⟨cl,st,fr,apD (.tup [.str "call",.str f,.tup J])::ts,us.reverse++rs⟩ (some "call") ⟨cl++[⟨f,us,fr.head?.map Prod.fst,none⟩],ad st cl.length "call",(cl.length,(ps.map Prod.fst).zip us)::fr,bdD b::lvD::ts,rs⟩
inductive Cx1(fns:List (Str×D)):Sx->Prop
 |cons {cl st n r fr ts rs} {a b:D} {x:Int} {l:List Int} (h:l.length=100):Cx1 fns ⟨cl,st,(n,r)::fr,apD (.tup [.str "cons",a,b])::ts,.tup (l.map D.int)::.int x::rs⟩
 |node {cl st n r fr ts rs} {a b c:D} {x:Int} {t u:Tr} (ht:t.nodes<=100) (hu:u.nodes<=100) (h:100<=t.nodes+u.nodes):Cx1 fns ⟨cl,st,(n,r)::fr,apD (.tup [.str "node",a,b,c])::ts,u.d::.int x::t.d::rs⟩
 |enter {cl st fr ts rs} {f:Str} {J us:List D} {n0 sz b:D} {ps:List (Str×D)} (hf:rowG fns f=some (.tup [n0,pmD ps,sz,b])) (le:us.length=J.length) (ne:us≠[]) (l10:us.length<=10) (pu:zu us) (lp:ps.length=us.length) (nd:(ps.map Prod.fst).Nodup) (pf:zi (.tup [n0,pmD ps,sz,b])) (h20:20<=fr.length):Cx1 fns ⟨cl,st,fr,apD (.tup [.str "call",.str f,.tup J])::ts,us.reverse++rs⟩
def Et.pure{fs:Sig}{g:Env}{e:D}{s:Str}{n:Nat}(h:Et fs g e s n):zi e:=Et.rec (motive_1:=λe _ _ _=>zi e) (motive_2:=λJ _ _ _=>zu J) (λ_=>⟨zaA,zaA,zaA⟩) (λ_=>⟨zaA,zaA,zaA⟩) ⟨zaA,zaA⟩ ⟨zaA,zaA⟩ (λ_ _ _ a b=>⟨zaA,a,b,zaA⟩) (λ_ _ a b=>⟨zaA,a,b,zaA⟩) (λ_ _ _ a b c=>⟨zaA,a,b,c,zaA⟩) (λ_ _ i=>⟨zaA,zaA,i,zaA⟩) trivial (λ_ _ i j=>⟨i,j⟩) h
def Ets.pure{fs:Sig}{g:Env}{J:List D}{d:List Str}{n:Nat}(h:Ets fs g J d n):zu J:=Ets.rec (motive_1:=λe _ _ _=>zi e) (motive_2:=λJ _ _ _=>zu J) (λ_=>⟨zaA,zaA,zaA⟩) (λ_=>⟨zaA,zaA,zaA⟩) ⟨zaA,zaA⟩ ⟨zaA,zaA⟩ (λ_ _ _ a b=>⟨zaA,a,b,zaA⟩) (λ_ _ a b=>⟨zaA,a,b,zaA⟩) (λ_ _ _ a b c=>⟨zaA,a,b,c,zaA⟩) (λ_ _ i=>⟨zaA,zaA,i,zaA⟩) trivial (λ_ _ i j=>⟨i,j⟩) h
theorem Ets.len{fs:Sig}{g:Env}:∀{J:List D}{ss:List Str}{n:Nat},Ets fs g J ss n->J.length=ss.length
 |_,_,_,.nil=>rfl
 |_,_,_,.cons _ t=>by rw[zLc,zLc,t.len]
theorem Bt.pure{fs:Sig}{g:Env}{b:D}{s:Str}(h:Bt fs g b s):zi b:=by
 induction h with
 |give h _=>exact⟨zaA,h.pure,zaA⟩
 |bind _ h _ _ _ i=>exact⟨zaA,zaA,h.pure,i,zaA⟩
 |less a b _ _ _ _ i j=>exact⟨zaA,a.pure,b.pure,i,j,zaA⟩
 |list _ _ _ _ _ i j=>exact⟨zaA,zaA,i,zaA,zaA,j,zaA⟩
 |tree _ _ _ _ _ i j=>exact⟨zaA,zaA,i,zaA,zaA,zaA,j,zaA⟩
def FrT:List Env->List (Nat×List (Str×D))->Prop
 |[],l=>l=[]
 |g::gs,l=>∃n r q,l=(n,r)::q/\Ft1 g r/\FrT gs q
def RsT:List Str->List D->Prop
 |[],l=>l=[]
 |s::ss,l=>∃v q,l=v::q/\Vt s v/\RsT ss q
theorem RsT.split:∀{a b:List Str}{l:List D},RsT (a++b) l->∃p q,l=p++q/\RsT a p/\RsT b q
 |[],_,l,h=>⟨[],l,rfl,rfl,h⟩
 |s::a,b,_,⟨v,q,rfl,hv,h⟩=>let ⟨p,q',e,h1,h2⟩:=RsT.split (a:=a) (b:=b) h;⟨v::p,q',by rw[e];rfl,⟨v,p,rfl,hv,h1⟩,h2⟩
theorem RsT.len:∀{a:List Str}{l:List D},RsT a l->l.length=a.length
 |[],_,h=>by cases (show _=[] from h);rfl
 |_::_,_,⟨_,_,rfl,_,h⟩=>by rw[zLc,zLc,h.len]
theorem RsT.app:∀{a b:List Str}{p q:List D},RsT a p->RsT b q->RsT (a++b) (p++q)
 |[],_,_,_,h,k=>by cases (show _=[] from h);exact k
 |_::_,_,_,_,⟨v,r,rfl,hv,h⟩,k=>⟨v,r++_,rfl,hv,h.app k⟩
theorem RsT.rev:∀{a:List Str}{l:List D},RsT a l->RsT a.reverse l.reverse
 |[],_,h=>by cases (show _=[] from h);rfl
 |s::a,_,⟨v,r,rfl,hv,h⟩=>by
  rw[zdA,zdA];exact h.rev.app ⟨v,[],rfl,hv,rfl⟩
theorem RsT.pure:∀{a:List Str}{l:List D},RsT a l->zu l
 |[],_,h=>by cases (show _=[] from h);trivial
 |_::_,_,⟨v,r,rfl,hv,h⟩=>⟨hv.pure,h.pure⟩
def Rc(fns:List (Str×D))(fs:Sig):Prop:=∀f ss s,sigL fs f=some (ss,s)->∃n0 ps sz b,rowG fns f=some (.tup [n0,pmD ps,sz,b])/\ps.length=ss.length/\1<=ss.length/\ss.length<=4/\(ps.map Prod.fst).Nodup/\zi (.tup [n0,pmD ps,sz,b])/\Bt fs ((ps.map Prod.fst).zip ss) b s
structure Ok(fs:Sig)(s:Sx):Prop where
 ex:∃gs ss k j,Kt fs gs s.ts ss k j/\k+j<=171/\FrT gs s.fr/\RsT ss s.rs
 nd:(s.fr.map Prod.fst).Nodup
 op:∀n∈s.fr.map Prod.fst,∃q:Rw,s.cl[n]?=some q/\q.en=none
 pa:∀q∈s.cl,zu q.as
 f20:s.fr.length<=20
 cs:s.cl.length<=s.st.length
theorem Py:∀{zs:List Str}{ss:List Str}{us:List D},zs.length=ss.length->RsT ss us->Ft1 (zs.zip ss) (zs.zip us)
 |[],[],_,_,h=>by cases (show _=[] from h);rfl
 |z::zs,s::ss,_,hl,⟨v,q,rfl,hv,h⟩=>⟨v,zs.zip q,rfl,hv,Py (zfY hl) h⟩
def Ni{s:List Rw}{n:Nat}{q:Rw}(h:s[n]?=some q):∃a b,s=a++q::b/\a.length=n:=by
 have hl:=(zag.mp h).1;refine⟨s.take n,s.drop (n+1),?_,by rw[zaZ];lia⟩
 rw[<- (zag.mp h).2,List.getElem_cons_drop hl,zfL]
def bv{d:D}(h:Vt "num" d):∃i:Int,d=.int i:=by
 rcases h with⟨_,h⟩|⟨e,_⟩|⟨e,_⟩
 ·exact h
 ·exact absurd e aB
 exact absurd e aB
def Rg{d:D}(h:Vt "list" d):∃l:List Int,d=.tup (l.map D.int)/\l.length<=100:=by
 rcases h with⟨e,_⟩|⟨_,h⟩|⟨e,_⟩
 ·exact absurd e aB
 ·exact h
 exact absurd e aB
def Wo{d:D}(h:Vt "tree" d):∃t:Tr,d=t.d/\t.nodes<=100:=by
 rcases h with⟨e,_⟩|⟨e,_⟩|⟨_,h⟩
 ·exact absurd e aB
 ·exact absurd e aB
 exact h
def okI{fs:Sig}{s:Sx}{gs:List Env}{a:List Str}{k j:Nat}(h:Kt fs gs s.ts a k j)(h1:k+j<=171)(h2:FrT gs s.fr)(d:RsT a s.rs):∃gs a k j,Kt fs gs s.ts a k j/\k+j<=171/\FrT gs s.fr/\RsT a s.rs:=⟨gs,a,k,j,h,h1,h2,d⟩
def nxI{fns:List (Str×D)}{fs:Sig}{s s':Sx}{l:Option Str}(h:Nx fns s l s')(o:Ok fs s'):Cx1 fns s\/∃l s',Nx fns s l s'/\Ok fs s':=.inr ⟨l,s',h,o⟩
def rsI{s:Str}{a:List Str}{v:D}{q:List D}(h:Vt s v)(k:RsT a q):RsT (s::a) (v::q):=⟨v,q,rfl,h,k⟩
def frI{g:Env}{gs:List Env}{n:Nat}{r:List (Str×D)}{q:List (Nat×List (Str×D))}(h:Ft1 g r)(k:FrT gs q):FrT (g::gs) ((n,r)::q):=⟨n,r,q,rfl,h,k⟩
def Uj{fns:List (Str×D)}{fs:Sig}(hF:Rc fns fs){s:Sx}(h:Ok fs s)(hn:s.ts≠[]):Cx1 fns s\/∃l s',Nx fns s l s'/\Ok fs s':=by
 obtain⟨⟨gs,ss,K,es,kt,kj,fr,rs⟩,nd,op,I,g,cs⟩:=h;obtain⟨cl,st,F,ts,R⟩:=s
 dsimp only at *
 have L:∀(n:Nat)(k:Str),cl.length<=(ad st n k).length:=λn k=>by unfold ad;rw[zLa];lia
 cases kt with
 |done=>exact absurd rfl hn
 |val he k =>
  cases he with
  |num i=>exact nxI (.num i) ⟨okI k aD fr (rsI (.inl ⟨rfl,i,rfl⟩) rs),nd,op,I,g,cs⟩
  |var Y =>
   obtain⟨n,r,q,rfl,G,B⟩:=fr;obtain⟨v,e,Y⟩:=G.get Y;exact nxI (.var e Y.pure) ⟨okI k aD (frI G B) (rsI Y rs),nd,op,I,g,cs⟩
  |nil=>exact nxI (.nil) ⟨okI k aD fr (rsI (.inr (.inl ⟨rfl,[],rfl,by decide⟩)) rs),nd,op,I,g,cs⟩
  |leaf=>exact nxI (.leaf) ⟨okI k aD fr (rsI (.inr (.inr ⟨rfl,.lf,rfl,by decide⟩)) rs),nd,op,I,g,cs⟩
  |sum hk a b=>exact nxI (.op (by rcases hk with rfl|rfl <;> simp) ⟨a.pure,b.pure,zaA⟩ (zaP rfl)) ⟨okI (Kt.vals (.cons a (.cons b .nil)) (.sum hk k)) aD fr rs,nd,op,I,g,cs⟩
  |cons a b=>exact nxI (.op (.inl rfl) ⟨a.pure,b.pure,zaA⟩ (zaP rfl)) ⟨okI (Kt.vals (.cons a (.cons b .nil)) (.cons k)) aD fr rs,nd,op,I,g,cs⟩
  |node a b c=>exact nxI (.op (.inr (.inl rfl)) ⟨a.pure,b.pure,c.pure,zaA⟩ (zaP rfl)) ⟨okI (Kt.vals (.cons a (.cons b (.cons c .nil))) (.node k)) aD fr rs,nd,op,I,g,cs⟩
  |call G he =>
   obtain⟨_,_,_,_,_,_,_,l4,_,_,_⟩:=hF _ _ _ G;exact nxI (.call he.pure (by rw[he.len];lia)) ⟨okI (Kt.vals he (.call G he.len k)) aD fr rs,nd,op,I,g,cs⟩
 |sum hk k =>
  obtain⟨n,r,q,rfl,G,B⟩:=fr;obtain⟨v,_,rfl,h1,w,Q,rfl,h2,rs⟩:=rs;obtain⟨y,rfl⟩:=bv h1;obtain⟨x,rfl⟩:=bv h2;exact nxI (.sum hk) ⟨okI k aD (frI G B) (rsI (.inl ⟨rfl,_,rfl⟩) rs),nd,op,I,g,L _ _⟩
 |cons k =>
  obtain⟨n,r,q,rfl,G,B⟩:=fr;obtain⟨v,_,rfl,h1,w,Q,rfl,h2,rs⟩:=rs;obtain⟨l,rfl,hl⟩:=Rg h1;obtain⟨x,rfl⟩:=bv h2;by_cases c:l.length<100
  ·exact nxI (.cons c) ⟨okI k aD (frI G B) (rsI (.inr (.inl ⟨rfl,x::l,rfl,c⟩)) rs),nd,op,I,g,L _ _⟩
  exact .inl (.cons aD)
 |node k =>
  obtain⟨n,r,q,rfl,G,B⟩:=fr;obtain⟨v,_,rfl,h1,w,_,rfl,h2,z,Q,rfl,h3,rs⟩:=rs;obtain⟨u,rfl,hu⟩:=Wo h1;obtain⟨x,rfl⟩:=bv h2;obtain⟨t,rfl,ht⟩:=Wo h3;by_cases c:t.nodes+u.nodes<100
  ·exact nxI (.node c) ⟨okI k aD (frI G B) (rsI (.inr (.inr ⟨rfl,.nd t x u,rfl,by show 1+t.nodes+u.nodes<=100;lia⟩)) rs),nd,op,I,g,L _ _⟩
  exact .inl (.node ht hu aD)
 |call G hl k =>
  obtain⟨p,Q,rfl,h1,h2⟩:=rs.split;have h1:=h1.rev;rw[zcO]at h1;obtain⟨us,rfl⟩:∃us,p=us.reverse:=⟨p.reverse,p.reverse_reverse.symm⟩;rw[zcO]at h1;obtain⟨n0,ps,sz,b,e,lp,l1,l4,np,pf,N⟩:=hF _ _ _ G;have ul:=h1.len;by_cases c:F.length<20
  ·refine nxI (.enter e aD (λz=>by rw[z]at ul;simp at ul;lia) aD h1.pure aD np c) ⟨okI (.body N k aD) aD (frI (Py (by rw[zLm];exact lp) h1) fr) h2,?_,?_,?_,c,by unfold ad;rw[zLa,zLa];exact Nat.add_le_add_right cs 1⟩
   ·show(cl.length::F.map Prod.fst).Nodup;refine zaQ.mpr ⟨λm=>?_,nd⟩;obtain⟨q,W,_⟩:=op _ m;have:=(zag.mp W).1;lia
   ·intro p Z;rcases zam.mp Z with rfl|Z
    ·exact⟨_,by show(cl++[_])[cl.length]?=_;rw[zaC (zaj _),zbX];rfl,rfl⟩
    obtain⟨q,W,z⟩:=op p Z;exact⟨q,by show(cl++[_])[p]?=_;rw[zaG (zag.mp W).1];exact W,z⟩
   intro q W;rcases zas.mp W with W|W
   ·exact I q W
   rw[zaE.mp W];exact h1.pure
  exact .inl (.enter e aD (λz=>by rw[z]at ul;simp at ul;lia) aD h1.pure aD np pf aD)
 |body N k kl =>
  cases N with
  |give he l=>exact nxI (.give he.pure) ⟨okI (.val he (.leave k kl)) aD fr rs,nd,op,I,g,cs⟩
  |bind lg he l ne N=>exact nxI (.bind he.pure N.pure) ⟨okI (.val he (.bring lg he.pure ne N k kl)) aD fr rs,nd,op,I,g,cs⟩
  |less a b l l2 c d=>exact nxI (.less a.pure b.pure c.pure d.pure) ⟨okI (.val a (.val b (.choose c d k kl))) aD fr rs,nd,op,I,g,cs⟩
  |list lg O N ne V =>
   obtain⟨n,r,q,rfl,G,B⟩:=fr;obtain⟨v,e,Y⟩:=G.get O;obtain⟨l,rfl,hl⟩:=Rg Y;cases l with
   |nil=>exact nxI (.openN e (by rw[G.names];exact ne) N.pure V.pure (by rw[G.len];lia)) ⟨okI (.body N k kl) aD (frI G B) rs,nd,op,I,g,L _ _⟩
   |cons i l=>exact nxI (.openC e (by rw[G.names];exact ne) N.pure V.pure (by rw[G.len];lia)) ⟨okI (.body V k kl) aD (frI (G.add ⟨_,_,rfl,.inl ⟨rfl,i,rfl⟩,_,_,rfl,.inr (.inl ⟨rfl,l,rfl,by have:l.length+1<=100:=hl;lia⟩),rfl⟩) B) rs,nd,op,I,g,L _ _⟩
  |tree lg O N ne V =>
   obtain⟨n,r,q,rfl,G,B⟩:=fr;obtain⟨v,e,Y⟩:=G.get O;obtain⟨t,rfl,ht⟩:=Wo Y;cases t with
   |lf=>exact nxI (.openL e N.pure V.pure (by rw[G.len];lia)) ⟨okI (.body N k kl) aD (frI G B) rs,nd,op,I,g,L _ _⟩
   |nd t i u =>
    have a4:1+t.nodes+u.nodes<=100:=ht;exact nxI (.openT e ht (by rw[G.names];exact ne) N.pure V.pure (by rw[G.len];lia)) ⟨okI (.body V k kl) aD (frI (G.add ⟨_,_,rfl,.inr (.inr ⟨rfl,t,rfl,by lia⟩),_,_,rfl,.inl ⟨rfl,i,rfl⟩,_,_,rfl,.inr (.inr ⟨rfl,u,rfl,by lia⟩),rfl⟩) B) rs,nd,op,I,g,L _ _⟩
 |bring lg pe ne N k kl =>
  obtain⟨n,r,q,rfl,G,B⟩:=fr;obtain⟨v,Q,rfl,h1,rs⟩:=rs;exact nxI (.bring (by rw[G.names];exact ne) pe N.pure h1.pure (by rw[G.len];lia)) ⟨okI (.body N k kl) aD (frI (G.add ⟨v,[],rfl,h1,rfl⟩) B) rs,nd,op,I,g,L _ _⟩
 |choose V hd k kl =>
  obtain⟨n,r,q,rfl,G,B⟩:=fr;obtain⟨v,_,rfl,h1,w,Q,rfl,h2,rs⟩:=rs;obtain⟨y,rfl⟩:=bv h1;obtain⟨x,rfl⟩:=bv h2;exact nxI (.choose V.pure hd.pure) ⟨okI (.body (s:=_) (by split <;> assumption) k kl) aD (frI G B) rs,nd,op,I,g,L _ _⟩
 |leave k kl =>
  obtain⟨n,r,q,rfl,G,B⟩:=fr;obtain⟨v,Q,rfl,h1,rs⟩:=rs;obtain⟨w,hw,en⟩:=op n zao;obtain⟨c1,c2,rfl,V⟩:=Ni hw;have a0:=zaQ.mp nd;refine nxI (.leave V en (I w aE) h1.pure) ⟨okI k aD B (rsI h1 rs),a0.2,?_,?_,by have g:q.length+1<=20:=g;show q.length<=20;lia,by show(c1++_::c2).length<=_;rw[zLa,zLc]at cs ⊢;exact cs⟩
  ·intro p Z;obtain⟨x,O,ex⟩:=op p (zal _ Z);have pn:p≠n:=λe=>a0.1 (e▸Z);refine⟨x,?_,ex⟩;show(c1++_::c2)[p]?=_;rw[<- O];rcases Nat.lt_trichotomy p c1.length with z|z|z
   ·rw[zaG z,zaG z]
   ·lia
   rw[zaC aD,zaC aD]
   obtain⟨j,hj⟩:∃j,p-c1.length=j+1:=⟨p-c1.length-1,by lia⟩
   rw[hj];rfl
  intro x O;rcases zas.mp O with O|O
  ·exact I x (by simp[O])
  rcases zam.mp O with rfl|O
  ·exact I w aE
  exact I x (by simp[O])
structure Sz(s:Sx):Prop where
 ln:s.cl.length+s.st.length+s.ts.length+s.rs.length<=8000
 pr:zu s.rs
def yw{l:List D}(h:zu l):zu l.reverse:=y8.mpr λd a=>y8.mp h d (List.mem_reverse.mp a)
section
variable{fns:List (Str×D)}{most:Int}{P:MS->Prop}
def Fv{cl st ts rs:List D}{fs:List (Int×List (Str×D))}{i:Int}(b:Sm1 cl st ts rs)(h:Fin C R fns most P (stt cl st fs ts (rs++[.int i]))):Fin C R fns most P (stt cl st fs (ts++[vlD (.tup [.str "num",.int i])]) rs) :=
 ya rfl ⟨ts,.inr (.inl ⟨_,rfl,λM a=>⟨fns,most,_,rfl,by have:=b.1;show ts.length<=10000;lia,by have:=b.1;show rs.length<=10000;lia,.inl ⟨_,rfl,zaA,a⟩⟩⟩)⟩ h
def Lp{cl st ts rs:List D}{fs:List (Int×List (Str×D))}{z:Str}{e b1:D}(b:Sm1 cl st ts rs)(d:zi e)(g:zi b1)(h:Fin C R fns most P (stt cl st fs (ts++[brD (.tup [.str "let",.str z,e,b1])]++[vlD e]) rs)):Fin C R fns most P (stt cl st fs (ts++[bdD (.tup [.str "let",.str z,e,b1])]) rs) :=
 ya rfl ⟨ts,.inl ⟨_,rfl,λM a=>⟨fns,most,_,rfl,by have:=b.1;show ts.length<=10000;lia,.inr (.inl ⟨.str z,e,b1,rfl,zaA,d,g,a⟩)⟩⟩⟩ h
def Hr{s s':Sx}(b:Sz s)(h:Nx fns s none s')(k:Fin C R fns most P s'.ms):Fin C R fns most P s.ms:=by
 have bl:=b.ln;have y:=b.pr;have a:∀{x:D}{ts:List D},s.ts=x::ts->Sm1 (s.cl.map Rw.d) (s.st.map λp=>stp p.1 p.2) ts.reverse s.rs.reverse:=λe=>by
  rw[e,zLc]at bl;exact⟨by simp only[zLm,zaH];lia,yw y⟩
 cases h <;> (unfold Sx.ms at k ⊢;simp only[zdA,List.reverse_append,zMa,zaB,zbO]at k ⊢)
 case num i=>exact Fv (a rfl) k
 case var hv pv=>exact Fs (a rfl) hv pv k
 case nil=>exact Fw (a rfl) k
 case leaf=>exact Lm (a rfl) k
 case op hk pe l=>exact A7 (a rfl) hk aD pe (by rw[<- List.map_reverse]at k;exact k)
 case call pe l=>exact Lo (a rfl) aD pe (by rw[<- List.map_reverse]at k;exact k)
 case give pe=>exact Ln (a rfl) pe k
 case bind pe pb=>exact Lp (a rfl) pe pb k
 case less pa pb pc pd=>exact Ll (a rfl) pa pb pc pd k
 case leave c1 c2 st n r fr ts v rs q hn he pa pv =>
  obtain⟨g,j,up,u⟩:=q;cases (show u=none from he);have e1:c1.map Rw.d++Rw.d ⟨g,j,up,none⟩::c2.map Rw.d=c1.map Rw.d++[.tup [.str g,.tup j,up.elim .non λn=>.int n,.bl false,.non]]++c2.map Rw.d:=by rw[zaS];rfl
  rw[e1];exact O9 (m:=n) (by rw[zLm];exact hn) trivial pa (by cases up <;> trivial) pv (by rw[zaS];exact k)
end
section
variable{fns:List (Str×D)}{most:Int}{P:MS->Prop}{cl st ts rs:List D}{fs:List (Int×List (Str×D))}{n:Int}{rows:List (Str×D)}{a b e v:D}
def Fu{k:Str}{x y:Int}(g:k = "add"\/k = "sub")(s:Sm1 cl st ts rs)(l:b6 most P cl st)(h:¬ most<=st.length->Fin C R fns most P (stt cl (st++[stp n "sum"]) (fs++[(n,rows)]) ts (rs++[.int (if k = "add" then x+y else x-y)]))) :
  Fin C R fns most P (stt cl st (fs++[(n,rows)]) (ts++[apD (.tup [.str k,a,b])]) (rs++[.int x]++[.int y])):=by
 have r:=s.1;have j:rs++[D.int x]++[D.int y]=rs++[.int x,.int y]:=by simp
 have e:(rs++[D.int x]++[D.int y]).length<=10000:=by simp;lia
 by_cases q:most<=st.length
 ·refine ya (s1:={calls:=cl,steps:=st,frames:=fs++[(n,rows)],tasks:=ts,ready:=rs++[.int x]++[.int y],cut:=true}) rfl ⟨ts,.inr (.inr (.inl ⟨_,rfl,λM d=>⟨fns,most,_,rs,rfl,e,s.2,.inr (.inr (.inr ⟨k,a,b,x,y,fs,n,rows,rfl,g,rfl,by show st.length<=10000;lia,j,?_⟩))⟩⟩))⟩ (xr (.inr rfl) (l q _ rfl rfl rfl))
  rw[wt q];exact d
 refine ya rfl ⟨ts,.inr (.inr (.inl ⟨_,rfl,λM d=>⟨fns,most,_,rs,rfl,e,s.2,.inr (.inr (.inr ⟨k,a,b,x,y,fs,n,rows,rfl,g,rfl,by show st.length<=10000;lia,j,?_⟩))⟩⟩))⟩ (h q)
 rw[wr q];exact d
def Oa{z:Str}(s:Sm1 cl st ts rs)(g:zi e)(j:zi b)(d:zi v)(r:rows.length<=900)(k:(rows.map Prod.fst++[z]).Nodup)(u:b6 most P cl st)(h:¬ most<=st.length->Fin C R fns most P (stt cl (st++[stp n "let"]) (fs++[(n,rows++[(z,v)])]) (ts++[bdD b]) rs)) :
  Fin C R fns most P (stt cl st (fs++[(n,rows)]) (ts++[brD (.tup [.str "let",.str z,e,b])]) (rs++[v])):=by
 have x:=s.1;have l:(rs++[v]).length<=10000:=by simp;lia
 by_cases q:most<=st.length
 ·refine ya (s1:={calls:=cl,steps:=st,frames:=fs++[(n,rows)],tasks:=ts,ready:=rs++[v],cut:=true}) rfl ⟨ts,.inr (.inr (.inr (.inl ⟨_,rfl,λM a=>⟨fns,most,_,fs,n,rows,z,e,b,rs,v,rfl,rfl,rfl,rfl,by show st.length<=10000;lia,l,by show ts.length<=10000;lia,g,j,d,s.2,r,k,?_⟩⟩)))⟩ (xr (.inr rfl) (u q _ rfl rfl rfl))
  rw[wt q];exact a
 refine ya rfl ⟨ts,.inr (.inr (.inr (.inl ⟨_,rfl,λM a=>⟨fns,most,_,fs,n,rows,z,e,b,rs,v,rfl,rfl,rfl,rfl,by show st.length<=10000;lia,l,by show ts.length<=10000;lia,g,j,d,s.2,r,k,?_⟩⟩)))⟩ (h q)
 rw[wr q];exact a
end
theorem P4:∀{n:Nat}{d:D},okD n d->okD (n+1) d
 |0,d,h=>by
  cases d with
  |non=>trivial
  |bl=>trivial
  |int=>trivial
  |str=>trivial
  |_=>exact h.elim
 |n+1,d,h=>by
  cases d with
  |non=>trivial
  |bl=>trivial
  |int=>trivial
  |str=>trivial
  |tup S=>exact λx a=>P4 (h x a)
  |lst S=>exact λx a=>P4 (h x a)
  |_=>exact h.elim
def ku{n m:Nat}{d:D}(hl:n<=m)(h:okD n d):okD m d:=by
 induction hl with
 |refl=>exact h
 |step _ ih=>exact P4 ih
theorem Tr.dep:∀(t:Tr),okD (t.nodes+1) t.d
 |.lf=>trivial
 |.nd l _ r=>λx a=>by
  have h1:=l.dep;have h2:=r.dep;simp only[zam,zaW,zdN]at a;rcases a with rfl|rfl|rfl
  ·exact ku (by show l.nodes+1<=1+l.nodes+r.nodes;lia) h1
  ·rw[ye];trivial
  exact ku (by show r.nodes+1<=1+l.nodes+r.nodes;lia) h2
def Fh(l:List Int):∀d∈l.map D.int,okD 149 d:=λd a=>by
 obtain⟨i,_,rfl⟩:=zah.mp a;rw[ye];trivial
def z0e(fr:List (Nat×List (Str×D))):((fr.head?.map Prod.fst).elim .non λn=>D.int n)=upD (fr.reverse.map λp=>((p.1:Int),p.2)):=by
 cases fr with
 |nil=>rfl
 |cons p l =>
  unfold upD;rw[zdA,zMa,zaB,zbO,List.getLast?_append];rfl
section
variable{fns:List (Str×D)}{most:Int}{P:MS->Prop}
def U4{s s':Sx}{k:Str}(hl:∀ l:List Int,R "list" (.tup (l.map D.int)) l.length)(O:∀ t:Tr,t.nodes<=201->R "tree" t.d t.nodes)(V:∀ f d,rowG fns f=some d->zi d)(b:Sz s)(h:Nx fns s (some k) s')(B:b6 most P (s.cl.map Rw.d) (s.st.map λp=>stp p.1 p.2))(g:¬ most<=s.st.length->Fin C R fns most P s'.ms):Fin C R fns most P s.ms:=by
 have Y:=b.ln;have G:=b.pr;cases h <;> (unfold Sx.ms at g ⊢;unfold ad at g;simp only[zdA,List.reverse_append,zcO,zMa,zaB,zbO]at g ⊢;simp only[zLc,zLa,zaH]at Y)
 case sum hk =>
  exact Fu hk ⟨by simp only[zLm,zaH];lia,yw G.2.2⟩ B λq=>g (by rwa [zLm]at q)
 case cons l c =>
  exact T6 (sz:=((_::l:List Int).length:Nat)) ⟨by simp only[zLm,zaH];lia,yw G.2.2⟩ trivial (ra l) (by rw[zLm];lia) (hl (_::l)) B (λz=>absurd z (by rw[zLc];lia)) λq _=>g (by rwa [zLm]at q)
 case node n r fr ts rs a b1 c1 x t u c =>
  have e:((Tr.nd t x u).nodes:Int)=((1+t.nodes+u.nodes:Nat):Int):=rfl;exact Lk (sz:=((Tr.nd t x u).nodes:Nat)) ⟨by simp only[zLm,zaH];lia,yw G.2.2.2⟩ ⟨t.pure,zaA,u.pure,zaA⟩ (O (.nd t x u) (by show 1+t.nodes+u.nodes<=201;lia)) (by rw[e];lia) B λq=>g (by rwa [zLm]at q)
 case bring n r fr ts v rs z e b2 nd pe j pv br =>
  exact Oa ⟨by simp only[zLm,zaH];lia,yw G.2⟩ pe j pv aD nd B λq=>g (by rwa [zLm]at q)
 case choose pc pd =>
  exact Ss ⟨by simp only[zLm,zaH];lia,yw G.2.2⟩ pc pd B λq=>g (by rwa [zLm]at q)
 case openN n r fr ts rs x y t b1 c1 hv nd j pc br =>
  exact T5 ⟨by simp only[zLm,zaH];lia,yw G⟩ hv trivial (λ_ z=>(nomatch z)) j pc aD nd B (λq _=>g (by rwa [zLm]at q)) (λ_ _ _ z=>nomatch z)
 case openC n r fr ts rs x y t b1 c1 i l hv nd j pc br =>
  refine T5 ⟨by simp only[zLm,zaH];lia,yw G⟩ hv ⟨zaA,ra l⟩ (Fh (i::l)) j pc aD nd B (λ_ z=>nomatch z) (λq v w e=>?_)
  obtain⟨rfl,rfl⟩:=List.cons.inj e;exact g (by rwa [zLm]at q)
 case openL n r fr ts rs x l v w b1 c1 hv j pc br =>
  exact O7 ⟨by simp only[zLm,zaH];lia,yw G⟩ hv j pc aD B λq=>g (by rwa [zLm]at q)
 case openT n r fr ts rs x l v w b1 c1 i t u hv hn nd j pc br =>
  exact O6 ⟨by simp only[zLm,zaH];lia,yw G⟩ hv ⟨t.pure,zaA,u.pure,zaA⟩ (ku aD (Tr.nd t i u).dep) j pc aD nd B λq=>g (by rwa [zLm]at q)
 case enter fr ts rs f J us n0 sz b1 ps e le ne l10 pu lp nd h20 =>
  obtain⟨N,L,I,j,_⟩:=V _ _ e;have es:zu rs:=(Z7.mp G).2;refine W2 ⟨by simp only[zLm,zaH];lia,yw es⟩ e le ne l10 pu N (y8.mpr λd W=>?_) I j lp nd (λz=>?_) B λq _=>?_
  ·obtain⟨p,Q,rfl⟩:=zah.mp W;exact(y8.mp L _ (zah.mpr ⟨p,Q,rfl⟩)).2.1
  ·rw[zLm,zaH]at z;lia
  have:=g (by rwa [zLm]at q)
  rw[zLm,<- z0e];exact this
end
section
variable{fns:List (Str×D)}{most:Int}{P:MS->Prop}
def O8{cl st ts rs:List D}{fs:List (Int×List (Str×D))}{n:Int}{rows:List (Str×D)}{e1 e2 j e d a:D}{sz:Int}(b:Sm1 cl st ts rs)(pl:zu [e,d,a])(l:R "tree" (.tup [e,d,a]) sz)(z:100<sz)(k:∀ s1:MS,s1.cut=true->s1.calls=cl->s1.steps=st->P s1) :
  Fin C R fns most P (stt cl st (fs++[(n,rows)]) (ts++[apD (.tup [.str "node",e1,e2,j])]) (rs++[e]++[d]++[a])):=by
 have r:=b.1;have q:rs++[e]++[d]++[a]=rs++[e,d,a]:=by simp
 refine ya (s1:={calls:=cl,steps:=st,frames:=fs++[(n,rows)],tasks:=ts,ready:=rs,cut:=true}) rfl ⟨ts,.inr (.inr (.inl ⟨_,rfl,λM g=>⟨fns,most,_,rs,rfl,by show(rs++[e]++[d]++[a]).length<=10000;simp;lia,b.2,.inr (.inr (.inl ⟨e1,e2,j,e,d,a,rfl,q,pl.1,pl.2.1,pl.2.2.1,fns,most,_,fs,n,rows,"tree",.tup [e,d,a],sz,rfl,rfl,rfl,by show st.length<=10000;lia,by show rs.length<=10000;lia,pl,l,?_⟩))⟩⟩))⟩ (xr (.inr rfl) (k _ rfl rfl rfl))
 rw[zaK z];exact g
def Hq{s:Sx}(hl:∀ l:List Int,R "list" (.tup (l.map D.int)) l.length)(I:∀ t:Tr,t.nodes<=201->R "tree" t.d t.nodes)(b:Sz s)(h:Cx1 fns s)(k:∀ s1:MS,s1.cut=true->s1.calls=s.cl.map Rw.d->s1.steps=s.st.map (λp=>stp p.1 p.2)->P s1):Fin C R fns most P s.ms:=by
 have N:=b.ln;have g:=b.pr;have j:b6 most P (s.cl.map Rw.d) (s.st.map λp=>stp p.1 p.2):=λ_=>k;cases h <;> (unfold Sx.ms;simp only[zdA,List.reverse_append,zcO,zMa,zaB,zbO];simp only[zLc,zLa,zaH]at N)
 case cons l c =>
  exact T6 (sz:=((_::l:List Int).length:Nat)) ⟨by simp only[zLm,zaH];lia,yw g.2.2⟩ trivial (ra l) (by rw[zLm];lia) (hl (_::l)) j (λ_=>k) λ_ z=>absurd (show(100:Int)<((_::l:List Int).length:Nat) by rw[zLc];lia) z
 case node n r fr ts rs a b1 c1 x t u h1 h2 c =>
  have e:((Tr.nd t x u).nodes:Int)=((1+t.nodes+u.nodes:Nat):Int):=rfl;exact O8 (sz:=((Tr.nd t x u).nodes:Nat)) ⟨by simp only[zLm,zaH];lia,yw g.2.2.2⟩ ⟨t.pure,zaA,u.pure,zaA⟩ (I (.nd t x u) (by show 1+t.nodes+u.nodes<=201;lia)) (by rw[e];lia) k
 case enter fr ts rs f J us n0 sz b1 ps e le ne l10 pu lp nd pf h20 =>
  obtain⟨G,y,q,B,_⟩:=pf;have v:zu rs:=(Z7.mp g).2;refine W2 ⟨by simp only[zLm,zaH];lia,yw v⟩ e le ne l10 pu G (y8.mpr λd L=>?_) q B lp nd (λ_=>k) j λ_ z=>absurd (show 20<=(fr.reverse.map λp=>((p.1:Int),p.2)).length by rw[zLm,zaH];exact h20) z
  obtain⟨p,es,rfl⟩:=zah.mp L;exact(y8.mp y _ (zah.mpr ⟨p,es,rfl⟩)).2.1
end
inductive Rn(fns:List (Str×D))(fs:Sig)(m:Nat):Sx->Sx->Bool->Prop
 |done {s:Sx} (o:Ok fs s) (h:s.ts=[]):Rn fns fs m s s false
 |cutB {s:Sx} (o:Ok fs s) (h:Cx1 fns s):Rn fns fs m s s true
 |cutM {s s':Sx} {k:Str} (o:Ok fs s) (h:Nx fns s (some k) s') (l:m<=s.st.length):Rn fns fs m s s true
 |adm {s s' t:Sx} {b:Bool} (o:Ok fs s) (h:Nx fns s none s') (r:Rn fns fs m s' t b):Rn fns fs m s t b
 |stp {s s' t:Sx} {k:Str} {b:Bool} (o:Ok fs s) (h:Nx fns s (some k) s') (l:s.st.length<m) (r:Rn fns fs m s' t b):Rn fns fs m s t b
def Nx.len{fns:List (Str×D)}{s s':Sx}{l:Option Str}(h:Nx fns s l s'):s'.st.length=s.st.length+(if l.isSome then 1 else 0):=by
 cases h <;> first|rfl|(show(ad _ _ _).length=_;unfold ad;rw[zLa];rfl)
def wtT(d:D):Nat:=match d with
 |.tup [.str k,x]=>if k = "value" then 2*sizeOf x else if k = "body" then 2*sizeOf x+1 else 1
 |_=>1
def wtS:List D->Nat
 |[]=>0
 |t::ts=>wtT t+wtS ts
def fj(e:D):wtT (vlD e)=2*sizeOf e:=rfl
def Jy(e:D):wtT (bdD e)=2*sizeOf e+1:=by
 unfold bdD wtT
 dsimp only
 rw[zaJ aB,zaK rfl]
def Ef(e:D):wtT (apD e)=1:=by
 unfold apD wtT
 dsimp only
 rw[zaJ aB,zaJ aB]
def z0d(e:D):wtT (brD e)=1:=by
 unfold brD wtT
 dsimp only
 rw[zaJ aB,zaJ aB]
def z0c(e:D):wtT (chD e)=1:=by
 unfold chD wtT
 dsimp only
 rw[zaJ aB,zaJ aB]
def Rf(J:List D)(ts:List D):wtS (J.map vlD++ts)+2<=2*sizeOf J+wtS ts:=by
 induction J with
 |nil=>show wtS ts+2<=2*1+_;lia
 |cons e J ih =>
  show wtT (vlD e)+wtS (J.map vlD++ts)+2<=2*(1+sizeOf e+sizeOf J)+_;rw[fj];lia
def Nx.down{fns:List (Str×D)}{s s':Sx}(h:Nx fns s none s'):wtS s'.ts<wtS s.ts:=by
 cases h
 case num=>show _<wtT _+_;rw[fj];simp;lia
 case var=>show _<wtT _+_;rw[fj];simp;lia
 case nil=>show _<wtT _+_;rw[fj];simp;lia
 case leaf=>show _<wtT _+_;rw[fj];simp;lia
 case op ts rs k J _ _ _ =>
  have:=Rf J (apD (.tup (.str k::J))::ts);show wtS (J.map vlD++apD (.tup (.str k::J))::ts)<wtT _+wtS ts;have e:wtS (apD (.tup (.str k::J))::ts)=1+wtS ts:=by show wtT _+_=_;rw[Ef]
  rw[fj];simp;lia
 case call ts rs f J _ _ =>
  have:=Rf J (apD (.tup [.str "call",.str f,.tup J])::ts);show wtS (J.map vlD++apD (.tup [.str "call",.str f,.tup J])::ts)<wtT _+wtS ts;have e:wtS (apD (.tup [.str "call",.str f,.tup J])::ts)=1+wtS ts:=by show wtT _+_=_;rw[Ef]
  rw[fj];simp;lia
 case give=>show wtT _+_<wtT _+_;rw[fj,Jy];simp;lia
 case bind=>show wtT _+(wtT _+_)<wtT _+_;rw[fj,Jy,z0d];simp;lia
 case less=>show wtT _+(wtT _+(wtT _+_))<wtT _+_;rw[fj,fj,Jy,z0c];simp;lia
 case leave c1 c2 st n r fr ts v rs q _ _ _ _=>show wtS ts<1+wtS ts;lia
theorem Q7{fns:List (Str×D)}{fs:Sig}(a:Rc fns fs)(m:Nat):∀(s:Sx),Ok fs s->∃t c,Rn fns fs m s t c
 |s,o=>by
  by_cases hn:s.ts=[]
  ·exact⟨s,false,.done o hn⟩
  rcases Uj a o hn with h|⟨l,s',h,o'⟩
  ·exact⟨s,true,.cutB o h⟩
  cases l with
  |none =>
   have:=h.down;have hl:=h.len;obtain⟨t,c,r⟩:=Q7 a m s' o';exact⟨t,c,.adm o h r⟩
  |some k =>
   by_cases q:m<=s.st.length
   ·exact⟨s,true,.cutM o h q⟩
   have hl:=h.len;obtain⟨t,c,r⟩:=Q7 a m s' o';exact⟨t,c,.stp o h aD r⟩
termination_by s=>(m-s.st.length,wtS s.ts)
decreasing_by
 ·rw[hl];exact Prod.Lex.right _ this
 have e:s'.st.length=s.st.length+1:=hl;exact Prod.Lex.left _ _ aD
theorem FrT.len:∀{gs:List Env}{l:List (Nat×List (Str×D))},FrT gs l->l.length=gs.length
 |[],_,h=>by cases (show _=[] from h);rfl
 |_::_,_,⟨_,_,_,rfl,_,h⟩=>by rw[zLc,zLc,h.len]
def Ml{fns:List (Str×D)}{fs:Sig}(l:Rc fns fs){s:Sx}(o:Ok fs s)(h:s.st.length<=1000):Sz s:=by
 obtain⟨gs,g,k,j,kt,q,fr,rs⟩:=o.ex;have a:=kt.len λf g s h=>(l f g s h).elim λ_ h=>h.elim λ_ h=>h.elim λ_ h=>h.elim λ_ h=>h.2.2.2.1;have b:=fr.len;have c:=rs.len;have d:=o.f20;have e:=o.cs;exact⟨by lia,rs.pure⟩
section
variable{fns:List (Str×D)}{P:MS->Prop}
def Dl{fs:Sig}{m:Nat}(hl:∀ l:List Int,R "list" (.tup (l.map D.int)) l.length)(j:∀ t:Tr,t.nodes<=201->R "tree" t.d t.nodes)(g:Rc fns fs)(q:∀ f d,rowG fns f=some d->zi d)(v:m<=1000){s t:Sx}{b:Bool}(r:Rn fns fs m s t b)(u:s.st.length<=m)(k:b=false->P t.ms)(a:b=true->∀ s1:MS,s1.cut=true->s1.calls=t.cl.map Rw.d->s1.steps=t.st.map (λp=>stp p.1 p.2)->P s1):Fin C R fns (m:Int) P s.ms:=by
 induction r with
 |done o h =>
  refine xr (.inl ?_) (k rfl);unfold Sx.ms;rw[h];rfl
 |cutB o h=>exact Hq hl j (Ml g o aD) h (a rfl)
 |cutM o h l=>exact U4 hl j q (Ml g o aD) h (λ_=>a rfl) λz=>absurd aD z
 |adm o h r ih=>exact Hr (Ml g o aD) h (ih (by have:=h.len;rw[this];exact u) k a)
 |stp o h l r ih =>
  have e:=h.len;refine U4 hl j q (Ml g o aD) h (λz=>absurd z ?_) λ_=>ih (by rw[e];exact l) k a
  rw[zLm];lia
end
def UpC(cl:List Rw):List Nat->Prop
 |[]=>True
 |n::l=>(∃q:Rw,cl[n]?=some q/\q.up=l.head?)/\UpC cl l
theorem UpC.mono{a b:List Rw}(h:∀ (n:Nat) (q:Rw),a[n]?=some q->∃ q':Rw,b[n]?=some q'/\q'.up=q.up):∀{l:List Nat},UpC a l->UpC b l
 |[],_=>trivial
 |n::l,⟨⟨q,e,u⟩,t⟩=>let ⟨q',e',u'⟩:=h n q e;⟨⟨q',e',u'.trans u⟩,t.mono h⟩
noncomputable def Xz(p:Nat×Str):Bool:=p.2==("call" : Str)
structure In2(s:Sx):Prop where
 up:UpC s.cl (s.fr.map Prod.fst)
 cv:∀i q,s.cl[i]?=some q->i∉s.fr.map Prod.fst->q.en.isSome=true
 ct:s.cl.length=(s.st.filter Xz).length
def Y1{a d:List Rw}{q:Rw}{v:D}{i:Nat}{x:Rw}(h:(a++q::d)[i]?=some x):(a++{q with en:=some v}::d)[i]?=some (if i=a.length then {q with en:=some v} else x)/\(i=a.length->x=q):=by
 rcases Nat.lt_trichotomy i a.length with z|z|z
 ·rw[zaG z]at h ⊢;rw[zaJ aD]
  exact⟨h,λe=>by lia⟩
 ·subst z;rw[zaC (zaj _),zbX]at h ⊢;rw[zaK rfl];exact⟨rfl,λ_=>(zaM h).symm⟩
 rw[zaC aD]at h ⊢
 obtain⟨j,g⟩:∃j,i-a.length=j+1:=⟨i-a.length-1,by lia⟩
 rw[g]at h ⊢;rw[zaJ aD]
 exact⟨h,λe=>by lia⟩
def z2e{st:List (Nat×Str)}{n:Nat}{k:Str}(h:k≠"call"):((ad st n k).filter Xz).length=(st.filter Xz).length:=by
 unfold ad;rw[List.filter_append];have:Xz (n,k)=false:=by
  unfold Xz;rw[zbA];exact h
 simp[this]
def Nx.in2{fns:List (Str×D)}{s s':Sx}{l:Option Str}(h:Nx fns s l s')(y:(s.fr.map Prod.fst).Nodup)(u:∀ n∈s.fr.map Prod.fst,∃ q:Rw,s.cl[n]?=some q/\q.en=none)(i:In2 s):In2 s':=by
 obtain⟨up,k,d⟩:=i;cases h
 case leave c1 c2 st n r fr ts v rs q hn he pa pv =>
  dsimp only at *
  refine⟨?_,λi x e m=>?_,?_⟩
  ·refine UpC.mono (λn q e=>?_) up.2;have:=(Y1 (v:=v) e);refine⟨_,this.1,?_⟩;split
   ·rename_i z;rw[this.2 z]
   rfl
  ·dsimp only at e m
   by_cases z:i=c1.length
   ·subst z;have:(c1++{q with en:=some v}::c2)[c1.length]?=some {q with en:=some v}:=by
     rw[zaC (zaj _),zbX];rfl
    rw[this]at e;cases e;rfl
   have j:i<(c1++q::c2).length:=by
    have:=(zag.mp e).1;rw[zLa,zLc]at this ⊢;exact this
   have g:=Y1 (v:=v) (zaf j);rw[zaJ z]at g;rw[g.1]at e;cases e;refine k i _ (zaf j) λa=>?_;rcases zam.mp a with rfl|a
   ·exact z hn.symm
   exact m a
  rw[zLa,zLc]at d ⊢;exact d
 case enter cl st fr ts rs f J us n0 sz b ps _ _ _ _ _ _ _ _ =>
  dsimp only at *
  refine⟨⟨⟨⟨f,us,fr.head?.map Prod.fst,none⟩,?_,?_⟩,UpC.mono (λn q e=>⟨q,?_,rfl⟩) up⟩,λi x e m=>?_,?_⟩
  ·rw[zaC (zaj _),zbX];rfl
  ·show fr.head?.map Prod.fst=(fr.map Prod.fst).head?;rw[List.head?_map]
  ·rw[zaG (zag.mp e).1];exact e
  ·dsimp only at e m
   have j:=(zag.mp e).1;rw[zLa,zdD]at j;have B:i≠cl.length:=λz=>m (by rw[z];exact zao)
   rw[zaG aD]at e
   exact k i x e λa=>m (zal _ a)
  unfold ad;rw[zLa,List.filter_append,zLa,d];rfl
 all_goals first
  |exact⟨up,k,d⟩
  |exact⟨up,k,by rw[z2e aB];exact d⟩
inductive Ch(cl:List Rw):Nat->Nat->Prop
 |refl {n:Nat}:Ch cl n n
 |up {n p i:Nat} {q:Rw} (e:cl[n]?=some q) (u:q.up=some p) (h:Ch cl p i):Ch cl n i
def z2f{cl:List Rw}{n i:Nat}(h:Ch cl n i):∀{l:List Nat},UpC cl (n::l)->i∈n::l:=by
 induction h with
 |refl=>exact λ_=>zao
 |up e u h ih =>
  intro l ⟨⟨q,d,a⟩,t⟩;rw[e]at d;cases d;rw[u]at a;cases l with
  |nil=>cases a
  |cons m l =>
   cases (zaM a)
   exact zal _ (ih t)
noncomputable abbrev acts(s:Sx):List Nat:=s.fr.map Prod.fst
def Nx.lab{fns:List (Str×D)}{s s':Sx}{k:Str}(h:Nx fns s (some k) s'):∃n l,acts s'=n::l/\s'.st=s.st++[(n,k)]:=by
 cases h <;> exact⟨_,_,rfl,rfl⟩
def Nx.adm{fns:List (Str×D)}{s s':Sx}(h:Nx fns s none s'):s'.st=s.st:=by
 cases h <;> rfl
def Nx.act{fns:List (Str×D)}{s s':Sx}{l:Option Str}{i:Nat}(h:Nx fns s l s')(m:i∉acts s)(hl:i<s.cl.length):i∉acts s':=by
 cases h
 case leave=>exact λz=>m (zal _ z)
 case enter =>
  intro z;rcases zam.mp z with rfl|z
  ·exact zbT _ hl
  exact m z
 all_goals exact m
def Nx.same{fns:List (Str×D)}{s s':Sx}{l:Option Str}{i:Nat}{q:Rw}(h:Nx fns s l s')(e:s.cl[i]?=some q):∃q':Rw,s'.cl[i]?=some q'/\q'.nm=q.nm/\q'.as=q.as/\q'.up=q.up:=by
 cases h
 case leave c1 c2 st n r fr ts v rs x _ _ _ _ =>
  have g:=Y1 (v:=v) e;refine⟨_,g.1,?_⟩;split
  ·rename_i z;rw[g.2 z];exact⟨rfl,rfl,rfl⟩
  exact⟨rfl,rfl,rfl⟩
 case enter=>exact⟨q,by show(_++_)[i]?=_;rw[zaG (zag.mp e).1];exact e,rfl,rfl,rfl⟩
 all_goals exact⟨q,e,rfl,rfl,rfl⟩
def Nx.keep{fns:List (Str×D)}{s s':Sx}{l:Option Str}{i:Nat}{q:Rw}(h:Nx fns s l s')(e:s.cl[i]?=some q)(m:i∉acts s):s'.cl[i]?=some q:=by
 cases h
 case leave c1 c2 st n r fr ts v rs x hn _ _ _ =>
  have g:=Y1 (v:=v) e;rw[zaJ (λz=>m (by rw[z,hn];exact zao))]at g
  exact g.1
 case enter=>exact(by show(_++_)[i]?=_;rw[zaG (zag.mp e).1];exact e)
 all_goals exact e
structure z0a(s t:Sx)(more:List (Nat×Str)):Prop where
 st:t.st=s.st++more
 same:∀(i:Nat)(q:Rw),s.cl[i]?=some q->∃q':Rw,t.cl[i]?=some q'/\q'.nm=q.nm/\q'.as=q.as/\q'.up=q.up
 gone:∀(i:Nat)(q:Rw),s.cl[i]?=some q->i∉acts s->t.cl[i]?=some q/\∀p∈more,¬ Ch t.cl p.1 i
def Rn.later{fns:List (Str×D)}{fs:Sig}{m:Nat}{s t:Sx}{b:Bool}(r:Rn fns fs m s t b)(h:In2 s):∃more,z0a s t more/\In2 t:=by
 induction r with
 |done o e=>exact⟨[],⟨(zaX _).symm,λi q e=>⟨q,e,rfl,rfl,rfl⟩,λi q e _=>⟨e,λ_ z=>(nomatch z)⟩⟩,h⟩
 |cutB o e=>exact⟨[],⟨(zaX _).symm,λi q e=>⟨q,e,rfl,rfl,rfl⟩,λi q e _=>⟨e,λ_ z=>(nomatch z)⟩⟩,h⟩
 |cutM o e l=>exact⟨[],⟨(zaX _).symm,λi q e=>⟨q,e,rfl,rfl,rfl⟩,λi q e _=>⟨e,λ_ z=>(nomatch z)⟩⟩,h⟩
 |adm o n r ih =>
  obtain⟨more,L,g⟩:=ih (n.in2 o.nd o.op h);refine⟨more,⟨by rw[L.st,n.adm],λi q e=>?_,λi q e m=>L.gone i q (n.keep e m) (n.act m (zag.mp e).1)⟩,g⟩
  obtain⟨d,y,a,b,c⟩:=n.same e;obtain⟨k,e2,a2,b2,B⟩:=L.same i d y;exact⟨k,e2,a2.trans a,b2.trans b,B.trans c⟩
 |stp o n l r ih =>
  have h':=n.in2 o.nd o.op h;obtain⟨more,L,g⟩:=ih h';obtain⟨x,es,I,J⟩:=n.lab;refine⟨(x,_)::more,⟨by rw[L.st,J,zaS];rfl,λi q e=>?_,λi q e m=>?_⟩,g⟩
  ·obtain⟨d,y,a,b,c⟩:=n.same e;obtain⟨k,e2,a2,b2,B⟩:=L.same i d y;exact⟨k,e2,a2.trans a,b2.trans b,B.trans c⟩
  have G:=n.act m (zag.mp e).1;obtain⟨O,N⟩:=L.gone i q (n.keep e m) G;refine⟨O,λp v=>?_⟩;rcases zam.mp v with rfl|v
  ·intro c;have u:=h'.up;rw[show List.map Prod.fst _=x::es from I]at u;have u:=UpC.mono (λj q e=>(L.same j q e).elim λd z=>⟨d,z.1,z.2.2.2⟩) u;exact G (by rw[I];exact z2f c u)
  exact N p v
def Rn.ok{fns:List (Str×D)}{fs:Sig}{m:Nat}{s t:Sx}{b:Bool}(r:Rn fns fs m s t b):Ok fs s:=by
 cases r <;> assumption
def Rn.end_ok{fns:List (Str×D)}{fs:Sig}{m:Nat}{s t:Sx}{b:Bool}(r:Rn fns fs m s t b):Ok fs t/\(b=false->t.ts=[]):=by
 induction r with
 |done o h=>exact⟨o,λ_=>h⟩
 |cutB o h=>exact⟨o,λz=>(nomatch z)⟩
 |cutM o h l=>exact⟨o,λz=>(nomatch z)⟩
 |adm o h r ih=>exact ih
 |stp o h l r ih=>exact ih
def Rn.few{fns:List (Str×D)}{fs:Sig}{m:Nat}{s t:Sx}{b:Bool}(r:Rn fns fs m s t b)(a:s.st.length<=m):t.st.length<=m:=by
 induction r with
 |done o h=>exact a
 |cutB o h=>exact a
 |cutM o h l=>exact a
 |adm o h r ih=>exact ih (by rw[h.adm];exact a)
 |stp o h l r ih=>exact ih (by rw[h.len];exact l)
def Nx.new{fns:List (Str×D)}{s s':Sx}{l:Option Str}{i:Nat}{q:Rw}(h:Nx fns s l s')(e:s'.cl[i]?=some q)(hl:s.cl.length<=i):i=s.cl.length/\q.up=(acts s).head?/\s.ts≠[]:=by
 have a:=(zag.mp e).1;cases h
 case leave =>
  dsimp only at a hl
  rw[zLa,zLc]at a hl;omega
 case enter cl st fr ts rs f J us n0 sz b ps _ _ _ _ _ _ _ _ =>
  dsimp only at a hl e
  rw[zLa,zdD]at a;have:i=cl.length:=by omega
  subst this;rw[zaC (zaj _),zbX]at e;cases e;exact⟨rfl,(List.head?_map ..).symm,λz=>(nomatch z)⟩
 all_goals (dsimp only at a hl;omega)
def Kt.fr{fs:Sig}{gs:List Env}{ts:List D}{rs:List Str}{k j:Nat}(h:Kt fs gs ts rs k j):ts=[]\/∃g gs',gs=g::gs':=by
 cases h <;> first|exact .inl rfl|exact .inr ⟨_,_,rfl⟩
structure In3(s:Sx):Prop where
 up:∀(i:Nat)(q:Rw),s.cl[i]?=some q->(i=0/\q.up=none)\/∃p,p<i/\q.up=some p
 sl:∀p∈s.st,p.1<s.cl.length
 ne:s.cl≠[]
def Nx.in3{fns:List (Str×D)}{fs:Sig}{s s':Sx}{l:Option Str}(h:Nx fns s l s')(o:Ok fs s)(o':Ok fs s')(i:In3 s):In3 s':=by
 have d:s.cl.length<=s'.cl.length:=Nat.not_lt.mp λz=>by
  obtain⟨q,e,_⟩:=h.same (zaf z);exact zbT _ (zag.mp e).1
 have pos:0<s.cl.length:=List.length_pos_iff.mpr i.ne;refine⟨λj x e=>?_,λp a=>?_,λz=>by rw[z]at d;exact absurd (zaR pos d) (zbT _)⟩
 ·rcases zcQ j s.cl.length with z|z
  ·obtain⟨N,G,_,_,u⟩:=h.same (zaf z);rw[e]at G;cases G;rw[u];exact i.up j _ (zaf z)
  obtain⟨rfl,u,I⟩:=h.new e z;obtain⟨gs,L,k,j,kt,_,fr,_⟩:=o.ex;rcases kt.fr with y|⟨g,gs',rfl⟩
  ·exact absurd y I
  obtain⟨n,r,q,es,_⟩:=fr;have v:acts s=n::q.map Prod.fst:=by unfold acts;rw[es];rfl
  obtain⟨y,B,_⟩:=o.op n (by show n∈acts s;rw[v];exact zao)
  exact .inr ⟨n,(zag.mp B).1,by rw[u,v];rfl⟩
 cases l with
 |none =>
  rw[h.adm]at a;exact zaR (i.sl p a) d
 |some k =>
  obtain⟨n,l,v,J⟩:=h.lab;rw[J]at a;rcases zas.mp a with a|a
  ·exact zaR (i.sl p a) d
  rw[zaE.mp a];obtain⟨y,B,_⟩:=o'.op n (by show n∈acts s';rw[v];exact zao)
  exact(zag.mp B).1
theorem Rn.in3{fns:List (Str×D)}{fs:Sig}{m:Nat}{s t:Sx}{b:Bool}(r:Rn fns fs m s t b)(i:In3 s):In3 t:=by
 induction r with
 |done o h=>exact i
 |cutB o h=>exact i
 |cutM o h l=>exact i
 |adm o h r ih=>exact ih (h.in3 o r.ok i)
 |stp o h l r ih=>exact ih (h.in3 o r.ok i)
variable{Fz:D->D->Prop}
def RT:Str->D->Int->Prop:=λsh d n=>(sh = "list"/\∃l:List Int,d=.tup (l.map D.int)/\n=l.length)\/(sh = "tree"/\∃t:Tr,d=t.d/\n=t.nodes/\t.nodes<=201)
def G1{fns:List (Str×D)}{a:Str}{i:Nat}{d:D}(h:∀ p∈fns.take i,p.1≠a)(e:fns[i]?=some (a,d)):rowG fns a=some d:=by
 induction fns generalizing i with
 |nil=>simp at e
 |cons p fns ih =>
  cases i with
  |zero =>
   simp only[List.getElem?_cons_zero,Option.some.injEq]at e;subst e;unfold rowG;simp
  |succ i =>
   have:=h p aE
   have:=ih (i:=i) (λq g=>h q (by simp[g])) (by simpa using e)
   unfold rowG
   simp_all
def Nz{fns:List (Str×D)}{nm:Str}{d:D}(e:rowG fns nm=some d):∃p∈fns,p.1=nm:=by
 induction fns with
 |nil=>cases e
 |cons p fns ih =>
  unfold rowG at e;split at e
  ·rename_i q;exact⟨p,by simp,by simp_all⟩
  obtain⟨q,a,e2⟩:=ih e;exact⟨q,by simp[a],e2⟩
def Ez:FT:=λS M=>∃fns:List (Str×D),∃nm fn,S=[.tup (fns.map Prod.snd),.str nm]/\fns.length<=100/\(∀p∈fns,∃r,p.2=.tup (.str p.1::r))/\rowG fns nm=some fn/\zi fn/\M (dv fn)
def Kg(Fz:D->D->Prop):FT:=λS M=>∃s d,S=[s,d]/\Fz s d/\M (dv (.bl true))
def Kh(Fz:D->D->Prop):FT:=λS M=>∃n0 ps sz b as,S=[.tup [n0,pmD ps,sz,b],.lst as]/\ps.length=as.length/\ps.length<=100/\(∀p∈(ps.map Prod.snd).zip as,Fz p.1 p.2)/\M (dv .non)
def FzT:D->D->Prop:=λs d=>(s=.str "num"/\∃i:Int,d=.int i)\/(s=.str "list"/\∃l:List Int,d=.tup (l.map D.int)/\l.length<=1000)\/(s=.str "tree"/\∃t:Tr,d=t.d/\t.nodes<=201)
def Eo:FT:=g1 λd M=>∃t:Tr,d=t.d/\t.nodes<=201/\M (dv (.bl true))
def Hh:FT:=g1 λd M=>∃t:Tr,d=t.d/\t.nodes<=201/\M (dv (.int t.nodes))
noncomputable def szD:D->Nat
 |.tup [l,_,r]=>1+szD l+szD r
 |_=>1
def Zu(d:D):1<=szD d:=by
 unfold szD;split <;> lia
noncomputable def sumZ(S:List D):Nat:=(S.map szD).sum
def u7(S J:List D):sumZ (S++J)=sumZ S+sumZ J:=by
 unfold sumZ;simp
theorem f6:∀(S:List D),S.length<=sumZ S
 |[]=>zcB _
 |d::S=>by
  have:=f6 S;have:=Zu d;unfold sumZ at *;simp;lia
theorem Tr.sz:∀t:Tr,szD t.d=2*t.nodes+1
 |.lf=>by simp[Tr.d,Tr.nodes,szD]
 |.nd l v r=>by
  have h1:=l.sz;have h2:=r.sz;simp only[Tr.d,Tr.nodes,szD,h1,h2];lia
def z0n:FT:=λS M=>∃n,S=[.int n]/\M (dv (.bl true))
def bj(X:AX K mg C):FD P w K mg base 1 "function_of" ["program","name"] Ez:=by
 obtain⟨f,fd,F,m⟩:=X.f "function_of" 6 aB
 have ds:zo ["program","name","function"] ["program","name"] (zd (top 6)):=by walk_at "f"
 walk_at "b";refine⟨_,(ze (uu (xo (z9 0)) (zn (i:=2) ds.nd rfl aG) (ym 2) (zm (xn (xy hu (zf hu (z9 2) zc) (z9 1)) (zm (yb (z9 2))) yr)))
   (zm Y3)),?_⟩
 obtain⟨fns,v,fn,rfl,hl1,B,u,y,h⟩:=hT;show sFor _ _ _ _ _;refine vd (fns.map Prod.snd) ?_ (λi U=>(∃t,U=[q_ (.tup (fns.map Prod.snd)),q_ (.str v),t])/\∀p∈fns.take i,p.1≠v) ⟨⟨none,rfl⟩,by simp⟩ ?_ ?_
 ·intro G k;exact⟨zaA,k⟩
 ·rintro i d _ j ⟨⟨t,rfl⟩,g⟩;rw[zai]at j;cases ep:fns[i]? with
  |none=>rw[ep]at j;cases j
  |some p =>
   rw[ep]at j;cases j;have l:p∈fns:=zan ep;obtain⟨r,x⟩:=B p l;have tk:fns.take (i+1)=fns.take i++[p]:=by rw[zcU,ep];rfl
   obtain⟨z,d⟩:=p;simp only at x;subst x;walk_at "dl";refine⟨λe=>?_,λe=>⟨⟨_,rfl⟩,?_⟩⟩
   ·subst e;have e2:=G1 g ep;rw[e2]at u;cases u;exact⟨y.2,h⟩
   rw[tk];intro q a;rcases zas.mp a with a|a
   ·exact g q a
   rw[zaE.mp a];exact e
 rintro _ ⟨⟨t,rfl⟩,g⟩;obtain⟨p,l,e⟩:=Nz u;rw[zLm,zdS]at g;exact g p l e
def Ym(X:AX K mg C)(k:FD P w K mg base 3 "fits" ["shape","thing"] (Kg Fz)):FD P w K mg base 4 "check_args" ["function","args"] (Kh Fz):=by
 obtain⟨f,fd,F,m⟩:=X.f "check_args" 16 aB
 have ds:zo ["function","args","shapes"] ["function","args"] (zd (top 16)):=by walk_at "f"
 walk_at "b";refine⟨_,(ze (rn (T:=["param","shape"]) (F:=[]) (js:=[]) 2 ds.nd (xo (zf hu (z9 0) zc)) (show y0 (zd (top 16)) _ _ _ from by walk_at "c") .nil aB (by walk_at "t") (ca (wx xf (k7 xf ur) (yi aB) (wx xf ur (yi aB) cf))) (rg 0 1) (λcl C fp s H=>wg) (λcl C fp s H=>(z9 1)))
   (ze (xn (Yn hu (yo X.T.len (za (z9 1) zb)) (yo X.T.len (za (z9 2) zb))) (zm Y3) yr)
   (zm (vj 2 (xn (xu (x4 (Ol X.T.all (za (sk (T:=["shape","arg"]) (F:=[]) (js:=[]) (Ac X.T.zip (za (z9 2) (za (z9 1) zb))) (show y0 (zd (top 16)) _ _ _ from by walk_at "c") .nil aB (by walk_at "t") (ca (wx xf (k7 xf ur) (yi aB) (wx xf ur (yi aB) cf))) (rg 0 1) (λcl C fp s H=>wg) (λcl C fp s H=>(zy k (hr.e rfl) (za (z9 0) (za (z9 1) zb))))) zb)))) (zm Y3) yr))))),?_⟩
 obtain⟨O,ps,sz,b,r,rfl,hl1,I,v,h⟩:=hT;walk_at "dl";refine xx (ps.map λp=>.tup [.str p.1,p.2]) ?_ (λd=>match d with|.tup [_,a]=>some a|_=>none) (by rw[zLm];lia) ?_ ?_
 ·intro G g;unfold pmD;exact⟨zaA,g⟩
 ·intro d j;obtain⟨y,Q,rfl⟩:=zah.mp j;exact⟨λ_=>⟨zaA,rfl⟩,nofun⟩
 have L:(ps.map λp=>D.tup [.str p.1,p.2]).filterMap (λd=>match d with|.tup [_,a]=>some a|_=>none)=ps.map Prod.snd:=by
  rw[zdV,<- zdK];rfl
 rw[L];have u:r.length=(ps.map Prod.snd).length:=by rw[zLm];exact hl1.symm
 refine⟨zaA,λq=>absurd (zbP Int.ofNat u) q,λ_=>?_⟩;refine xx (zipD (ps.map Prod.snd) r) ?_ (λ_=>some (.bl true)) ?_ ?_ ?_
 ·intro G g;walk_at "dl";exact g
 ·unfold zipD;rw[List.length_zipWith];lia
 ·intro d j;unfold zipD at j;have es:∀(E ys:List D),List.zipWith (λx y=>D.tup [x,y]) E ys=(E.zip ys).map λq=>D.tup [q.1,q.2]:=λE=>by
   induction E with
   |nil=>intro ys;simp
   |cons x E ih=>intro ys;cases ys with
    |nil=>simp
    |cons y ys=>simp[ih]
  rw[es]at j;obtain⟨q,B,rfl⟩:=zah.mp j;exact⟨λ_=>⟨rfl,_,_,rfl,v q B,zaA,rfl⟩,nofun⟩
 have N:∀l:List D,l.filterMap (λ_=>some (D.bl true))=(List.replicate l.length true).map D.bl:=λl=>by
  induction l with
  |nil=>rfl
  |cons x l ih=>simp only[zbE,zLc,zbV,zaB,ih]
 rw[N];show match blsD _ with|some bs=>_|none=>False
 rw[Yv];refine⟨λz=>?_,λ_=>h⟩;rw[show(List.replicate _ true).all id=true from by simp]at z
 cases z
def k8(X:AX K mg C):FD P w K mg base 1 "is_whole" ["thing"] z0n:=by
 obtain⟨f,fd,F,m⟩:=X.f "is_whole" 5 aB
 have ds:zo ["thing"] ["thing"] (zd (top 5)):=by walk_at "f"
 walk_at "b";refine⟨_,(zm (yb (Wa (yh X.T.isinstance (za (z9 0) (za (t6 X.T.int jo) zb))) (W8 (Oh (yh X.T.isinstance (za (z9 0) (za (t6 X.T.bool t7) zb)))))))),?_⟩;obtain⟨n,rfl,h⟩:=hT;exact⟨λ_=>⟨zaA,h⟩,nofun⟩
def Za{l i:Nat}{S:List D}{d:D}{u:TDS}{U:DE}{Z:DZ}(h:slot U l=Q_ (.lst (S++[d])))(k:u (setS (setS U l (dO (.lst S))) i (dv d)) Z):sSeq (sPop l i) u U Z:=by
 unfold sSeq sPop;rw[h]
 dsimp only [dO]
 rw[Uk];exact k
def Sv(X:AX K mg C):FD P w K mg base 2 "is_tree" ["thing"] Eo:=by
 obtain⟨f,fd,F,m⟩:=X.f "is_tree" 9 aB
 have ds:zo ["thing","waiting","part"] ["thing"] (zd (top 9)):=by walk_at "f"
 walk_at "b";refine⟨_,(ze (zw 1 ds.nd (x5 (za (z9 0) zb)))
   (ze (Y2 (x4 (z9 1)) (ze (Q3 1 2 ds.nd)
    (ze (xn (A8 (z9 2) uk) (zm Wt) yr)
    (ze (xn (EW.et (ua (xu (x4 (yh X.T.isinstance (za (z9 2) (za (t6 X.T.tuple xm) zb))))) (ua (Yn hu (yo X.T.len (za (z9 2) zb)) zc) (uj (xu (x4 (zy (k8 X) (hr.e rfl) (za (zf hu (z9 2) zc) zb)))))))) (zm (yb wy)) yr)
    (zm (X6 1 (za (zf hu (z9 2) zc) (za (zf hu (z9 2) zc) zb))))))))
   (zm (yb wy)))),?_⟩
 obtain⟨d0,rfl,t,rfl,y,h⟩:=Vo hT;refine⟨rfl,rfl,zaA,λU=>∃(ts:List Tr)(a2:Option EV),U=[q_ t.d,Q_ (.lst (ts.map Tr.d)),a2]/\sumZ (ts.map Tr.d)<=500,λU=>match U with
  |[_,some ⟨_,.lst S⟩,_]=>sumZ S
  | _=>0,⟨[t],none,rfl,by simp[sumZ,Tr.sz];lia⟩,?_⟩
 rintro U ⟨ts,a2,rfl,g⟩;refine Kb (S:=ts.map Tr.d) rfl ⟨λz=>?_,λz=>?_⟩
 ·rcases zeB ts with rfl|⟨ts,q,rfl⟩
  ·cases z
  rw[zdL,zMa]at g ⊢;rw[u7]at g;have hl:=f6 (ts.map Tr.d);have a:sumZ (ts.map Tr.d++[q].map Tr.d)=sumZ (ts.map Tr.d)+szD q.d:=by rw[u7];simp[sumZ]
  have x:sumZ ([q].map Tr.d)=szD q.d:=by simp[sumZ]
  have j:=Zu q.d;cases q with
  |lf =>
   refine Za (S:=ts.map Tr.d) rfl ⟨λ_=>⟨⟨ts,_,rfl,by lia⟩,?_⟩,nofun⟩
   exact Nat.lt_of_lt_of_eq (zeV j) a.symm
  |nd l v r =>
   have u:szD (Tr.nd l v r).d=1+szD l.d+szD r.d:=by simp[Tr.d,szD]
   rw[u]at a x;have k:sumZ (ts.map Tr.d++[l.d,r.d])=sumZ (ts.map Tr.d)+szD l.d+szD r.d:=by rw[u7];simp[sumZ];lia
   refine Za (S:=ts.map Tr.d) rfl ⟨nofun,λ_=>⟨nofun,λ_=>⟨zaI (ye ..),zaI (ye ..),nofun,λ_=>⟨rfl,v,rfl,nofun,λ_=>⟨rfl,rfl,by simp at hl ⊢;lia,⟨ts++[l,r],q_ (.tup [l.d,.int v,r.d]),by rw[zMa];rfl,by simp only[zMa,zaB,zbO];lia⟩,?_⟩⟩⟩⟩⟩
   refine(show sumZ (ts.map Tr.d++[l.d,r.d])<sumZ (ts.map Tr.d++[Tr.nd l v r].map Tr.d) from ?_);rw[k,a];lia
 have e0:ts=[]:=by cases ts with|nil=>rfl|cons=>cases z
 subst e0;exact⟨zaA,h⟩
def Vj(X:AX K mg C):FD P w K mg base 1 "nodes_of" ["tree"] Hh:=by
 obtain⟨f,fd,F,m⟩:=X.f "nodes_of" 11 aB
 have ds:zo ["tree","many","waiting","part"] ["tree"] (zd (top 11)):=by walk_at "f"
 walk_at "b";refine⟨_,(ze (zw 1 ds.nd zc)
   (ze (zw 2 ds.nd (x5 (za (z9 0) zb)))
   (ze (Y2 (x4 (z9 2)) (ze (Q3 2 3 ds.nd)
    (zm (xn (Yo (z9 3) uk) (ze (Dc 1 ds.nd zc)
     (zm (X6 2 (za (zf hu (z9 3) zc) (za (zf hu (z9 3) zc) zb))))) yr))))
   (zm (yb (z9 1)))))),?_⟩
 obtain⟨d0,rfl,t,rfl,B,h⟩:=Vo hT;refine⟨zaA,rfl,rfl,zaA,λU=>∃(ts:List Tr)(a3:Option EV)(k:Nat),U=[q_ t.d,q_ (.int (k:Nat)),Q_ (.lst (ts.map Tr.d)),a3]/\k+(ts.map Tr.nodes).sum=t.nodes/\sumZ (ts.map Tr.d)<=500,λU=>match U with
  |[_,_,some ⟨_,.lst S⟩,_]=>sumZ S
  | _=>0,⟨[t],none,0,rfl,by simp,by simp[sumZ,Tr.sz];lia⟩,?_⟩
 rintro U ⟨ts,a2,k,rfl,a,g⟩;refine Kb (S:=ts.map Tr.d) rfl ⟨λz=>?_,λz=>?_⟩
 ·rcases zeB ts with rfl|⟨ts,q,rfl⟩
  ·cases z
  rw[zdL,zMa]at g ⊢;rw[zdL,zMa,List.sum_append]at a;rw[u7]at g;have hl:=f6 (ts.map Tr.d);have e:sumZ (ts.map Tr.d++[q].map Tr.d)=sumZ (ts.map Tr.d)+szD q.d:=by rw[u7];simp[sumZ]
  have y:sumZ ([q].map Tr.d)=szD q.d:=by simp[sumZ]
  have j:=Zu q.d;cases q with
  |lf =>
   refine Za (S:=ts.map Tr.d) rfl ⟨nofun,λ_=>⟨⟨ts,_,k,rfl,by simpa [Tr.nodes] using a,by lia⟩,?_⟩⟩
   exact Nat.lt_of_lt_of_eq (zeV j) e.symm
  |nd l v r =>
   have x:szD (Tr.nd l v r).d=1+szD l.d+szD r.d:=by simp[Tr.d,szD]
   rw[x]at e y;have u:sumZ (ts.map Tr.d++[l.d,r.d])=sumZ (ts.map Tr.d)+szD l.d+szD r.d:=by rw[u7];simp[sumZ];lia
   refine Za (S:=ts.map Tr.d) rfl ⟨λ_=>⟨rfl,rfl,by simp at hl ⊢;lia,⟨ts++[l,r],q_ (.tup [l.d,.int v,r.d]),k+1,by rw[zMa];rfl,by simp[Tr.nodes]at a ⊢;lia,by simp only[zMa,zaB,zbO];lia⟩,?_⟩,nofun⟩
   refine(show sumZ (ts.map Tr.d++[l.d,r.d])<sumZ (ts.map Tr.d++[Tr.nd l v r].map Tr.d) from ?_);rw[u,e];lia
 have e0:ts=[]:=by cases ts with|nil=>rfl|cons=>cases z
 subst e0;have:k=t.nodes:=by simpa using a
 subst this;exact⟨zaA,h⟩
def Fx(X:AX K mg C):FD P w K mg base 3 "fits" ["shape","thing"] (Kg FzT):=by
 obtain⟨f,fd,F,m⟩:=X.f "fits" 8 aB
 have ds:zo ["shape","thing"] ["shape","thing"] (zd (top 8)):=by walk_at "f"
 walk_at "b";refine⟨_,(ze (xn (xy hu (z9 0) zg) (zm (yb (zy (k8 X) (hr.e rfl) (za (z9 1) zb)))) yr)
   (ze (xn (xy hu (z9 0) zg) (zm (yb (Wa (yh X.T.isinstance (za (z9 1) (za (t6 X.T.tuple xm) zb))) (W8 (Ol X.T.all (za (sk (T:=["number"]) (F:=[]) (js:=[]) (xo (z9 1)) (show y0 (zd (top 8)) _ _ _ from by walk_at "c") .nil aB (by walk_at "t") (yi aB) (ym 0) (λcl C fp s H=>wg) (λcl C fp s H=>(zy (k8 X) (hr.e rfl) (za (z9 0) zb)))) zb)))))) yr)
   (zm (yb (zy (Sv X) (hr.e rfl) (za (z9 1) zb)))))),?_⟩
 obtain⟨s,d,rfl,⟨rfl,i,rfl⟩|⟨rfl,l,rfl,j⟩|⟨rfl,t,rfl,g⟩,h⟩:=hT
 ·exact cs ⟨λ_=>⟨rfl,_,rfl,zaA,h⟩,nofun⟩
 rotate_left
 ·exact cs ⟨nofun,λ_=>cs ⟨nofun,λ_=>⟨rfl,t,rfl,g,zaA,h⟩⟩⟩
 refine cs ⟨nofun,λ_=>cs ⟨λ_=>?_,nofun⟩⟩;walk_at "dl";refine xx (l.map D.int) ?_ (λ_=>some (.bl true)) (by rw[zLm];lia) ?_ ?_
 ·intro G a;exact⟨zaA,a⟩
 ·intro d k;obtain⟨y,r,rfl⟩:=zah.mp k;exact⟨λ_=>⟨rfl,y,rfl,zaA,rfl⟩,nofun⟩
 have q:∀l:List D,l.filterMap (λ_=>some (D.bl true))=(List.replicate l.length true).map D.bl:=λl=>by
  induction l with
  |nil=>rfl
  |cons x l ih=>simp only[zbE,zLc,zbV,zaB,ih]
 rw[q];show match blsD _ with|some bs=>M (dv (.bl (bs.all id)))|none=>False
 rw[Yv]
 dsimp only
 rw[show(List.replicate _ true).all id=true from by simp]
 exact h
def Su(X:AX K mg C):FD P w K mg base 5 "size_of" ["shape","value"] (Rp RT):=by
 obtain⟨f,fd,F,m⟩:=X.f "size_of" 10 aB
 have ds:zo ["shape","value"] ["shape","value"] (zd (top 10)):=by walk_at "f"
 walk_at "b";refine⟨_,(ze (xn (xy hu (z9 0) zg) (zm (yb zc)) yr)
   (ze (xn (xy hu (z9 0) zg) (zm (yb (yo X.T.len (za (z9 1) zb)))) yr)
   (zm (yb (zy (Vj X) (hr.e rfl) (za (z9 1) zb)))))),?_⟩
 unfold Rp g2 at hT;split at hT
 ·obtain⟨sh,v,n,rfl,rfl,⟨rfl,l,rfl,rfl⟩|⟨rfl,t,rfl,rfl,a⟩,h⟩:=hT
  ·exact cs ⟨nofun,λ_=>cs ⟨λ_=>⟨zaA,by rw[zLm];exact h⟩,nofun⟩⟩
  exact cs ⟨nofun,λ_=>cs ⟨nofun,λ_=>⟨rfl,t,rfl,a,zaA,h⟩⟩⟩
 exact hT.elim
def z2j(M:EV->Prop)(s1:MS):Prop:=(s1.cut=true/\M ⟨.new,.tup [.bl false,.non,.lst s1.calls,.lst s1.steps]⟩)\/(s1.cut=false/\∃v r,s1.ready=v::r/\zi v/\M ⟨.new,.tup [.bl true,v,.lst s1.calls,.lst s1.steps]⟩)
def kn(C:Addr)(R:Str->D->Int->Prop)(Fz:D->D->Prop):FT:=λS M=>∃fns:List (Str×D),∃nm as most n0 ps sz b,S=[.tup (fns.map Prod.snd),.str nm,.lst as,.int most]/\fns.length<=100/\(fns.map Prod.fst).Nodup/\zu (fns.map Prod.snd)/\(∀p∈fns,∃r,p.2=.tup (.str p.1::r)) /\
 rowG fns nm=some (.tup [n0,pmD ps,sz,b])/\zi n0/\zu (ps.map Prod.snd)/\zi sz/\zi b/\zu as/\ps.length=as.length/\as.length<=10/\(ps.map Prod.fst).Nodup/\(∀p∈(ps.map Prod.snd).zip as,Fz p.1 p.2) /\
 Fin C R fns most (z2j M) (qq most nm as ps b ms0)
noncomputable def K6:Stmt->List Expr
 |.Assign _ (.Call _ as _ _) _=>as
 |_=>[]
def Lf{v:Value}(X:AX K mg C)(g:FD P w K mg base 4 "check_args" ["function","args"] (Kh Fz))(d:FM P w K mg base 8 C fNames "go" ["self"] (tGo C R))(mk:W.makesIn K C=true)(kC:W.keepIn K (.ref C)=true)(mR:mg "Run" = some (.ref C))(F:FunV K "trace" "trace" (top 15) f v fd):FnOk P w K mg base CX0 10 f fd ["program","name","args","most"] (spD K 4 (kn C R Fz)):=by
 have ds:zo ["program","name","args","most","run"] pB (zd (top 15)):=by walk_at "f"
 obtain⟨fI,a4,okI,bI,Q⟩:=(Fq X).ex;obtain⟨fT,a0,k,bT,u⟩:=(Lg X).ex;refine By (N:=["program","name","args","most","run"]) (C:=C) (ns:=fNames) (m:="told") (l:=4) (nI:=3) (nM:=1) (TI:=Ey C) (TM:=Ep C) (as1:=K6 ((yu (top 15)).getD 1 (.Pass ⟨0,0,0,0⟩))) (λlen hb=>F.ok ds len hb) aB rfl rfl λqZ A outer s H xs S M hr hl hT=>?_
 have hu:=hr.units;refine⟨_,_,_,_,(Hw (zy g (hr.e rfl) (za (zy (bj X) (hr.e rfl) (za (z9 0) (za (z9 1) zb))) (za (z9 2) zb)))),(za (z9 0) (za (z9 3) zb)),?_,(xp (yn X.O (T4 X) (hr.e rfl) (y3 (z9 1) (y3 (wk X.T.tuple (za (z9 2) zb)) x9)))),(xp (T7 X.O d (hr.e rfl))),?_,?_⟩
 ·intro t ht;exact Xe (Gp ⟨mk,Q.at_,Q.fn,kC⟩ okI (hr.e rfl) rfl mR bI .nil Xg ht) (zn (i:=4) ds.nd rfl aG) rfl rfl rfl
 ·exact Z9 (Um (uv rfl aG aB aB) X.O.cl u k (hr.e rfl) bT .nil Xg rfl)
 obtain⟨fns,G,V,most,I,ps,sz,b,rfl,hl1,nd,Y,es,L,D,p2,B,z,Z,a,r,q,hz,n,s1,hR,h⟩:=hT;have j:zi (pmD ps):=y8.mpr λx hx=>by
  obtain⟨y,hy,rfl⟩:=zah.mp hx;exact⟨zaA,y8.mp p2 _ (zah.mpr ⟨y,hy,rfl⟩),zaA⟩
 refine⟨rfl,fns,G,_,rfl,hl1,es,L,⟨D,j,B,z,zaA⟩,rfl,I,ps,sz,b,V,rfl,a,by lia,hz,?_⟩
 refine⟨zaj 5,nofun,rfl,fns,most,rfl,rfl,hl1,nd,Y,es,rfl,?_⟩;refine⟨_,rfl,zaA,zaA,rfl,fns,most,ms0,G,V,I,ps,sz,b,rfl,rfl,L,D,p2,B,z,Z,a,r,q,zcB _,zcB _,zcB _,?_⟩;exact⟨_,rfl,rfl,fns,most,_,s1,n,rfl,rfl,hR,_,rfl,fns,most,s1,rfl,rfl,h⟩
def yk{t u:TDS}{U:DE}{Z:DZ}(h:t U {Z with nx:=λρ'=>u ρ' Z}):sSeq t u U Z:=h
def wq{t u:TDS}{U ρ':DE}{Z:DZ}(e:U=ρ')(h:sSeq t u ρ' Z):sSeq t u U Z:=e▸h
def cg{i:Nat}{d:D}{U:DE}{G:DE->Prop}(h:G (setS U i (dv d))):gN i d U G:=h
def uo{tc:TDb}{t1 t2:TDS}{U:DE}{Z:DZ}(b:Bool)(h:∀ G:Bool->Prop,G b->tc U G)(h1:b=true->t1 U Z)(h2:b=false->t2 U Z):sIf tc t1 t2 U Z:=h _ ⟨h1,h2⟩
def Wu{tc:TDb}{t1 t2:TDS}{U:DE}{Z:DZ}{Q:Prop}(h:∀ G:Bool->Prop,(∀ b,(b=true->Q)->G b)->tc U G)(h1:Q->t1 U Z)(h2:t2 U Z):sIf tc t1 t2 U Z:=h _ λb q=>⟨λz=>h1 (q z),λ_=>h2⟩
def je{i:Nat}{t:TDS}{U:DE}{Z:DZ}(h:t (frzS U i) Z):sFrz i t U Z:=h
def kq{i:Nat}{te:TD}{U:DE}{Z:DZ}(h:te U λr=>(match r.k with|.own=>False|_=>True)/\Z.nx (setS U i r.sto)):sSet i te U Z:=h
def t9{U:DE}{Z:DZ}(h:Z.nx U):sNil U Z:=h
def ne_2:(2:Int)≠0:=by decide
def ne_3:(3:Int)≠0:=by decide
def ne_5:(5:Int)≠0:=by decide
def z1h:(23:Int)≠0:=by decide
def ne_6:(6:Int)≠0:=by decide
def fdl{i j:Int}(h:autoParam (j≠0) zSd)(h1:autoParam (j.natAbs<=1000000000000) zSd):FdOk i j:=zaI (Ji h h1)
def yz{S:List D}{i:Int}{d:D}{M:EV->Prop}(h:atI S i=some d)(k:M (dv d)):sIxx (.lst S) (.int i) M:=by
 unfold sIxx sIx1
 dsimp only
 rw[h];exact k
def qo{S:List D}{i:Int}{d:D}{M:EV->Prop}(h:atI S i=some d)(k:M (dv d)):sIxx (.tup S) (.int i) M:=by
 unfold sIxx sIx1
 dsimp only
 rw[h];exact k
def Bh{ns:List Int}{i n:Int}{M:EV->Prop}(h:atI ns i=some n)(k:M (dv (.int n))):sIxx (.scr ns) (.int i) M:=by
 unfold sIxx sIx1
 dsimp only
 rw[h];exact k
def IsSh(z:Str):Prop:=z = "num"\/z = "list"\/z = "tree"
noncomputable def letC(w:Int):Nat:=(("abcdfghjkmnopqrstuvwxyz" : Str).cps.toList).getD w.toNat 0
noncomputable def one(c:Nat):Str:=⟨#[c]⟩
noncomputable def Sd(d:List Int)(a:Nat)(k:Nat):Str:=Str.join "" ((d.set a ((d.getD a 0+(k:Int)).fmod 23)).map λw=>one (letC w))
theorem Ux:∀cs:List Nat,(Str.join "" (cs.map one)).cps.toList=cs
 |[]=>rfl
 |[c]=>rfl
 |c::c2::cs=>by
  have a:=Ux (c2::cs);have e:Str.join "" ((c::c2::cs).map one)=one c++("" : Str)++Str.join "" ((c2::cs).map one):=rfl;rw[e];show((#[c]++#[])++(Str.join "" ((c2::cs).map one)).cps:Array Nat).toList=_;rw[Array.toList_append,a];rfl
def L1:∀i j:_root_.Fin 23,letC (i.val:Int)=letC (j.val:Int)->i=j:=by decide +kernel
def V3(d:List Int)(a:Nat)(x:a<d.length)(m:Nat)(z:m<=20):((List.range m).map (Sd d a)).Nodup:=by
 refine List.pairwise_map.mpr (List.Pairwise.imp_of_mem ?_ List.nodup_range);intro k j l g ne e;refine ne ?_;have l:=zcZ.mp l;have g:=zcZ.mp g;have y:∀k,(Sd d a k).cps.toList=(d.set a ((d.getD a 0+(k:Int)).fmod 23)).map letC:=λk=>by
  unfold Sd;rw[show((d.set a ((d.getD a 0+(k:Int)).fmod 23)).map λw=>one (letC w))=((d.set a ((d.getD a 0+(k:Int)).fmod 23)).map letC).map one from by rw[zbI];rfl]
  exact Ux _
 have e2:=zbP (λs:Str=>s.cps.toList[a]?) e;simp only[y,zai,zaV x,Option.map_some,Option.some.injEq]at e2;have v:=dj (d.getD a 0+(k:Int)) 23 aB
 have u:=dj (d.getD a 0+(j:Int)) 23 aB
 have q:=L1 ⟨((d.getD a 0+(k:Int)).fmod 23).toNat,by lia⟩ ⟨((d.getD a 0+(j:Int)).fmod 23).toNat,by lia⟩ (by
  simp only;rw[Int.toNat_of_nonneg v.1,Int.toNat_of_nonneg u.1];exact e2)
 have r:(d.getD a 0+(k:Int)).fmod 23=(d.getD a 0+(j:Int)).fmod 23:=by
  have:=zbP _root_.Fin.val q;simp only at this;lia
 rw[Int.fmod_eq_emod_of_nonneg _ aB,Int.fmod_eq_emod_of_nonneg _ aB]at r
 lia
def z0k:FT:=λS M=>∃c,S=[.int c]/\∀n,M (dv (.int n))
def Ew:FT:=λS M=>∃c:Int,∃m:Nat,S=[.int c,.int m]/\m<=20/\∀zs:List Str,zs.length=m->zs.Nodup->M (df (.lst (zs.map D.str)))
def D41:FT:=g2 λd e M=>∃(ns:List Int)(k:Nat),d=.scr ns/\e=.int k/\∀c:Int,M (dv (.int c))
def z0g:FT:=g1 λd M=>∃(ns:List Int)(S:List D),d=.sx (.lst (ns.map D.int)::S)/\∀c:Int,0<=c->M (dv (.int c))
def vq{a b:TDb}{U:DE}{G:Bool->Prop}(e:∀ G:Bool->Prop,G false->a U G)(d:∀ G:Bool->Prop,G false->b U G)(h:G false):bOr a b U G:=e _ ⟨λz=>(by cases z),λ_=>d _ h⟩
def K3{a:D->D->(EV->Prop)->Prop}{ta tb:TD}{U:DE}{M:EV->Prop}(x y:EV)(h1:∀ G:EV->Prop,G x->ta U G)(h2:∀ G:EV->Prop,G y->tb U G)(h:a x.d y.d M):d2 a ta tb U M:=h1 _ (h2 _ h)
def T8(x:Int):eqD (.int x) (.int x)=true:=by rw[g0];exact beq_self_eq_true _
noncomputable abbrev nmE(c:Int)(m:Nat)(l:DE):DE:=q_ (.int c)::q_ (.int m)::q_ (.str "abcdfghjkmnopqrstuvwxyz")::l
def W4(X:AX K mg C):FD P w K mg base 1 "_law_names" ["_law_cell","_law_many"] Ew:=by
 obtain⟨f,fd,F,m⟩:=X.f "_law_names" 21 aB
 have ds:zo ["_law_cell","_law_many","_law_letters","_law_word","_law_at","_law_names_here","_law_k","_law_turned"] ["_law_cell","_law_many"] (zd (top 21)):=by walk_at "f"
 walk_at "b";refine⟨_,(ze (yj (zw 2 ds.nd zg))
   (ze (yj (zw 0 ds.nd (xb (z9 0) (jh zc zc))))
   (ze (yj (rn (T:=["_law_k"]) (F:=["_law_cell"]) (js:=[0]) 3 ds.nd (vn X.T.range (za (x3 zc (xb (z9 0) zc)) zb)) (show y0 (zd (top 21)) _ _ _ from by walk_at "c") (.cons rfl .nil) aB (by walk_at "t") (yi aB) (ym 0) (λcl C fp s H=>wg) (λcl C fp s H=>(xb (x3 (ka (z9 1) (x3 (z9 0) zc)) (Zh (z9 0) (z9 0))) zc))))
   (ze (yj (zw 4 ds.nd (xb (ka (z9 0) zc) (yo X.T.len (za (z9 3) zb)))))
   (ze (yj (zw 5 ds.nd (x5 zb)))
   (ze (yj (uu (vn X.T.range (za (z9 1) zb)) (zn (i:=6) ds.nd rfl aG) (ym 6) (ze (zw 7 ds.nd (jj X.T.list (za (z9 3) zb)))
    (ze (Hv 7 hu (z9 4) (xb (x3 (zf hu (z9 3) (z9 4)) (z9 6)) zc))
    (zm (vj 7 (wv 5 (Lu zg (sk (T:=["_law_part"]) (F:=["_law_letters"]) (js:=[2]) (xo (z9 7)) (show y0 (zd (top 21)) _ _ _ from by walk_at "c") (.cons rfl .nil) aB (by walk_at "t") (yi aB) (ym 0) (λcl C fp s H=>wg) (λcl C fp s H=>(zf hu (z9 1) (z9 0))))))))))))
   (zm (yb (z9 5))))))))),?_⟩
 obtain⟨B,m,rfl,hl1,h⟩:=hT;have Y:∀(x:Int)(y:Int),y≠0->y.natAbs<=100->FdOk x y:=λx y a b=>zaI (Ji a aD)
 refine z_g [q_ (.int B),q_ (.int m),q_ (.str "abcdfghjkmnopqrstuvwxyz"),none,none,none,none,none] ?_ ?_
 ·exact⟨zaA,rfl⟩
 have cb:=dj B (10 ^ 9) aB
 obtain⟨c,L⟩:∃c,B.fmod (10 ^ 9)=c:=⟨_,rfl⟩;rw[L]at cb;refine yx (λU=>U=(nmE c m [none,none,none,none,none])) ?_ ?_
 ·walk_at "dl";rw[L]
 rintro _ rfl;have c8:=dj c 8 aB
 refine yx (λU=>∃e:List Int,(∀w∈e,0<=w/\w<23)/\1<=e.length/\e.length<=8/\U=(nmE c m [Q_ (.lst (e.map D.int)),none,none,none,none])) ?_ ?_
 ·refine xx (rngD 0 (1+c.fmod 8).toNat) (λG g=>?_) (λd=>match d with|.int k=>some (.int ((c.fdiv (k+1)+k*k).fmod 23))|_=>none) (by rw[tm];lia) ?_ ?_
  ·exact⟨λz=>(nomatch z),by lia,by lia,g⟩
  ·intro d r;obtain⟨i,hi⟩:=zcN r;obtain⟨W,rfl⟩:=tw hi;rw[zfM];exact⟨λ_=>⟨fdOk (m:=64) aD (Jt aD),zfP (Jt (m:=64) aD),z1h,zaA,rfl⟩,nofun⟩
  refine⟨zaA,(List.range (1+c.fmod 8).toNat).map λk:Nat=>(c.fdiv ((k:Int)+1)+(k:Int)*k).fmod 23,λw v=>?_,by rw[zLm,zbM];lia,by rw[zLm,zbM];lia,?_⟩
  ·obtain⟨k,_,rfl⟩:=zah.mp v;exact dj _ 23 aB
  have e4:∀n,(rngD 0 n).filterMap (λd=>match d with|.int k=>some (D.int ((c.fdiv (k+1)+k*k).fmod 23))|_=>none)=((List.range n).map λk:Nat=>(c.fdiv ((k:Int)+1)+(k:Int)*k).fmod 23).map D.int:=λn=>by
   unfold rngD;rw[zdV,zbI,<- zdK]
   congr 1
   funext k
   simp
  rw[e4];rfl
 rintro _ ⟨e,v,l1,l2,rfl⟩;have ab:=dj (c.fdiv 8) e.length aD
 obtain⟨at_,N⟩:∃at_:Nat,(c.fdiv 8).fmod e.length=at_:=⟨((c.fdiv 8).fmod e.length).toNat,by lia⟩
 rw[N]at ab;refine yx (λU=>U=(nmE c m [Q_ (.lst (e.map D.int)),q_ (.int at_),none,none,none])) ?_ ?_
 ·exact⟨Y _ _ aB aB,by rw[zLm];lia,zaA,by rw[zLm];show[_,_,_,_,q_ (.int ((c.fdiv 8).fmod e.length)),_,_,_]=_;rw[N]⟩
 rintro _ rfl;refine yx (λU=>U=(nmE c m [Q_ (.lst (e.map D.int)),q_ (.int at_),Q_ (.lst []),none,none])) ?_ ?_
 ·exact⟨rfl,rfl,zaA,rfl⟩
 rintro _ rfl;refine yx (λU=>∃a b,U=(nmE c m [Q_ (.lst (e.map D.int)),q_ (.int at_),Q_ (.lst (((List.range m).map (Sd e at_)).map D.str)),a,b])) ?_ ?_
 ·refine vd (rngD 0 m) (λG g=>?_) (λi U=>∃a b,U=(nmE c m [Q_ (.lst (e.map D.int)),q_ (.int at_),Q_ (.lst (((List.range i).map (Sd e at_)).map D.str)),a,b])) ⟨none,none,rfl⟩ ?_ ?_
  ·exact⟨by lia,by lia,g⟩
  ·rintro i d _ r ⟨a,b,rfl⟩;obtain⟨hi,rfl⟩:=tw r;have lt:at_<e.length:=by lia
   have e1:atI e (at_:Int)=some (e.getD at_ 0):=wz aD (by simp[lt])
   have e2:ixN e.length (at_:Int)=some at_:=by
    unfold ixN;rw[zaK aD,zaK aD]
    simp
   have l:(("abcdfghjkmnopqrstuvwxyz" : Str).cps.toList).length=23:=by decide +kernel
   have sz:("abcdfghjkmnopqrstuvwxyz" : Str).length<=sizeLine:=by rw[zbH];decide +kernel
   walk_at "dl";simp only[e1,e2,Option.map_some];simp only[Jo,dC];have J:(e.map D.int).set at_ (.int ((e.getD at_ 0+(i:Int)).fmod 23))=(e.set at_ ((e.getD at_ 0+(i:Int)).fmod 23)).map D.int:=by rw[List.map_set]
   rw[J];have I:∀w∈e.set at_ ((e.getD at_ 0+(i:Int)).fmod 23),0<=w/\w<23:=λw j=>by
    rcases List.mem_or_eq_of_mem_set j with q|q
    ·exact v w q
    rw[q];exact dj _ 23 aB
   have R:(e.set at_ ((e.getD at_ 0+(i:Int)).fmod 23)).length<=8:=by rw[zaY];exact l2
   have es:Sd e at_ i=Str.join "" ((e.set at_ ((e.getD at_ 0+(i:Int)).fmod 23)).map λw=>one (letC w)):=rfl;generalize e.set at_ ((e.getD at_ 0+(i:Int)).fmod 23)=vs at I R es;refine xx (vs.map D.int) (λG g=>?_) (λd=>match d with|.int w=>some (.str (one (letC w)))|_=>none) (by rw[zLm];lia) ?_ ?_
   ·exact⟨zaA,g⟩
   ·intro d r;obtain⟨w,j,rfl⟩:=zah.mp r;obtain⟨O,w1⟩:=I w j;have e5:atI ("abcdfghjkmnopqrstuvwxyz" : Str).cps.toList w=some (letC w):=wz O (by
     unfold letC;rw[zeE,zaf (by rw[l];lia)]
     rfl)
    refine⟨λ_=>?_,nofun⟩;unfold ρ0;walk_at "dl";rw[e5];exact⟨sz,rfl⟩
   have Z:(vs.map D.int).filterMap (λd=>match d with|.int w=>some (D.str (one (letC w)))|_=>none)=(vs.map λw=>one (letC w)).map D.str:=by
    rw[zdV,zbI,<- zdK];rfl
   rw[Z];refine⟨_,rfl,?_,zaA,by simp;lia,q_ (.int i),q_ (.lst (vs.map D.int)),?_⟩
   ·have Q:∀us:List Int,((us.map λw=>one (letC w)).map λt=>t.length+(Str.ofString "").length).sum=us.length:=λus=>by
     induction us with
     |nil=>rfl
     |cons u us ih=>simp only[zaB,List.sum_cons,ih,zLc];show 1+0+us.length=_;lia
    rw[Q,zbH];lia
   rw[List.range_succ,zMa,zMa,zaB,zbO,zaB,zbO,es]
  rintro _ ⟨a,b,rfl⟩;rw[tm];exact⟨a,b,rfl⟩
 rintro _ ⟨a,b,rfl⟩;exact⟨y8.mpr λx V=>by obtain⟨z,_,rfl⟩:=zah.mp V;trivial,h _ aE (V3 e at_ aD m hl1)⟩
def sj(X:AX K mg C):FD P w K mg base 1 "_law_number" ["_law_cell"] z0k:=by
 obtain⟨f,fd,F,m⟩:=X.f "_law_number" 20 aB
 have ds:zo ["_law_cell"] ["_law_cell"] (zd (top 20)):=by walk_at "f"
 walk_at "b";refine⟨_,(zm (yb (x3 (Ta (xb (z9 0) (Ta (Zh zc (jh zc zc)) zc)) (jh zc zc)) zc))),?_⟩;obtain⟨c,rfl,h⟩:=hT;exact⟨⟨by decide,by decide,by decide⟩,zfP aB,(show(2*10 ^ 60-1:Int)≠0 by decide),⟨by decide,by decide,by decide⟩,zaA,h _⟩
def wj(X:AX K mg C):FD P w K mg base 1 "_law_cell_at" ["_law_script","_law_k"] D41:=by
 obtain⟨f,fd,F,m⟩:=X.f "_law_cell_at" 19 aB
 have ds:zo ["_law_script","_law_k"] ["_law_script","_law_k"] (zd (top 19)):=by walk_at "f"
 walk_at "b";refine⟨_,(ze (xn (Sw (z9 1) (yo X.T.len (za (z9 0) zb))) (zm (yb (zf hu (z9 0) (z9 1)))) yr)
   (zm (yb zc))),?_⟩
 obtain⟨a,b,rfl,ns,k,rfl,rfl,h⟩:=Lq hT;refine yk (uo (decide ((k:Int)<ns.length)) aA (λz=>?_) (λ_=>⟨zaA,h 0⟩));have g:k<ns.length:=by have:=zbN z;lia
 have e:atI ns (k:Int)=some ns[k]:=wz aD (by simp[g])
 exact Bh e ⟨zaA,h _⟩
def ck(X:AX K mg C):FD P w K mg base 1 "_law_take" ["_law_state"] z0g:=by
 obtain⟨f,fd,F,m⟩:=X.f "_law_take" 25 aB
 have ds:zo ["_law_state"] ["_law_state"] (zd (top 25)):=by walk_at "f"
 walk_at "b";refine⟨_,(Hm 0 X.T.len),?_⟩;obtain⟨a,rfl,ns,S,rfl,h⟩:=Vo hT;exact⟨ns,S,rfl,λc d=>⟨zaA,h c d⟩⟩
noncomputable def prD(p:Str×Str):D:=.tup [.str p.1,.str p.2]
structure Hd where
 nm:Str
 ps:List (Str×Str)
 sh:Str
 sz:List Int
noncomputable def hdL(h:Hd):List D:=[.str h.nm,.tup (h.ps.map prD),.tup [.str h.sh,.tup (h.sz.map D.int)]]
noncomputable def hdD(h:Hd):D:=.tup (hdL h)
noncomputable def fnD(h:Hd)(b:D):D:=.tup [.str h.nm,.tup (h.ps.map prD),.tup [.str h.sh,.tup (h.sz.map D.int)],b]
noncomputable abbrev vr(z:Str):D:=.tup [.str "var",.str z]
noncomputable abbrev gv(e:D):D:=.tup [.str "give",e]
noncomputable abbrev cl(f:Str)(J:List D):D:=.tup [.str "call",.str f,.tup J]
noncomputable def putH(f n x:Str):Hd:=⟨f,[(n,"num"),(x,"list")],"list",[1,0,1]⟩
noncomputable def putB(f n x h t:Str):D:=.tup [.str "list",.str x,gv (.tup [.str "cons",vr n,.tup [.str "nil"]]),.str h,.str t,.tup [.str "less",vr n,vr h,gv (.tup [.str "cons",vr n,vr x]),gv (.tup [.str "cons",vr h,cl f [vr n,vr t]])]]
noncomputable def plaH(f n x:Str):Hd:=⟨f,[(n,"num"),(x,"tree")],"tree",[1,0,1]⟩
noncomputable def plaB(f n x l v r:Str):D:=.tup [.str "tree",.str x,gv (.tup [.str "node",.tup [.str "leaf"],vr n,.tup [.str "leaf"]]),.str l,.str v,.str r,.tup [.str "less",vr n,vr v,gv (.tup [.str "node",cl f [vr n,vr l],vr v,vr r]),gv (.tup [.str "node",vr l,vr v,cl f [vr n,vr r]])]]
def tPut:FT:=g2 λa b M=>∃f n x h t r,a=.str f/\b=.lst ((n::x::h::t::r).map D.str)/\M (dv (fnD (putH f n x) (putB f n x h t)))
def tPla:FT:=g2 λa b M=>∃f n x l v w r,a=.str f/\b=.lst ((n::x::l::v::w::r).map D.str)/\M (dv (fnD (plaH f n x) (plaB f n x l v w)))
def M7(f n x h t:Str):zi (fnD (putH f n x) (putB f n x h t)):=by
 simp only[fnD,putB,putH,zi,zu,kdD,kdDs,zaB,zbO,prD,and_self]
def M8(f n x l v w:Str):zi (fnD (plaH f n x) (plaB f n x l v w)):=by
 simp only[fnD,plaB,plaH,zi,zu,kdD,kdDs,zaB,zbO,prD,and_self]
def Js{α:Type}(f:α->D)(E:List α)(n:Nat)(h:n<=E.length):ZZ.cutD (E.map f) none (some (n:Int))=(E.take n).map f:=by
 rw[cw,<- zeW]
def HOk1(zs:List Str)(h:Hd):Prop:=∃ks:List Str,h.ps=zs.zip ks/\1<=ks.length/\ks.length<=3/\(∀k∈ks,IsSh k)/\IsSh h.sh/\h.sz.length<=4
def HI(f:Str)(zs:List Str)(c:Int)(n:Nat)(ks:List Str)(sz:List Int)(a b:Option EV)(U:DE):Prop:=ks.length=n/\n<=3/\(∀k∈ks,IsSh k)/\sz.length=n+1/\U=[q_ (.str f),q_ (.lst (zs.map D.str)),q_ (.int c),Q_ (.lst ((zs.zip ks).map prD)),Q_ (.lst (sz.map D.int)),a,b,none]
def Mo(c:Int):c.fmod 3=0\/c.fmod 3=1\/c.fmod 3=2:=by
 have:=zbJ c (show(0:Int)<3 by decide)
 have:=zdH c (show(0:Int)<3 by decide)
 lia
def pk3(c:Int):∃s,IsSh s/\atI [D.str "num",.str "list",.str "tree"] (c.fmod 3)=some (.str s):=by
 rcases Mo c with z|z|z <;> rw[z]
 ·exact⟨"num",.inl rfl,rfl⟩
 ·exact⟨"list",.inr (.inl rfl),rfl⟩
 exact⟨"tree",.inr (.inr rfl),rfl⟩
def at3{P:Int->Prop}{i:Nat}(h:i<3){x y z:Int}(h1:P x)(h2:P y)(a:P z):∃m,P m/\atI [D.int x,.int y,.int z] (i:Int)=some (.int m):=by
 rcases(by lia:i=0\/i=1\/i=2) with rfl|rfl|rfl
 ·exact⟨x,h1,rfl⟩
 ·exact⟨y,h2,rfl⟩
 exact⟨z,a,rfl⟩
theorem Vy{s:Str}:∀{ks zs:List Str}(h:ks.length<zs.length),zs.zip (ks++[s])=zs.zip ks++[(zs[ks.length],s)]
 |[],z::zs,h=>by rw[List.nil_append,zcY,zaL,zcY];rfl
 |k::ks,z::zs,h=>by
  rw[List.cons_append,zaL,zaL,Vy (Nat.lt_of_succ_lt_succ h)];rfl
theorem fm0:∀l:List Int,(l.map D.int).filterMap (λ_=>some (D.int 0))=(List.replicate l.length (0:Int)).map D.int
 |[]=>rfl
 |a::l=>by rw[zaB,zbE,fm0 l];rfl
def d8(h:Hd):zi (hdD h):=⟨zaA,y8.mpr λd a=>by
 obtain⟨p,_,rfl⟩:=zah.mp a;exact⟨zaA,zaA,zaA⟩,⟨zaA,ra _,zaA⟩,zaA⟩
def tm1(n:Nat):(rngD 0 n).length=n:=by unfold rngD;rw[zLm,zbM]
def z0o:FT:=g3 λa b c M=>∃(f:Str)(zs:List Str)(k:Int),a=.str f/\b=.lst (zs.map D.str)/\3<=zs.length/\c=.int k/\∀h:Hd,h.nm=f->HOk1 zs h->M (dv (hdD h))
def bf(X:AX K mg C):FD P w K mg base 1 "_law_putting" ["_law_f","_law_names_here"] tPut:=by
 obtain⟨f,fd,F,m⟩:=X.f "_law_putting" 22 aB
 have ds:zo ["_law_f","_law_names_here","_law_n","_law_x","_law_h","_law_t","_law_one","_law_ahead","_law_behind","_law_body_here"] ["_law_f","_law_names_here"] (zd (top 22)):=by walk_at "f"
 walk_at "b";refine⟨_,(ze (yj (Nr (yq (z9 1) xk (yg zc)) (Qr (K0:=K) (n:=4) (by rfl) (by rfl) (yd (zn (i:=2) ds.nd rfl aG) (yd (zn (i:=3) ds.nd rfl aG) (yd (zn (i:=4) ds.nd rfl aG) (yd (zn (i:=5) ds.nd rfl aG) ud))))) (Fl 2 3 4 5)))
   (ze (zw 6 ds.nd (zh (za zg (za (zh (za zg (za (zh (za zg (za (z9 2) zb))) (za (zh (za zg zb)) zb)))) zb))))
   (ze (zw 7 ds.nd (zh (za zg (za (zh (za zg (za (zh (za zg (za (z9 2) zb))) (za (zh (za zg (za (z9 3) zb))) zb)))) zb))))
   (ze (zw 8 ds.nd (zh (za zg (za (zh (za zg (za (zh (za zg (za (z9 4) zb))) (za (zh (za zg (za (z9 0) (za (zh (za (zh (za zg (za (z9 2) zb))) (za (zh (za zg (za (z9 5) zb))) zb))) zb)))) zb)))) zb))))
   (ze (zw 9 ds.nd (zh (za zg (za (z9 3) (za (z9 6) (za (z9 4) (za (z9 5) (za (zh (za zg (za (zh (za zg (za (z9 2) zb))) (za (zh (za zg (za (z9 4) zb))) (za (z9 7) (za (z9 8) zb)))))) zb))))))))
   (zm (yb (zh (za (z9 0) (za (zh (za (zh (za (z9 2) (za zg zb))) (za (zh (za (z9 3) (za zg zb))) zb))) (za (zh (za zg (za (zh (za zc (za zc (za zc zb)))) zb))) (za (z9 9) zb)))))))))))),?_⟩
 obtain⟨a,b,rfl,f,n,x,h,t,r,rfl,rfl,d⟩:=Lq hT;have e:ZZ.cutD (D.str n::D.str x::D.str h::D.str t::r.map D.str) none (some 4)=[.str n,.str x,.str h,.str t]:=Js D.str (n::x::h::t::r) 4 (by show 4<=r.length+4;lia)
 refine z_g [q_ (.str f),q_ (.lst ((n::x::h::t::r).map D.str)),q_ (.str n),q_ (.str x),q_ (.str h),q_ (.str t),none,none,none,none] ?_ ?_
 ·walk_at "dl";rw[e];exact rfl
 exact⟨rfl,rfl,rfl,rfl,rfl,rfl,rfl,rfl,zaA,rfl,rfl,rfl,rfl,rfl,rfl,rfl,rfl,zaA,rfl,rfl,rfl,rfl,rfl,rfl,rfl,rfl,rfl,rfl,rfl,rfl,rfl,rfl,zaA,rfl,rfl,rfl,rfl,rfl,rfl,rfl,rfl,zaA,rfl,rfl,rfl,rfl,rfl,rfl,rfl,rfl,rfl,rfl,rfl,rfl,M7 _ _ _ _ _,d⟩
def cm(X:AX K mg C):FD P w K mg base 1 "_law_planting" ["_law_f","_law_names_here"] tPla:=by
 obtain⟨f,fd,F,m⟩:=X.f "_law_planting" 23 aB
 have ds:zo ["_law_f","_law_names_here","_law_n","_law_x","_law_l","_law_v","_law_r","_law_one","_law_left","_law_other","_law_body_here"] ["_law_f","_law_names_here"] (zd (top 23)):=by walk_at "f"
 walk_at "b";refine⟨_,(ze (yj (Nr (yq (z9 1) xk (yg zc)) (Qr (K0:=K) (n:=5) (by rfl) (by rfl) (yd (zn (i:=2) ds.nd rfl aG) (yd (zn (i:=3) ds.nd rfl aG) (yd (zn (i:=4) ds.nd rfl aG) (yd (zn (i:=5) ds.nd rfl aG) (yd (zn (i:=6) ds.nd rfl aG) ud)))))) (Fk 2 3 4 5 6)))
   (ze (zw 7 ds.nd (zh (za zg (za (zh (za zg (za (zh (za zg zb)) (za (zh (za zg (za (z9 2) zb))) (za (zh (za zg zb)) zb))))) zb))))
   (ze (zw 8 ds.nd (zh (za zg (za (zh (za zg (za (zh (za zg (za (z9 0) (za (zh (za (zh (za zg (za (z9 2) zb))) (za (zh (za zg (za (z9 4) zb))) zb))) zb)))) (za (zh (za zg (za (z9 5) zb))) (za (zh (za zg (za (z9 6) zb))) zb))))) zb))))
   (ze (zw 9 ds.nd (zh (za zg (za (zh (za zg (za (zh (za zg (za (z9 4) zb))) (za (zh (za zg (za (z9 5) zb))) (za (zh (za zg (za (z9 0) (za (zh (za (zh (za zg (za (z9 2) zb))) (za (zh (za zg (za (z9 6) zb))) zb))) zb)))) zb))))) zb))))
   (ze (zw 10 ds.nd (zh (za zg (za (z9 3) (za (z9 7) (za (z9 4) (za (z9 5) (za (z9 6) (za (zh (za zg (za (zh (za zg (za (z9 2) zb))) (za (zh (za zg (za (z9 5) zb))) (za (z9 8) (za (z9 9) zb)))))) zb)))))))))
   (zm (yb (zh (za (z9 0) (za (zh (za (zh (za (z9 2) (za zg zb))) (za (zh (za (z9 3) (za zg zb))) zb))) (za (zh (za zg (za (zh (za zc (za zc (za zc zb)))) zb))) (za (z9 10) zb)))))))))))),?_⟩
 obtain⟨a,b,rfl,f,n,x,l,v,w,r,rfl,rfl,d⟩:=Lq hT;have e:ZZ.cutD (D.str n::D.str x::D.str l::D.str v::D.str w::r.map D.str) none (some 5)=[.str n,.str x,.str l,.str v,.str w]:=Js D.str (n::x::l::v::w::r) 5 (by show 5<=r.length+5;lia)
 refine z_g [q_ (.str f),q_ (.lst ((n::x::l::v::w::r).map D.str)),q_ (.str n),q_ (.str x),q_ (.str l),q_ (.str v),q_ (.str w),none,none,none,none] ?_ ?_
 ·walk_at "dl";rw[e]
 exact⟨rfl,rfl,rfl,rfl,rfl,rfl,rfl,rfl,rfl,rfl,zaA,rfl,rfl,rfl,rfl,rfl,rfl,rfl,rfl,rfl,rfl,rfl,rfl,rfl,rfl,rfl,rfl,zaA,rfl,rfl,rfl,rfl,rfl,rfl,rfl,rfl,rfl,rfl,rfl,rfl,rfl,rfl,rfl,rfl,zaA,rfl,rfl,rfl,rfl,rfl,rfl,rfl,rfl,zaA,rfl,rfl,rfl,rfl,rfl,rfl,rfl,rfl,rfl,rfl,rfl,rfl,M8 _ _ _ _ _ _,d⟩
def Vl(X:AX K mg C):FD P w K mg base 1 "_law_head" ["_law_name","_law_names_here","_law_cell"] z0o:=by
 obtain⟨f,fd,F,m⟩:=X.f "_law_head" 24 aB
 have ds:zo ["_law_name","_law_names_here","_law_cell","_law_params","_law_size","_law_k","_law_shape","_law_gives"] ["_law_name","_law_names_here","_law_cell"] (zd (top 24)):=by walk_at "f"
 walk_at "b";refine⟨_,(ze (yj (zw 2 ds.nd (xb (z9 2) (jh zc zc))))
   (ze (yj (zw 3 ds.nd (x5 zb)))
   (ze (yj (zw 4 ds.nd (x5 (za (xb (ka (z9 2) zc) zc) zb))))
   (ze (yj (uu (vn X.T.range (za (x3 zc (xb (ka (z9 2) zc) zc)) zb)) (zn (i:=5) ds.nd rfl aG) (ym 5) (ze (zw 6 ds.nd (zf hu (x5 (za zg (za zg (za zg zb)))) (xb (ka (z9 2) (zf hu (x5 (za zc (za zc (za zc zb)))) (z9 5))) zc)))
    (ze (wv 3 (zh (za (zf hu (z9 1) (z9 5)) (za (z9 6) zb))))
    (zm (wv 4 (Zh (Vq X.T.int (za (z1y hu (z9 6) zg) zb)) (xb (ka (z9 2) (zf hu (x5 (za zc (za zc (za zc zb)))) (z9 5))) zc))))))))
   (ze (yj (zw 7 ds.nd (zf hu (x5 (za zg (za zg (za zg zb)))) (xb (z9 2) zc))))
   (ze (yj (xn (xy hu (z9 7) zg) (zm (vj 4 (rn (T:=["_law_part"]) (F:=[]) (js:=[]) 4 ds.nd (xo (z9 4)) (show y0 (zd (top 24)) _ _ _ from by walk_at "c") .nil aB (by walk_at "t") (yi aB) (ym 0) (λcl C fp s H=>wg) (λcl C fp s H=>zc)))) yr))
   (zm (yb (zh (za (z9 0) (za (wk X.T.tuple (za (z9 3) zb)) (za (zh (za (z9 7) (za (wk X.T.tuple (za (z9 4) zb)) zb))) zb)))))))))))),?_⟩
 obtain⟨a,b,c,rfl,f,zs,k,rfl,rfl,lz,rfl,h⟩:=z1w hT;refine yx (λU=>∃c:Int,U=[q_ (.str f),q_ (.lst (zs.map D.str)),q_ (.int c),none,none,none,none,none]) ⟨⟨by decide,by decide,by decide⟩,(show(10 ^ 9:Int)≠0 by decide),zaA,_,rfl⟩ ?_
 rintro _ ⟨c,rfl⟩;refine yx (λU=>U=[q_ (.str f),q_ (.lst (zs.map D.str)),q_ (.int c),Q_ (.lst []),none,none,none,none]) ⟨rfl,rfl,zaA,rfl⟩ ?_;rintro _ rfl;refine yx (λU=>U=[q_ (.str f),q_ (.lst (zs.map D.str)),q_ (.int c),Q_ (.lst []),Q_ (.lst [.int ((c.fdiv 81).fmod 4)]),none,none,none]) ⟨fdl,(show(4:Int)≠0 by decide),rfl,rfl,zaA,rfl⟩ ?_
 rintro _ rfl;refine yx (λU=>∃ks sz a b,1<=ks.length/\HI f zs c ks.length ks sz a b U) ?_ ?_
 ·obtain⟨n,n1,n3,en⟩:∃n:Nat,1<=n/\n<=3/\(1+(c.fdiv 7).fmod 3:Int)=n:=by
   rcases Mo (c.fdiv 7) with z|z|z <;> rw[z]
   ·exact⟨1,by decide,by decide,rfl⟩
   ·exact⟨2,by decide,by decide,rfl⟩
   exact⟨3,by decide,by decide,rfl⟩
  refine vd (rngD 0 n) (λG j=>?_) (λi U=>∃ks sz a b,HI f zs c i ks sz a b U) ⟨[],[(c.fdiv 81).fmod 4],_,_,rfl,by decide,(λ_ h=>nomatch h),rfl,by rw[zcY];rfl⟩ ?_ ?_
  ·exact⟨fdl,ne_3,(show -(2 ^ 62)<=(1+(c.fdiv 7).fmod 3:Int) by lia),(show(1+(c.fdiv 7).fmod 3:Int)<2 ^ 62 by lia),(show G (rngD 0 (1+(c.fdiv 7).fmod 3:Int).toNat) by rw[en];exact j)⟩
  ·rintro i d _ N ⟨ks,sz,a,b,rfl,es,l,I,rfl⟩;obtain⟨hi,rfl⟩:=tw N;have u:ks.length<3:=by lia
   obtain⟨m,fm,em⟩:=at3 (P:=λm=>∀c,FdOk c m) u (x:=3) (y:=9) (z:=27) (λc=>fdl) (λc=>fdl) (λc=>fdl);obtain⟨R,v,B⟩:=at3 (P:=λm=>∀c,FdOk c m) u (x:=324) (y:=972) (z:=2916) (λc=>fdl) (λc=>fdl) (λc=>fdl);obtain⟨s,W,J⟩:=pk3 (c.fdiv m);rw[zfM];refine cg (yk ⟨rfl,rfl,rfl,rfl,?_⟩)
   dsimp only [dTup,w6,aNil,d2,u4,dC,slot,setS,dv,EV.sto]
   refine yz em ⟨fm c,ne_3,?_⟩
   dsimp only [dTup,w6,aNil,d2,u4,dC,slot,setS,dv,EV.sto]
   refine yz J ⟨zaA,?_⟩;refine yk (tj rfl ?_);have L:ks.length<zs.length:=by lia
   have Z:atI (zs.map D.str) (ks.length:Int)=some (.str zs[ks.length]):=wz aD (by rw[zai,zbD,zaf L];rfl)
   dsimp only [dTup,w6,aNil,d2,u4,dC,slot,setS,dv,EV.sto]
   refine yz Z ⟨rfl,rfl,zaA,?_,?_⟩
   ·rw[zLm];have:=zbG (l₁:=zs) (l₂:=ks);lia
   refine tj rfl ⟨zaI yt,zaI yt,rfl,rfl,?_⟩
   dsimp only [dTup,w6,aNil,d2,u4,dC,slot,setS,dv,EV.sto]
   refine yz B ⟨v c,ne_3,zfP (by show intBits (if (!eqD (.str s) (.str "num"))=true then(1:Int) else 0)<=64;split <;> decide),zaA,by rw[zLm];lia,ks++[s],sz++[(if (!eqD (.str s) (.str "num"))=true then 1 else 0)*(c.fdiv R).fmod 3],q_ (.int ks.length),q_ (.str s),by rw[zLa];rfl,u,λk r=>?_,by rw[zLa,I];rfl,?_⟩
   ·rcases zas.mp r with r|r
    ·exact l k r
    rw[zaE.mp r];exact W
   rw[Vy L,zMa,zMa];rfl
  rintro _ ⟨ks,sz,a,b,e,q⟩;rw[tm1]at e q;rw[<- e]at q;exact⟨ks,sz,a,b,by lia,rfl,q⟩
 rintro _ ⟨ks,sz,a,b,V,_,es,l,I,rfl⟩;obtain⟨g,Y,eg⟩:=pk3 c;refine yx (λU=>U=[q_ (.str f),q_ (.lst (zs.map D.str)),q_ (.int c),Q_ (.lst ((zs.zip ks).map prD)),Q_ (.lst (sz.map D.int)),a,b,q_ (.str g)]) ⟨rfl,rfl,ne_3,yz eg ⟨zaA,rfl⟩⟩ ?_;rintro _ rfl;refine yx (λU=>∃sz:List Int,sz.length<=4/\U=[q_ (.str f),q_ (.lst (zs.map D.str)),q_ (.int c),Q_ (.lst ((zs.zip ks).map prD)),Q_ (.lst (sz.map D.int)),a,b,q_ (.str g)]) ?_ ?_
 ·refine Wu (Q:=True) (λG j=>⟨zaI yt,zaI yt,j _ λ_=>trivial⟩) (λ_=>?_) ⟨sz,by lia,rfl⟩
  refine je (kq ?_);refine xx (sz.map D.int) (λG j=>?_) (λ_=>some (.int 0)) (by rw[zLm];lia) (λd N=>?_) ?_
  ·exact⟨zaA,j⟩
  ·exact⟨λ_=>⟨zaA,rfl⟩,λz=>nomatch z⟩
  exact⟨zaA,List.replicate sz.length 0,by rw[zbU];lia,by rw[fm0];rfl⟩
 rintro _ ⟨sz,O,rfl⟩;exact⟨rfl,rfl,rfl,rfl,d8 ⟨f,zs.zip ks,g,sz⟩,h ⟨f,zs.zip ks,g,sz⟩ rfl ⟨ks,rfl,V,es,l,Y,O⟩⟩
noncomputable def sg1(a:List Hd):Sig:=a.map λh=>(h.nm,h.ps.map Prod.snd,h.sh)
theorem Nm:∀{hs:List Hd}{h:Hd},(hs.map Hd.nm).Nodup->h∈hs->sigL (sg1 hs) h.nm=some (h.ps.map Prod.snd,h.sh)
 |g::hs,h,a,m=>by
  have a:=zaQ.mp a;show(if g.nm=h.nm then _ else sigL (sg1 hs) h.nm)=_
  rcases zam.mp m with rfl|m
  ·exact zaK rfl
  rw[zaJ λe=>a.1 (by rw[e];exact zah.mpr ⟨h,m,rfl⟩)]
  exact Nm a.2 m
theorem Of{z s:Str}:∀{env:Env},(env.map Prod.fst).Nodup->(z,s)∈env->envL env z=some s
 |p::r,a,m=>by
  have a:=zaQ.mp a;show(if p.1=z then _ else envL r z)=_
  rcases zam.mp m with rfl|m
  ·exact zaK rfl
  rw[zaJ λe=>a.1 (by rw[e];exact zah.mpr ⟨_,m,rfl⟩)]
  exact Of a.2 m
structure HsOk(hs:List Hd):Prop where
 nd:(hs.map Hd.nm).Nodup
 ok:∀h∈hs,1<=h.ps.length/\h.ps.length<=3/\(∀p∈h.ps,IsSh p.2)/\IsSh h.sh
 ln:hs.length<=100
noncomputable def stD(cs:List Int)(zs:List Str)(a:List Hd):D:=.sx [.lst (cs.map D.int),.lst (zs.map D.str),.lst (a.map hdD)]
noncomputable def bnd:Nat->Nat
 |0=>1
 |n+1=>3*bnd n+1
def tEx:Nat->FT
 |0=>λ_ _=>False
 |n+1=>λS M=>∃(cs:List Int)(zs:List Str)(hs:List Hd)(env:Env)(s:Str),S=[stD cs zs hs,.lst (env.map prD),.int (3-n),.str s]/\HsOk hs/\(env.map Prod.fst).Nodup/\env.length<=100/\n<=3/\IsSh s/\∀e k,Et (sg1 hs) env e s k->k<=bnd n->M (dv e)
def eqs{a b:Str}(h:eqD (.str a) (.str b)=true):a=b:=by
 rw[Yq]at h;exact eq_of_beq h
def eqn{a b:Str}(h:eqD (.str a) (.str b)=false):a≠b:=λe=>by
 rw[Yq,e]at h;exact absurd (beq_self_eq_true b) (by rw[h];decide)
def da{α:Type}{f:α->D}{E:List α}(h:E≠[])(c:Int):((E.map f).length:Int)≠0/\∃x∈E,atI (E.map f) (c.fmod (E.map f).length)=some (f x):=by
 have hl:0<E.length:=List.length_pos_iff.mpr h;have e:((E.map f).length:Int)=E.length:=by rw[zLm]
 rw[e];have a:=zbJ c (show(0:Int)<E.length by lia)
 have d:=zdH c (show(0:Int)<E.length by lia)
 have hi:(c.fmod (E.length:Int)).toNat<E.length:=by lia
 refine⟨by lia,E[(c.fmod (E.length:Int)).toNat],zeH hi,wz a ?_⟩
 rw[zai,zaf hi];rfl
def MO(s o:Str)(ks:List Str):Prop:=(s = "num"/\(o = "add"\/o = "sub")/\ks=[("num" : Str),"num"])\/(s = "list"/\o = "cons"/\ks=[("num" : Str),"list"])\/(s = "tree"/\o = "node"/\ks=[("tree" : Str),"num","tree"])
theorem Ets.snoc{fs:Sig}{g:Env}{e:D}{s:Str}{n:Nat}(h:Et fs g e s n):∀{J:List D}{ss:List Str}{m:Nat},Ets fs g J ss m->Ets fs g (J++[e]) (ss++[s]) (m+n)
 |_,_,_,.nil=>by rw[Nat.zero_add];exact .cons h .nil
 |_,_,_,.cons a t=>by rw[Nat.add_assoc];exact .cons a (t.snoc h)
def z1i{fs:Sig}{g:Env}{s o:Str}{ks:List Str}{J:List D}{m:Nat}(h:MO s o ks)(d:Ets fs g J ks m):Et fs g (.tup (.str o::J)) s (m+1):=by
 rcases h with⟨rfl,ho,rfl⟩|⟨rfl,rfl,rfl⟩|⟨rfl,rfl,rfl⟩
 ·obtain⟨⟩|⟨a,⟨⟩|⟨b,⟨⟩⟩⟩:=d
  exact .sum ho a b
 ·obtain⟨⟩|⟨a,⟨⟩|⟨b,⟨⟩⟩⟩:=d
  exact .cons a b
 obtain⟨⟩|⟨a,⟨⟩|⟨b,⟨⟩|⟨c,⟨⟩⟩⟩⟩:=d
 exact .node a b c
def Cv(c:Int):c.fmod 2=0\/c.fmod 2=1:=by
 have:=zbJ c (show(0:Int)<2 by decide)
 have:=zdH c (show(0:Int)<2 by decide)
 lia
def MK(s:Str)(ks:List Str):Prop:=(s = "num"/\ks=[("num" : Str),"num"])\/(s = "list"/\ks=[("num" : Str),"list"])\/(s = "tree"/\ks=[("tree" : Str),"num","tree"])
def Ur{s o:Str}{ks:List Str}(h:MO s o ks):2<=ks.length/\ks.length<=3/\∀k∈ks,IsSh k:=by
 rcases h with⟨_,_,rfl⟩|⟨_,_,rfl⟩|⟨_,_,rfl⟩
 ·exact⟨by decide,by decide,λk a=>by rcases zam.mp a with rfl|a;exact .inl rfl;rw[zaE.mp a];exact .inl rfl⟩
 ·exact⟨by decide,by decide,λk a=>by rcases zam.mp a with rfl|a;exact .inl rfl;rw[zaE.mp a];exact .inr (.inl rfl)⟩
 exact⟨by decide,by decide,λk a=>by rcases zam.mp a with rfl|a;exact .inr (.inr rfl);rcases zam.mp a with rfl|a;exact .inl rfl;rw[zaE.mp a];exact .inr (.inr rfl)⟩
def at2(c:Int):∃o:Str,(o = "add"\/o = "sub")/\atI [D.str "add",.str "sub"] (c.fmod 2)=some (.str o):=by
 rcases Cv c with z|z <;> rw[z]
 ·exact⟨"add",.inl rfl,rfl⟩
 exact⟨"sub",.inr rfl,rfl⟩
def Yu:∀n,1<=bnd n
 |0=>zaj _
 |n+1=>Nat.le_add_left ..
def Zr{t:TD}{U:DE}{M:EV->Prop}(h:t U λr=>sTupC [r.d] M):dCB sTupC (w6 t aNil) U M:=h
def EP2(d:List Hd)(env:Env)(m:Nat)(a:List Str)(i:Nat)(J:List D):Prop:=∃k,Ets (sg1 d) env J (a.take i) k/\k<=i*bnd m
def EP2.add{j:List Hd}{env:Env}{m i:Nat}{d:List Str}{J:List D}{e:D}{s:Str}{k:Nat}(h:EP2 j env m d i J)(g:d[i]?=some s)(l:Et (sg1 j) env e s k)(q:k<=bnd m):EP2 j env m d (i+1) (J++[e]):=by
 obtain⟨n,a,b⟩:=h;refine⟨n+k,?_,by rw[Nat.succ_mul];lia⟩
 rw[zcU,g];exact a.snoc l
def EP2.all{e:List Hd}{env:Env}{m:Nat}{d:List Str}{J:List D}(h:EP2 e env m d d.length J)(l:d.length<=3):∃k,Ets (sg1 e) env J d k/\k+1<=bnd (m+1):=by
 obtain⟨n,a,b⟩:=h;rw[zdS]at a;exact⟨n,a,Nat.succ_le_succ (zak b (Nat.mul_le_mul_right _ l))⟩
def SW(env:Env)(s:Str)(J:List D):Prop:=∃ws:List Str,J=ws.map D.str/\∀z∈ws,envL env z=some s
def SH(a:List Hd)(s:Str)(J:List D):Prop:=∃ks:List Hd,J=ks.map hdD/\∀h∈ks,h∈a/\h.sh=s
def qr{α:Type}{t u:TDS}{U:DE}{Z:DZ}(i:Nat)(f:α->EV)(P:α->Prop)(h1:t U {Z with nx:=λr=>∃ a,P a/\r=setS U i (f a)})(h2:∀ a,P a->u (setS U i (f a)) Z):sSeq (sCut t) u U Z:=⟨_,h1,λ_ ⟨a,p,e⟩=>e▸h2 a p⟩
def if_r{tc:TDb}{t1 u:TDS}{U:DE}{Z:DZ}(b:Bool)(h:∀ G:Bool->Prop,G b->tc U G)(h1:b=true->t1 U {Z with nx:=λr=>u r Z})(h2:b=false->u U Z):sSeq (sIf tc t1 sNil) u U Z:=h _ ⟨h1,h2⟩
def Ps{tc:TDb}{t1 u:TDS}{U:DE}{Z:DZ}{Q:Prop}(h:∀ G:Bool->Prop,(∀ b,(b=true->Q)->G b)->tc U G)(h1:Q->t1 U {Z with nx:=λr=>u r Z})(h2:u U Z):sSeq (sIf tc t1 sNil) u U Z:=h _ λ_ q=>⟨λz=>h1 (q z),λ_=>h2⟩
def dm(m:Nat):(3:Int)-((m+1:Nat):Int)+1=3-m:=by lia
def jy{n:Nat}(X:AX K mg C)(N:FD P w K mg base (n+2) "_law_expression" pA (tEx n)):FD P w K mg base (n+3) "_law_expression" pA (tEx (n+1)):=by
 obtain⟨f,fd,F,m⟩:=X.f "_law_expression" 26 aB
 have ds:zo ["_law_state","_law_scope","_law_deep","_law_shape","_law_cell","_law_way","_law_some","_law_heads","_law_head_here","_law_kinds","_law_word"] pA (zd (top 26)):=by walk_at "f"
 walk_at "b";refine⟨_,(ze (zw 4 ds.nd (zy (ck X) hr.d (za (z9 0) zb)))
   (ze (yj (zw 5 ds.nd (xb (z9 4) zc)))
   (ze (yj (zw 4 ds.nd (ka (z9 4) zc)))
   (ze (yj (uc (T:=["_law_name","_law_kind"]) (F:=["_law_shape"]) (js:=[3]) 6 ds.nd (xo (z9 1)) (show y0 (zd (top 26)) _ _ _ from by walk_at "c") (.cons rfl .nil) aB (by walk_at "t") (ca (wx xf (k7 xf ur) (yi aB) (wx xf ur (yi aB) cf))) (rg 0 1) (λcl C fp s H=>(k9 (xy hu (z9 1) (z9 2)))) (λcl C fp s H=>(z9 0))))
   (ze (yj (uc (T:=["_law_head_here"]) (F:=["_law_shape"]) (js:=[3]) 7 ds.nd (xo (Jm 0 3)) (show y0 (zd (top 26)) _ _ _ from by walk_at "c") (.cons rfl .nil) aB (by walk_at "t") (yi aB) (ym 0) (λcl C fp s H=>(k9 (xy hu (zf hu (zf hu (z9 0) zc) zc) (z9 1)))) (λcl C fp s H=>(z9 0))))
   (ze (xn (EW.et (jg (Sw (z9 2) zc) (jg (xy hu (z9 5) zc) (rh (Sy (yo X.T.len (za (z9 7) zb)) zc))))) (ze (zw 8 ds.nd (zf hu (z9 7) (xb (z9 4) (yo X.T.len (za (z9 7) zb)))))
    (zm (yb (zh (za zg (za (zf hu (z9 8) zc) (za (wk X.T.tuple (za (jk (T:=["_law_name","_law_kind"]) (F:=["_law_state","_law_scope","_law_deep"]) (js:=[0,1,2]) (xo (zf hu (z9 8) zc)) (show y0 (zd (top 26)) _ _ _ from by walk_at "c") (.cons rfl (.cons rfl (.cons rfl .nil))) aB (by walk_at "t") (ca (wx xf (k7 xf ur) (yi aB) (wx xf ur (yi aB) cf))) (rg 0 1) (λcl C fp s H=>wg) (λcl C fp s H=>(zy N hr.d (za (z9 2) (za (z9 3) (za (x3 (z9 4) zc) (za (z9 1) zb))))))) zb)) zb))))))) yr)
   (ze (xn (EW.et (jg (Sw (z9 2) zc) (rh (Lr hu (z9 5) (zh (za zc (za zc zb))))))) (ze (yj (zw 9 ds.nd (Jn hu zg (x5 (za zg (za zg zb))) zg (x5 (za zg (za zg zb))) zg (x5 (za zg (za zg (za zg zb)))) (z9 3))))
    (ze (yj (zw 10 ds.nd (Jn hu zg (zf hu (x5 (za zg (za zg zb))) (xb (z9 4) zc)) zg zg zg zg (z9 3))))
    (zm (vj 9 (yb (x3 (zh (za (z9 10) zb)) (wk X.T.tuple (za (jk (T:=["_law_kind"]) (F:=["_law_state","_law_scope","_law_deep"]) (js:=[0,1,2]) (xo (z9 9)) (show y0 (zd (top 26)) _ _ _ from by walk_at "c") (.cons rfl (.cons rfl (.cons rfl .nil))) aB (by walk_at "t") (yi aB) (ym 0) (λcl C fp s H=>wg) (λcl C fp s H=>(zy N hr.d (za (z9 1) (za (z9 2) (za (x3 (z9 3) zc) (za (z9 0) zb))))))) zb)))))))) yr)
   (ze (xn (EW.et (jg (Yn hu (z9 5) zc) (rh (Sy (yo X.T.len (za (z9 6) zb)) zc)))) (zm (yb (zh (za zg (za (zf hu (z9 6) (xb (z9 4) (yo X.T.len (za (z9 6) zb)))) zb))))) yr)
   (ze (xn (xy hu (z9 3) zg) (zm (yb (zh (za zg (za (Zh (ka (z9 4) zc) (Ta zc (Zh zc (xb (z9 4) zc)))) zb))))) yr)
   (zm (yb (zf hu (x5 (za (zh (za zg zb)) (za (zh (za zg zb)) zb))) (Vq X.T.int (za (Ak hu (z9 3) zg) zb)))))))))))))),?_⟩
 obtain⟨cs,zs,v,env,s,rfl,O,nd,le,n3,V,h⟩:=hT;refine⟨rfl,cs,_,rfl,λc c0=>⟨zaA,qr 5 (λw:Int=>dv (.int w)) (λ_=>True) ⟨ne_5,zaA,_,zaA,rfl⟩ λw _=>qr 4 (λc:Int=>dv (.int c)) (λ_=>True) ⟨fdl,zaA,_,zaA,rfl⟩ λc _=>?_⟩⟩;refine qr 6 (λj:List Str=>dO (.lst (j.map D.str))) (λj=>∀z∈j,envL env z=some s) (wl (env.map prD) (λG a=>⟨zaA,a⟩) (λi J=>SW env s J) (by rw[zLm];lia) ⟨[],rfl,λ_ h=>nomatch h⟩ ?_ λ_ ⟨j,e,u⟩=>⟨zaA,j,u,zbP (λl=>setS _ 6 (dO (.lst l))) e⟩) λj u=>?_
 ·rintro i d J I hl ⟨j,rfl,u⟩;obtain⟨p,B,rfl⟩:=zah.mp (zan I);refine⟨zaI yt,zaI yt,λz=>⟨zaA,j++[p.1],by rw[zMa];rfl,λy r=>?_⟩,λ_=>⟨j,rfl,u⟩⟩
  rcases zas.mp r with r|r
  ·exact u y r
  rw[zaE.mp r];exact Of nd (eqs z▸B)
 refine qr 7 (λks:List Hd=>dO (.lst (ks.map hdD))) (λks=>∀h∈ks,h∈v/\h.sh=s) (wl (v.map hdD) (λG a=>⟨zaA,a⟩) (λi J=>SH v s J) (by rw[zLm];have:=O.ln;lia) ⟨[],rfl,λ_ h=>nomatch h⟩ ?_ λ_ ⟨ks,e,u⟩=>⟨zaA,ks,u,zbP (λl=>setS _ 7 (dO (.lst l))) e⟩) λks W=>?_
 ·rintro i d J I hl ⟨ks,rfl,u⟩;obtain⟨p,B,rfl⟩:=zah.mp (zan I);refine⟨zaI yt,zaI yt,λz=>⟨zaA,ks++[p],by rw[zMa];rfl,λy r=>?_⟩,λ_=>⟨ks,rfl,u⟩⟩
  rcases zas.mp r with r|r
  ·exact u y r
  rw[zaE.mp r];exact⟨B,eqs z⟩
 refine wq (ρ':=[q_ (stD cs zs v),q_ (.lst (env.map prD)),q_ (.int (3-n)),q_ (.str s),q_ (.int c),q_ (.int w),Q_ (.lst (j.map D.str)),Q_ (.lst (ks.map hdD)),none,none,none]) rfl ?_;refine Ps (Q:=1<=n/\ks≠[]) (λG a=>⟨λz=>⟨zaI (ye ..),zaI (ye ..),λ_=>a _ λy=>⟨by have:=zbN z;lia,λe=>by rw[e]at y;exact absurd y aB⟩,λ_=>a false λy=>nomatch y⟩,λ_=>a false λy=>nomatch y⟩) (λq=>?_) ?_
 ·obtain⟨m,rfl⟩:∃m,n=m+1:=⟨n-1,by lia⟩
  obtain⟨l0,x,Z,ex⟩:=da (f:=hdD) q.2 c;obtain⟨x1,x2⟩:=W x Z;have ox:=O.ok x x1;refine⟨l0,yz ex ⟨zaA,?_⟩⟩
  dsimp only [sRet,dTup,w6,d2,dC,u4,slot,setS,EV.sto,dv]
  refine qo (S:=hdL x) rfl ?_;refine(show dCB sTupC _ _ _ from Zr (wl (x.ps.map prD) (λG a=>⟨zaA,a⟩) (λi J=>EP2 v env m (x.ps.map Prod.snd) i J) (by rw[zLm];lia) ⟨0,.nil,zcB _⟩ ?_ ?_))
  ·rintro i d J I hl g;rw[zai]at I;obtain⟨p,B,rfl⟩:=zar.mp I;exact⟨λ_=>⟨rfl,cs,zs,v,env,p.2,zbP (λt=>[stD cs zs v,D.lst (env.map prD),D.int t,D.str p.2]) (dm m),O,nd,le,by lia,ox.2.2.1 p (zan B),λe k' L es=>⟨zaA,g.add (by rw[zai,B];rfl) L es⟩⟩,λz=>nomatch z⟩
  intro J g;rw[show(x.ps.map prD).length=(x.ps.map Prod.snd).length by rw[zLm,zLm]]at g
  obtain⟨k,g,W⟩:=g.all (by rw[zLm];lia)
  exact⟨rfl,rfl,⟨zaA,zaA,g.pure,zaA⟩,h _ _ (x2▸.call (Nm O.nd x1) g) W⟩
 refine Ps (Q:=1<=n) (λG a=>⟨λz=>⟨rfl,rfl,rfl,rfl,a _ λ_=>by have:=zbN z;lia⟩,λ_=>a false λy=>nomatch y⟩) (λq=>?_) ?_
 ·obtain⟨m,rfl⟩:∃m,n=m+1:=⟨n-1,by lia⟩
  refine qr 9 (λR:List Str=>dO (.lst (R.map D.str))) (MK s) ⟨rfl,rfl,rfl,rfl,rfl,rfl,"num","list","tree",rfl,rfl,rfl,by decide,by decide,by decide,.inr ⟨["num","num"],rfl⟩,.inr ⟨["num","list"],rfl⟩,.inr ⟨["tree","num","tree"],rfl⟩,s,rfl,?_⟩ λR mk=>?_
  ·rcases V with e|e|e
   ·exact .inl ⟨e,zaA,["num","num"],.inl ⟨e,rfl⟩,rfl⟩
   ·exact .inr (.inl ⟨e,zaA,["num","list"],.inr (.inl ⟨e,rfl⟩),rfl⟩)
   exact .inr (.inr ⟨e,zaA,["tree","num","tree"],.inr (.inr ⟨e,rfl⟩),rfl⟩)
  obtain⟨o2,ho,ea⟩:=at2 c;refine qr 10 (λo=>dv (.str o)) (λo=>MO s o R) ⟨rfl,rfl,ne_2,yz ea ⟨"num","list","tree",rfl,rfl,rfl,by decide,by decide,by decide,.inl ⟨_,rfl⟩,.inl ⟨_,rfl⟩,.inl ⟨_,rfl⟩,s,rfl,?_⟩⟩ λo mo=>?_
  ·rcases mk with⟨e,rfl⟩|⟨e,rfl⟩|⟨e,rfl⟩
   ·exact .inl ⟨e,zaA,o2,.inl ⟨e,ho,rfl⟩,rfl⟩
   ·exact .inr (.inl ⟨e,zaA,"cons",.inr (.inl ⟨e,rfl,rfl⟩),rfl⟩)
   exact .inr (.inr ⟨e,zaA,"node",.inr (.inr ⟨e,rfl,rfl⟩),rfl⟩)
  obtain⟨m2,m3,Y⟩:=Ur mo;refine je ⟨rfl,rfl,(show dCB sTupC _ _ _ from Zr (wl (R.map D.str) (λG a=>⟨zaA,a⟩) (λi J=>EP2 v env m R i J) (by rw[zLm];lia) ⟨0,.nil,zcB _⟩ ?_ ?_))⟩
  ·rintro i d J I hl g;rw[zai]at I;obtain⟨p,B,rfl⟩:=zar.mp I;exact⟨λ_=>⟨rfl,cs,zs,v,env,p,zbP (λt=>[stD cs zs v,D.lst (env.map prD),D.int t,D.str p]) (dm m),O,nd,le,by lia,Y p (zan B),λe k' L es=>⟨zaA,g.add B L es⟩⟩,λz=>nomatch z⟩
  intro J g;rw[zLm]at g;obtain⟨k,g,W⟩:=g.all m3;have el:=g.len;exact⟨zbZ _ _,λz=>(by rw[z]at el;exact absurd el (by rw[zLn];lia)),ww (Nat.ble_eq.mpr (by show 1+J.length<=1000;lia)),⟨zaA,g.pure⟩,h _ _ (z1i mo g) W⟩
 refine Ps (Q:=j≠[]) (λG a=>⟨zaI (ye ..),zaI (ye ..),λ_=>a _ λy e=>by rw[e]at y;exact absurd y aB,λ_=>a false λy=>nomatch y⟩) (λq=>?_) ?_
 ·obtain⟨l0,x,Z,ex⟩:=da (f:=D.str) q c;refine⟨l0,?_⟩
  dsimp only [dTup,w6,aNil,d2,u4,dC,slot,setS,dv,EV.sto]
  exact yz ex ⟨rfl,rfl,⟨zaA,zaA,zaA⟩,h _ 1 (.var (u x Z)) (Yu n)⟩
 refine if_r (eqD (.str s) (.str "num")) (λG a=>⟨zaI yt,zaI yt,a⟩) (λz=>?_) λz=>?_
 ·have e:=eqs z;subst e;exact⟨fdl,ne_2,zfP aB,IntMulOk.of_right (by show intBits (1-2*c.fmod 2)<=64;rcases Cv c with e|e <;> rw[e] <;> decide),rfl,rfl,⟨zaA,zaA,zaA⟩,h _ 1 (.num _) (Yu n)⟩
 rcases V with e|e|e
 ·exact absurd e (eqn z)
 ·subst e;exact⟨rfl,rfl,rfl,rfl,rfl,rfl,zaI yt,zaI yt,⟨zaA,zaA⟩,h _ 1 .nil (Yu n)⟩
 subst e;exact⟨rfl,rfl,rfl,rfl,rfl,rfl,zaI yt,zaI yt,⟨zaA,zaA⟩,h _ 1 .leaf (Yu n)⟩
theorem cq(X:AX K mg C):∀n:Nat,FD P w K mg base (n+2) "_law_expression" pA (tEx n)
 |0=>by
  obtain⟨f,fd,F,m⟩:=X.f "_law_expression" 26 aB
  have ds:zo ["_law_state","_law_scope","_law_deep","_law_shape","_law_cell","_law_way","_law_some","_law_heads","_law_head_here","_law_kinds","_law_word"] pA (zd (top 26)):=by walk_at "f"
  exact ve F ds (F.binds (by walk_at "3")) m λqZ A outer s H xs S M hr hl hT=>hT.elim
 |n+1=>jy X (cq X n)
theorem Wm:∀(zs ks:List Str),ks.length<=zs.length->(zs.zip ks).map Prod.fst=zs.take ks.length
 |_,[],_=>by rw[zcY];rfl
 |z::zs,k::ks,h=>by rw[zaL,zaB,Wm zs ks (Nat.le_of_succ_le_succ h)];rfl
def jn{α:Type}(f:α->D)(E:List α)(n:Nat):ZZ.cutD (E.map f) (some (n:Int)) none=(E.drop n).map f:=by
 rw[Ox,<- List.map_drop]
def eqi{a b:Int}(h:eqD (.int a) (.int b)=true):a=b:=by
 rw[g0]at h;simpa using h
def Cw{s:Str}{ks:List Str}(h:MK s ks):2<=ks.length/\ks.length<=3/\∀k∈ks,IsSh k:=by
 rcases h with⟨e,f⟩|⟨e,f⟩|⟨e,f⟩
 ·exact Ur (o:="add") (.inl ⟨e,.inl rfl,f⟩)
 ·exact Ur (.inr (.inl ⟨e,rfl,f⟩))
 exact Ur (.inr (.inr ⟨e,rfl,f⟩))
def Hb{t1 t2 e d:TD}{U:DE}{M:EV->Prop}{g bs:List D}{i:Int}{a b:D}(k:atI g i=some a)(j:atI bs i=some b)(h1:∀ G:EV->Prop,G (dv (.lst g))->t1 U G)(h2:∀ G:EV->Prop,G (dv (.int i))->e U G)(q:∀ G:EV->Prop,G (dv (.lst bs))->t2 U G)(l:∀ G:EV->Prop,G (dv (.int i))->d U G)(p:M (dv (.tup [a,b]))):dTup (w6 (d2 sIxx t1 e) (w6 (d2 sIxx t2 d) aNil)) U M:=h1 _ (h2 _ (yz k (q _ (l _ (yz j ⟨rfl,rfl,p⟩)))))
structure NE(zs:List Str)(n:Nat)(env:Env):Prop where
 nd:zs.Nodup
 nm:env.map Prod.fst=zs.take env.length
 ln:env.length+3*n+3<=zs.length
 hi:zs.length<=50
 sh:∀p∈env,IsSh p.2
def NE.nodup{zs:List Str}{n:Nat}{env:Env}(h:NE zs n env):(env.map Prod.fst).Nodup:=by
 rw[h.nm];exact h.nd.sublist (zeC ..)
def NE.more{zs:List Str}{n:Nat}{env:Env}(h:NE zs (n+1) env){ks:List Str}(g:ks.length<=3)(e:∀ k∈ks,IsSh k):NE zs n (env++(zs.drop env.length).zip ks):=by
 have hl:=h.ln;have d:((zs.drop env.length).zip ks).length=ks.length:=by rw[zbG,zcE];lia
 refine⟨h.nd,?_,by rw[zLa,d];lia,h.hi,λp a=>?_⟩
 ·rw[zMa,h.nm,zLa,d,List.take_add,Wm _ _ (by rw[zcE];lia)]
 rcases zas.mp a with a|a
 ·exact h.sh p a
 exact e _ (zdY a).2
def NE.down{zs:List Str}{n:Nat}{env:Env}(h:NE zs (n+1) env):NE zs n env:=⟨h.nd,h.nm,by have:=h.ln;lia,h.hi,h.sh⟩
def NE.three{zs:List Str}{n:Nat}{env:Env}(h:NE zs n env):∃a b c r,zs.drop env.length=a::b::c::r:=by
 have hl:=h.ln;have:3<=(zs.drop env.length).length:=by rw[zcE];lia
 match zs.drop env.length,this with
 |a::b::c::r,_=>exact⟨a,b,c,r,rfl⟩
def tBd:Nat->FT
 |0=>λ_ _=>False
 |n+1=>λS M=>∃(cs:List Int)(zs:List Str)(hs:List Hd)(env:Env)(s:Str),S=[stD cs zs hs,.lst (env.map prD),.int (4-n),.str s]/\HsOk hs/\NE zs n env/\n<=4/\IsSh s/\∀b,Bt (sg1 hs) env b s->M (dv b)
def SM(env:Env)(J:List D):Prop:=∃ms:List (Str×Str),J=ms.map prD/\∀p∈ms,p∈env/\p.2≠"num"
def cutv{t u:TDS}{U:DE}{Z:DZ}(i:Nat)(v:EV)(h1:t U {Z with nx:=λr=>r=setS U i v})(h2:u (setS U i v) Z):sSeq (sCut t) u U Z:=⟨_,h1,λ_ e=>e▸h2⟩
def z2d{t u:TDS}{U:DE}{Z:DZ}(g:DE->DE)(h1:t U {Z with nx:=λr=>r=g U})(h2:u (g U) Z):sSeq (sCut t) u U Z:=⟨_,h1,λ_ e=>e▸h2⟩
def z1p{tc:TDb}{t1 u:TDS}{U:DE}{Z:DZ}{Q:Prop}(h:∀ G:Bool->Prop,(∀ b,(b=false->Q)->G b)->tc U G)(h1:t1 U {Z with nx:=λr=>u r Z})(h2:Q->u U Z):sSeq (sIf tc t1 sNil) u U Z:=h _ λb q=>⟨λ_=>h1,λz=>h2 (q z)⟩
def dn(m:Nat):(4:Int)-((m+1:Nat):Int)+1=4-m:=by lia
def Vm{n:Nat}(X:AX K mg C)(N:FD P w K mg base (n+7) "_law_body" pA (tBd n)):FD P w K mg base (n+8) "_law_body" pA (tBd (n+1)):=by
 obtain⟨f,fd,F,m⟩:=X.f "_law_body" 27 aB
 have ds:zo ["_law_state","_law_scope","_law_deep","_law_shape","_law_cell","_law_way","_law_names_here","_law_kind","_law_one","_law_other","_law_body_here","_law_some","_law_x","_law_word","_law_kinds","_law_more"] pA (zd (top 27)):=by walk_at "f"
 walk_at "b";refine⟨_,(ze (zw 4 ds.nd (zy (ck X) hr.d (za (z9 0) zb)))
   (ze (yj (zw 5 ds.nd (Zh (xb (z9 4) zc) (Vq X.T.int (za (Ah (z9 2) zc) zb)))))
   (ze (zw 4 ds.nd (ka (z9 4) zc))
   (ze (yj (zw 6 ds.nd (yq (Jm 0 2) (yg (yo X.T.len (za (z9 1) zb))) xk)))
   (ze (xn (xy hu (z9 5) zc) (ze (zw 7 ds.nd (zf hu (x5 (za zg (za zg (za zg zb)))) (xb (z9 4) zc)))
    (ze (zw 8 ds.nd (zy (cq X 4) hr.d (za (z9 0) (za (z9 1) (za zc (za (z9 7) zb))))))
    (zm (yb (zh (za zg (za (zf hu (z9 6) zc) (za (z9 8) (za (zy N hr.d (za (z9 0) (za (x3 (z9 1) (x5 (za (zh (za (zf hu (z9 6) zc) (za (z9 7) zb))) zb))) (za (x3 (z9 2) zc) (za (z9 3) zb))))) zb))))))))) yr)
   (ze (xn (xy hu (z9 5) zc) (ze (zw 8 ds.nd (zy (cq X 4) hr.d (za (z9 0) (za (z9 1) (za zc (za zg zb))))))
    (ze (zw 9 ds.nd (zy (cq X 4) hr.d (za (z9 0) (za (z9 1) (za zc (za zg zb))))))
    (ze (zw 10 ds.nd (zy N hr.d (za (z9 0) (za (z9 1) (za (x3 (z9 2) zc) (za (z9 3) zb))))))
    (zm (yb (zh (za zg (za (z9 8) (za (z9 9) (za (z9 10) (za (zy N hr.d (za (z9 0) (za (z9 1) (za (x3 (z9 2) zc) (za (z9 3) zb))))) zb))))))))))) yr)
   (ze (yj (uc (T:=["_law_name","_law_kind"]) (F:=[]) (js:=[]) 11 ds.nd (xo (z9 1)) (show y0 (zd (top 27)) _ _ _ from by walk_at "c") .nil aB (by walk_at "t") (ca (wx xf (k7 xf ur) (yi aB) (wx xf ur (yi aB) cf))) (rg 0 1) (λcl C fp s H=>(k9 (Yn hu (z9 1) zg))) (λcl C fp s H=>(zh (za (z9 0) (za (z9 1) zb))))))
   (ze (xn (EW.et (ua (Lr hu (z9 5) (zh (za zc (za zc zb)))) (uj (xy hu (yo X.T.len (za (z9 11) zb)) zc)))) (zm (yb (zh (za zg (za (zy (cq X 4) hr.d (za (z9 0) (za (z9 1) (za zc (za (z9 3) zb))))) zb))))) yr)
   (ze (Nr (zf hu (z9 11) (xb (z9 4) (yo X.T.len (za (z9 11) zb)))) (se (K0:=K) (n:=2) (by rfl) (by rfl) (yd (zn (i:=12) ds.nd rfl aG) (yd (zn (i:=13) ds.nd rfl aG) ud))) (rg 12 13))
   (ze (yj (zw 14 ds.nd (Ag hu zg (x5 (za zg (za zg zb))) zg (x5 (za zg (za zg (za zg zb)))) (z9 13))))
   (ze (yj (vj 14 (vj 6 (uc (T:=["_law_k"]) (F:=["_law_names_here","_law_kinds"]) (js:=[6,14]) 15 ds.nd (vn X.T.range (za (yo X.T.len (za (z9 14) zb)) zb)) (show y0 (zd (top 27)) _ _ _ from by walk_at "c") (.cons rfl (.cons rfl .nil)) aB (by walk_at "t") (yi aB) (ym 0) (λcl C fp s H=>wg) (λcl C fp s H=>(zh (za (zf hu (z9 1) (z9 0)) (za (zf hu (z9 2) (z9 0)) zb))))))))
   (ze (zw 10 ds.nd (zy N hr.d (za (z9 0) (za (z9 1) (za (x3 (z9 2) zc) (za (z9 3) zb))))))
   (ze (zw 9 ds.nd (zy N hr.d (za (z9 0) (za (x3 (z9 1) (z9 15)) (za (x3 (z9 2) zc) (za (z9 3) zb))))))
   (zm (vj 15 (yb (x3 (x3 (zh (za (z9 13) (za (z9 12) (za (z9 10) zb)))) (wk X.T.tuple (za (jk (T:=["_law_name","_law_kind"]) (F:=[]) (js:=[]) (xo (z9 15)) (show y0 (zd (top 27)) _ _ _ from by walk_at "c") .nil aB (by walk_at "t") (ca (wx xf (k7 xf ur) (yi aB) (wx xf ur (yi aB) cf))) (rg 0 1) (λcl C fp s H=>wg) (λcl C fp s H=>(z9 0))) zb))) (zh (za (z9 9) zb))))))))))))))))))),?_⟩
 obtain⟨cs,zs,es,env,s,rfl,V,ne,n4,L,h⟩:=hT;obtain⟨g,x,v,u,ez⟩:=ne.three;have B:=zak ne.ln ne.hi;refine⟨rfl,cs,_,rfl,λc c0=>⟨zaA,qr 5 (λw=>dv (.int w)) (λw=>w≠0->1<=n) ⟨ne_6,IntMulOk.of_right (by show intBits (if decide ((4:Int)-n<4)=true then 1 else 0)<=64;split <;> decide),zaA,_,λz=>Nat.not_lt.mp λy=>z ?_,rfl⟩ λw W=>⟨fdl,zaA,?_⟩⟩⟩
 ·have:n=0:=by lia
  subst this;exact Int.mul_zero _
 have e6:=jn D.str zs (env.map prD).length;rw[zLm,ez,<- zLm (f:=prD)]at e6;refine cutv 6 (dO (.lst ((g::x::v::u).map D.str))) ⟨zaA,zbP (λl=>setS _ 6 (dO (.lst l))) e6⟩ ?_;refine if_r (eqD (.int w) (.int 2)) (λG a=>⟨zaI (ye ..),zaI (ye ..),a⟩) (λz=>?_) λ_=>?_
 ·have n1:=W (by rw[eqi z];decide)
  obtain⟨m,rfl⟩:∃m,n=m+1:=⟨n-1,by lia⟩
  obtain⟨kd,a5,ek⟩:=pk3 (c.fdiv 6);have Z:=ne.more (ks:=[kd]) (aB:1<=3) (λj hj=>by rw[zaE.mp hj];exact a5)
  rw[ez,zaL,zcY]at Z;refine⟨rfl,rfl,ne_3,yz ek ⟨zaA,rfl,cs,zs,es,env,kd,rfl,V,ne.nodup,by lia,by decide,a5,λe k Y hk=>⟨zaA,?_⟩⟩⟩
  dsimp only [sRet,dTup,w6,d2,dC,u4,slot,setS,dv,EV.sto]
  refine yz K7 ?_
  dsimp only [w6,u4,Ys,dLst,d2,dTup,dC,slot,dv]
  refine yz K7 ⟨rfl,rfl,rfl,rfl,by rw[zLm];exact ww (Nat.ble_eq.mpr (show env.length+1<=1000 by lia)),rfl,cs,zs,es,env++[(g,kd)],s,?_,V,Z,by lia,L,λb hb=>⟨rfl,rfl,⟨zaA,zaA,Y.pure,hb.pure,zaA⟩,h _ (.bind aD Y (zak hk aB) (by have:=Z.nodup;rwa [zMa]at this) hb)⟩⟩
  rw[zMa];exact zbP (λt=>[stD cs zs es,D.lst (env.map prD++[prD (g,kd)]),D.int t,D.str s]) (dn m)
 refine if_r (eqD (.int w) (.int 3)) (λG a=>⟨zaI (ye ..),zaI (ye ..),a⟩) (λz=>?_) λ_=>?_
 ·have n1:=W (by rw[eqi z];decide)
  obtain⟨m,rfl⟩:∃m,n=m+1:=⟨n-1,by lia⟩
  have eD:=zbP (λt=>[stD cs zs es,D.lst (env.map prD),D.int t,D.str s]) (dn m);exact⟨rfl,cs,zs,es,env,"num",rfl,V,ne.nodup,by lia,by decide,.inl rfl,λe k Y hk=>⟨zaA,rfl,cs,zs,es,env,"num",rfl,V,ne.nodup,by lia,by decide,.inl rfl,λe2 k2 a6 a8=>⟨zaA,rfl,cs,zs,es,env,s,eD,V,ne.down,by lia,L,λb1 I=>⟨zaA,rfl,cs,zs,es,env,s,eD,V,ne.down,by lia,L,λb hb=>⟨rfl,rfl,⟨zaA,Y.pure,a6.pure,I.pure,hb.pure,zaA⟩,h _ (.less Y a6 (zak hk aB) (zak a8 aB) I hb)⟩⟩⟩⟩⟩
 refine qr 11 (λms:List (Str×Str)=>dO (.lst (ms.map prD))) (λms=>∀p∈ms,p∈env/\p.2≠"num") (wl (env.map prD) (λG a=>⟨zaA,a⟩) (λi J=>SM env J) (by rw[zLm];lia) ⟨[],rfl,λ_ h=>nomatch h⟩ ?_ λ_ ⟨ms,e,W⟩=>⟨zaA,ms,W,zbP (λl=>setS _ 11 (dO (.lst l))) e⟩) λms hm=>?_
 ·rintro i d J hd hl ⟨ms,rfl,W⟩;obtain⟨p,hp,rfl⟩:=zah.mp (zan hd);refine⟨zaI yt,zaI yt,λz=>⟨rfl,rfl,zaA,ms++[p],by rw[zMa];rfl,λy hy=>?_⟩,λ_=>⟨ms,rfl,W⟩⟩
  rcases zas.mp hy with hy|hy
  ·exact W y hy
  rw[zaE.mp hy];exact⟨hp,eqn (by simpa using z)⟩
 refine z1p (Q:=w≠0/\ms≠[]) (λG a=>⟨rfl,rfl,rfl,rfl,And.intro (λ_=>a true λy=>nomatch y) (λz=>⟨zaI (ye ..),zaI (ye ..),a _ λy=>⟨λe=>by rw[e]at z;exact absurd z aB,λe=>by rw[e]at y;exact absurd y aB⟩⟩)⟩) ⟨rfl,cs,zs,es,env,s,rfl,V,ne.nodup,by lia,by decide,L,λe k Y hk=>⟨rfl,rfl,⟨zaA,Y.pure,zaA⟩,h _ (.give Y (zak hk aB))⟩⟩ λq=>?_
 have n1:=W q.1;obtain⟨m,rfl⟩:∃m,n=m+1:=⟨n-1,by lia⟩
 have eD:=zbP (λt=>[stD cs zs es,D.lst (env.map prD),D.int t,D.str s]) (dn m);refine wq (ρ':=[q_ (stD cs zs es),q_ (.lst (env.map prD)),q_ (.int (4-(m+1:Nat))),q_ (.str s),q_ (.int (c.fdiv 6)),q_ (.int w),Q_ (.lst ((g::x::v::u).map D.str)),none,none,none,none,Q_ (.lst (ms.map prD)),none,none,none,none]) rfl ?_;obtain⟨l0,p,hp,ep⟩:=da (f:=prD) q.2 (c.fdiv 6);obtain⟨a4,a0⟩:=hm p hp;refine⟨l0,yz ep ⟨zaA,qr 14 (λks:List Str=>dO (.lst (ks.map D.str))) (MK p.2) ⟨rfl,rfl,rfl,rfl,"list","tree",rfl,rfl,by decide,.inr ⟨["num","list"],rfl⟩,.inr ⟨["tree","num","tree"],rfl⟩,p.2,rfl,?_⟩ λks mk=>?_⟩⟩
 ·rcases ne.sh p a4 with e|e|e
  ·exact absurd e a0
  ·exact .inl ⟨e,zaA,["num","list"],.inr (.inl ⟨e,rfl⟩),rfl⟩
  exact .inr ⟨e,zaA,["tree","num","tree"],.inr (.inr ⟨e,rfl⟩),rfl⟩
 obtain⟨m2,m3,a7⟩:=Cw mk;have zl:((g::x::v::u).zip ks).length=ks.length:=by rw[zbG];show min (u.length+3) _=_;lia
 have Z:=ne.more (ks:=ks) m3 a7;rw[ez]at Z;have hx:=Of ne.nodup a4;have O:=Z.nodup;refine z2d (λr=>setS (frzS (frzS r 14) 6) 15 (dO (.lst (((g::x::v::u).zip ks).map prD)))) (je (je (kq (wl (rngD 0 ks.length) (λG a=>?_) (λi J=>J=(((g::x::v::u).zip ks).take i).map prD) (by rw[tm1];lia) rfl ?_ ?_)))) ?_
 ·refine(show -(2 ^ 62)<=(((ks.map D.str).length:Nat):Int)/\(((ks.map D.str).length:Nat):Int)<2 ^ 62/\G (rngD 0 (((ks.map D.str).length:Nat):Int).toNat) from ?_);rw[zLm];exact⟨by lia,by lia,a⟩
 ·rintro i d J hd hl rfl;obtain⟨hi,rfl⟩:=tw hd;have il:i<((g::x::v::u).zip ks).length:=by lia
  have iz:i<(g::x::v::u).length:=by show i<u.length+3;lia
  rw[zfM];refine⟨λ_=>?_,λz=>nomatch z⟩;have en:atI ((g::x::v::u).map D.str) (i:Int)=some (.str (g::x::v::u)[i]):=wz aD (by rw[zai,zbD,zaf iz];rfl)
  have ek:atI (ks.map D.str) (i:Int)=some (.str ks[i]):=wz aD (by rw[zai,zbD,zaf hi];rfl)
  refine Hb en ek aA aA aA aA ⟨zaA,?_⟩;rw[zcU,zaf il,List.getElem_zip,zMa];rfl
 ·rintro _ rfl;rw[tm1,zbS aD]
  exact⟨zaA,rfl⟩
 refine⟨rfl,cs,zs,es,env,s,eD,V,ne.down,by lia,L,λb1 I=>⟨zaA,by rw[zLm,zLm,zl];exact ww (Nat.ble_eq.mpr (show env.length+ks.length<=1000 by lia)),rfl,cs,zs,es,env++(g::x::v::u).zip ks,s,by rw[zMa];exact zbP (λt=>[stD cs zs es,D.lst (env.map prD++((g::x::v::u).zip ks).map prD),D.int t,D.str s]) (dn m),V,Z,by lia,L,λb2 R=>⟨zaA,?_⟩⟩⟩
 dsimp only
 refine je ?_;refine⟨rfl,rfl,(show dCB sTupC _ _ _ from Zr (wl (((g::x::v::u).zip ks).map prD) (λG a=>⟨zaA,a⟩) (λi J=>J=((((g::x::v::u).zip ks).map Prod.fst).take i).map D.str) (by rw[zLm,zl];lia) rfl ?_ ?_))⟩
 ·rintro i d J hd hl rfl;rw[zai]at hd;obtain⟨r,hr,rfl⟩:=zar.mp hd;refine⟨λ_=>⟨zaA,?_⟩,λz=>nomatch z⟩;rw[zcU,zai,hr,zMa];rfl
 rintro _ rfl;rcases mk with⟨e,_⟩|⟨e,rfl⟩|⟨e,rfl⟩
 ·exact absurd e a0
 ·rw[e]at hx ⊢;rw[zMa]at O;exact⟨zbZ _ _,zbZ _ _,ww rfl,rfl,rfl,zbZ _ _,zbZ _ _,ww rfl,⟨zaA,zaA,I.pure,zaA,zaA,R.pure,zaA⟩,h _ (.list aD hx I O R)⟩
 rw[e]at hx ⊢;have e3:(g::x::v::u).zip [("tree" : Str),"num","tree"]=([(g,"tree"),(x,"num"),(v,"tree")]:Env):=by rw[zaL,zaL,zaL,zcY]
 rw[e3]at R O ⊢;rw[zMa]at O;exact⟨zbZ _ _,zbZ _ _,ww rfl,rfl,rfl,zbZ _ _,zbZ _ _,ww rfl,⟨zaA,zaA,I.pure,zaA,zaA,zaA,R.pure,zaA⟩,h _ (.tree aD hx I O R)⟩
theorem Oc(X:AX K mg C):∀n:Nat,FD P w K mg base (n+7) "_law_body" pA (tBd n)
 |0=>by
  obtain⟨f,fd,F,m⟩:=X.f "_law_body" 27 aB
  have ds:zo ["_law_state","_law_scope","_law_deep","_law_shape","_law_cell","_law_way","_law_names_here","_law_kind","_law_one","_law_other","_law_body_here","_law_some","_law_x","_law_word","_law_kinds","_law_more"] pA (zd (top 27)):=by walk_at "f"
  exact ve F ds (F.binds (by walk_at "3")) m λqZ A outer s H xs S M hr hl hT=>hT.elim
 |n+1=>Vm X (Oc X n)
def Aq{α:Type}{t u:TDS}{U:DE}{Z:DZ}(g:α->DE->DE)(P:α->Prop)(h1:t U {Z with nx:=λr=>∃ a,P a/\r=g a U})(h2:∀ a,P a->u (g a U) Z):sSeq (sCut t) u U Z:=⟨_,h1,λ_ ⟨a,p,e⟩=>e▸h2 a p⟩
abbrev Gd:=Hd×D
noncomputable def gD(g:Gd):D:=fnD g.1 g.2
structure GOk(hs:List Hd)(g:Gd):Prop where
 n1:1<=g.1.ps.length
 n3:g.1.ps.length<=3
 sh:∀p∈g.1.ps,IsSh p.2
 nd:(g.1.ps.map Prod.fst).Nodup
 bt:Bt (sg1 hs) g.1.ps g.2 g.1.sh
structure PG1(gs:List Gd)(hs:List Hd):Prop where
 nd:(gs.map λg=>g.1.nm).Nodup
 mem:∀h∈hs,∃b,(h,b)∈gs
 hnd:(hs.map Hd.nm).Nodup
 ok:∀g∈gs,GOk hs g
 n1:gs≠[]
 ln:gs.length<=10
def z0i:FT:=g1 λd M=>∃ns,d=.scr ns/\∀gs hs,PG1 gs hs->M (dv (.tup (gs.map gD)))
def KO(zs:List Str)(ks:List Hd):Prop:=∀(j:Nat)(h:Hd),ks[j]?=some h->zs[2+j]?=some h.nm/\HOk1 zs h
def KO.add{zs:List Str}{ks:List Hd}{h:Hd}(k:KO zs ks)(a:zs[2+ks.length]?=some h.nm)(ho:HOk1 zs h):KO zs (ks++[h]):=λj g e=>by
 rcases Nat.lt_trichotomy j ks.length with z|z|z
 ·rw[zaG z]at e;exact k j g e
 ·subst z;rw[zaC (zaj _),zbX]at e;cases e;exact⟨a,ho⟩
 rw[zbW (by rw[zLa,zdD];lia)]at e
 cases e
def KO.names{zs:List Str}{ks:List Hd}(k:KO zs ks):ks.map Hd.nm=(zs.drop 2).take ks.length:=by
 apply List.ext_getElem?;intro j;rw[zai,List.getElem?_take];by_cases z:j<ks.length
 ·rw[zaK z,List.getElem?_drop,zaf z];exact(k j _ (zaf z)).1.symm
 rw[zaJ z,zbW aD]
 rfl
def HOk1.ne{zs:List Str}{h:Hd}(o:HOk1 zs h)(d:zs.Nodup)(l:zs.length=20):NE zs 4 h.ps/\1<=h.ps.length/\h.ps.length<=3:=by
 obtain⟨ks,e,k,j,sh,_⟩:=o;have g:h.ps.length=ks.length:=by rw[e,zbG];lia
 refine⟨⟨d,?_,by lia,by lia,λp a=>?_⟩,by lia,by lia⟩
 ·rw[g,e,Wm _ _ aD]
 rw[e]at a;exact sh _ (zdY a).2
def KO.heads{d a1 a2 a3 g:Str}{r:List Str}{ks:List Hd}(k:KO (d::a1::a2::a3::g::r) ks)(x:r.length=15)(l:(d::a1::a2::a3::g::r).Nodup)(y:ks.length<=3):HsOk (putH d a1 a2::plaH a1 d a1::ks):=by
 have u:(d::a1::a2::a3::g::r).length=20:=by show r.length+5=20;lia
 refine⟨?_,λh e=>?_,by show ks.length+2<=100;lia⟩
 ·show(d::a1::ks.map Hd.nm).Nodup;rw[k.names];exact l.sublist (.cons₂ _ (.cons₂ _ (zeC ..)))
 rcases zam.mp e with rfl|e
 ·exact⟨(show 1<=2 by decide),(show 2<=3 by decide),λp a=>by rcases zam.mp a with rfl|a;exact .inl rfl;rw[zaE.mp a];exact .inr (.inl rfl),.inr (.inl rfl)⟩
 rcases zam.mp e with rfl|e
 ·exact⟨(show 1<=2 by decide),(show 2<=3 by decide),λp a=>by rcases zam.mp a with rfl|a;exact .inl rfl;rw[zaE.mp a];exact .inr (.inr rfl),.inr (.inr rfl)⟩
 obtain⟨j,v⟩:=zcN e;have o:=(k j h v).2;have q:=o.ne l u;obtain⟨_,_,_,_,_,s,_⟩:=o;exact⟨q.2.1,q.2.2,q.1.sh,s⟩
def E7(ns:List Int):ZZ.cutD (ns.map D.int) (some 6) (some 54)=((ns.drop 6).take 48).map D.int:=by
 rw[zeW,List.map_drop];exact Te (ns.map D.int) 6 54
def Fo{i:Nat}{te:TD}{U:DE}{M:EV->Prop}(h:te (frzS U i) λr=>(∃ J,r=df (.lst J)/\zu J)/\M r):Ao i te U M:=h
def Ar{j:List Hd}{f n x h t:Str}(G:sigL (sg1 j) f=some ([("num" : Str),"list"],("list" : Str)))(g:[n,x,h,t].Nodup):Bt (sg1 j) (putH f n x).ps (putB f n x h t) "list":=by
 have q:∀a b:Str,a≠b->∀(v:Str)(r:Env),envL ((a,v)::r) b=envL r b:=λa b e v r=>zaJ e;simp only[zaQ,zam,zaW,zdN,not_or,zcK,not_false_eq_true,and_true]at g;obtain⟨⟨y,B,z⟩,⟨u,l⟩,D⟩:=g;have d:∀r:Env,envL ((n,"num")::r) n=some ("num" : Str):=λr=>zaK rfl;have ex:∀r:Env,envL ((n,"num")::(x,"list")::r) x=some ("list" : Str):=λr=>(q _ _ y _ _).trans (zaK rfl);have k:∀r:Env,envL ((n,"num")::(x,"list")::(h,"num")::r) h=some ("num" : Str):=λr=>(q _ _ B _ _).trans ((q _ _ u _ _).trans (zaK rfl));have et:∀r:Env,envL ((n,"num")::(x,"list")::(h,"num")::(t,"list")::r) t=some ("list" : Str):=λr=>(q _ _ z _ _).trans ((q _ _ l _ _).trans ((q _ _ D _ _).trans (zaK rfl)));refine .list (by show 2<=100;decide) (ex _) (.give (.cons (.var (d _)) .nil) aB) ?_ (.less (.var (d _)) (.var (k _)) aB aB (.give (.cons (.var (d _)) (.var (ex _))) aB) (.give (.cons (.var (k _)) (.call G (.cons (.var (d _)) (.cons (.var (et _)) .nil)))) aB))
 show[n,x,h,t].Nodup;simp[*]
def As{k:List Hd}{f n x l v w:Str}(u:sigL (sg1 k) f=some ([("num" : Str),"tree"],("tree" : Str)))(j:[n,x,l,v,w].Nodup):Bt (sg1 k) (plaH f n x).ps (plaB f n x l v w) "tree":=by
 have q:∀a b:Str,a≠b->∀(v:Str)(r:Env),envL ((a,v)::r) b=envL r b:=λa b e v r=>zaJ e;simp only[zaQ,zam,zaW,zdN,not_or,zcK,not_false_eq_true,and_true]at j;obtain⟨⟨es,O,N,L⟩,⟨G,D,B⟩,⟨R,Q⟩,I⟩:=j;have d:∀r:Env,envL ((n,"num")::r) n=some ("num" : Str):=λr=>zaK rfl;have ex:∀r:Env,envL ((n,"num")::(x,"tree")::r) x=some ("tree" : Str):=λr=>(q _ _ es _ _).trans (zaK rfl);have z:∀r:Env,envL ((n,"num")::(x,"tree")::(l,"tree")::r) l=some ("tree" : Str):=λr=>(q _ _ O _ _).trans ((q _ _ G _ _).trans (zaK rfl));have g:∀r:Env,envL ((n,"num")::(x,"tree")::(l,"tree")::(v,"num")::r) v=some ("num" : Str):=λr=>(q _ _ N _ _).trans ((q _ _ D _ _).trans ((q _ _ R _ _).trans (zaK rfl)));have y:∀r:Env,envL ((n,"num")::(x,"tree")::(l,"tree")::(v,"num")::(w,"tree")::r) w=some ("tree" : Str):=λr=>(q _ _ L _ _).trans ((q _ _ B _ _).trans ((q _ _ Q _ _).trans ((q _ _ I _ _).trans (zaK rfl))));refine .tree (by show 2<=100;decide) (ex _) (.give (.node .leaf (.var (d _)) .leaf) aB) ?_ (.less (.var (d _)) (.var (g _)) aB aB (.give (.node (.call u (.cons (.var (d _)) (.cons (.var (z _)) .nil))) (.var (g _)) (.var (y _))) aB) (.give (.node (.var (z _)) (.var (g _)) (.call u (.cons (.var (d _)) (.cons (.var (y _)) .nil)))) aB))
 show[n,x,l,v,w].Nodup;simp[*]
def Jw{ks:List Hd}{bs:List D}(d:bs.length=ks.length){h:Hd}(m:h∈ks):∃b,(h,b)∈ks.zip bs:=by
 obtain⟨j,a,e⟩:=List.getElem_of_mem m;refine⟨bs[j]' aD,?_⟩
 rw[<- e];exact List.mem_iff_getElem.mpr ⟨j,by rw[zbG];lia,List.getElem_zip⟩
def z1a{d a1 a2 a3 x:Str}{r:List Str}{ks:List Hd}{bs:List D}(k:HsOk (putH d a1 a2::plaH a1 d a1::ks))(L:r.length=15)(N:ks.length<=3)(u:(d::a1::a2::a3::x::r).Nodup)(z:KO (d::a1::a2::a3::x::r) ks)(es:bs.length=ks.length)(I:∀ g∈ks.zip bs,Bt (sg1 (putH d a1 a2::plaH a1 d a1::ks)) g.1.ps g.2 g.1.sh) :
  PG1 ([((putH d a1 a2,putB d a1 a2 a3 x):Gd),(plaH a1 d a1,plaB a1 d a1 a2 a3 x)]++ks.zip bs) (putH d a1 a2::plaH a1 d a1::ks):=by
 have y:(d::a1::a2::a3::x::r).length=20:=by show r.length+5=20;lia
 have B:(ks.zip bs).map (λg=>g.1.nm)=ks.map Hd.nm:=by
  have e:(ks.zip bs).map (λg:Gd=>g.1.nm)=((ks.zip bs).map Prod.fst).map Hd.nm:=by rw[zbI];rfl
  rw[e,List.map_fst_zip aD]
 refine⟨?_,λh v=>?_,k.nd,λg l=>?_,by simp,?_⟩
 ·show(d::a1::(ks.zip bs).map λg=>g.1.nm).Nodup;rw[B];exact k.nd
 ·rcases zam.mp v with rfl|v
  ·exact⟨_,.head _⟩
  rcases zam.mp v with rfl|v
  ·exact⟨_,.tail _ (.head _)⟩
  obtain⟨b,m⟩:=Jw es v;exact⟨b,.tail _ (.tail _ m)⟩
 ·have s2:∀{a b:Str}{E:List Str},(a::b::E).Nodup->[a,b].Nodup:=λn=>n.sublist (.cons₂ _ (.cons₂ _ (List.nil_sublist _)));rcases zam.mp l with rfl|l
  ·have q:=k.ok (putH d a1 a2) (.head _);exact⟨q.1,q.2.1,q.2.2.1,s2 (zaQ.mp u).2,Ar (Nm k.nd (.head _)) ((zaQ.mp u).2.sublist (.cons₂ _ (.cons₂ _ (.cons₂ _ (.cons₂ _ (List.nil_sublist _))))))⟩
  rcases zam.mp l with rfl|l
  ·have q:=k.ok (plaH a1 d a1) (.tail _ (.head _));exact⟨q.1,q.2.1,q.2.2.1,s2 u,As (Nm k.nd (.tail _ (.head _))) (u.sublist (.cons₂ _ (.cons₂ _ (.cons₂ _ (.cons₂ _ (.cons₂ _ (List.nil_sublist _)))))))⟩
  obtain⟨j,G⟩:=zcN (zdY l).1;have q:=(z j g.1 G).2.ne u y;exact⟨q.2.1,q.2.2,q.1.sh,q.1.nodup,I g l⟩
 rw[zLa,zbG];show 2+_<=10;lia
def PG1.rot{gs:List Gd}{hs:List Hd}(p:PG1 gs hs)(t:Nat):PG1 (gs.drop t++gs.take t) hs:=by
 have a:(gs.drop t++gs.take t).Perm gs:=by
  have:=List.perm_append_comm (l₁:=gs.drop t) (l₂:=gs.take t)
  rwa [zfL]at this
 exact⟨(a.map _).nodup_iff.mpr p.nd,λh d=>(p.mem h d).imp λb m=>a.mem_iff.mpr m,p.hnd,λg e=>p.ok g (a.mem_iff.mp e),λz=>p.n1 (List.length_eq_zero_iff.mp (by rw[<- a.length_eq,z];rfl)),by rw[a.length_eq];exact p.ln⟩
theorem GOk.pure{a:List Hd}{g:Gd}(o:GOk a g):zi (gD g):=by
 have q:=d8 g.1;exact⟨q.1,q.2.1,q.2.2.1,o.bt.pure,zaA⟩
structure TW(zs:List Str)(p q:Gd):Prop where
 ln:zs.length=20
 nd:zs.Nodup
 oh:∀ks:List Hd,KO zs ks->ks.length<=3->HsOk (p.1::q.1::ks)
 pg:∀(ks:List Hd)(bs:List D),ks.length<=3->KO zs ks->bs.length=ks.length->(∀g∈ks.zip bs,Bt (sg1 (p.1::q.1::ks)) g.1.ps g.2 g.1.sh)->PG1 ([p,q]++ks.zip bs) (p.1::q.1::ks)
def bg(X:AX K mg C):FD P w K mg base 13 "_law_program" ["_law_script"] z0i:=by
 obtain⟨f,fd,F,m⟩:=X.f "_law_program" 28 aB
 have ds:zo ["_law_script","_law_first","_law_names_here","_law_program_here","_law_heads","_law_state","_law_head_here","_law_turn"] ["_law_script"] (zd (top 28)):=by walk_at "f"
 walk_at "b";refine⟨_,(ze (yj (zw 1 ds.nd (xb (zy (wj X) (hr.e rfl) (za (z9 0) (za zc zb))) (jh zc zc))))
   (ze (zw 2 ds.nd (zy (W4 X) (hr.e rfl) (za (zy (wj X) (hr.e rfl) (za (z9 0) (za zc zb))) (za zc zb))))
   (ze (yj (zw 3 ds.nd (x5 (za (zy (bf X) (hr.e rfl) (za (zf hu (z9 2) zc) (za (yq (z9 2) (yg zc) xk) zb))) (za (zy (cm X) (hr.e rfl) (za (zf hu (z9 2) zc) (za (z9 2) zb))) zb)))))
   (ze (yj (vj 2 (uc (T:=["_law_k"]) (F:=["_law_names_here","_law_script"]) (js:=[2,0]) 4 ds.nd (vn X.T.range (za (x3 zc (xb (z9 1) zc)) zb)) (show y0 (zd (top 28)) _ _ _ from by walk_at "c") (.cons rfl (.cons rfl .nil)) aB (by walk_at "t") (yi aB) (ym 0) (λcl C fp s H=>wg) (λcl C fp s H=>(zy (Vl X) (hr.e rfl) (za (zf hu (z9 1) (x3 zc (z9 0))) (za (z9 1) (za (zy (wj X) (hr.e rfl) (za (z9 2) (za (x3 zc (z9 0)) zb))) zb))))))))
   (ze (yj (vj 2 (zw 5 ds.nd (x5 (za (yq (z9 0) (yg zc) (yg zc)) (za zc (za (z9 2) (za (x3 (E5 3 (sk (T:=["_law_one"]) (F:=[]) (js:=[]) (xo (z9 3)) (show y0 (zd (top 28)) _ _ _ from by walk_at "c") .nil aB (by walk_at "t") (yi aB) (ym 0) (λcl C fp s H=>wg) (λcl C fp s H=>(yq (z9 0) xk (yg zc))))) (z9 4)) zb))))))))
   (ze (yj (z0t 5 (vj 4 (uu (xo (z9 4)) (zn (i:=6) ds.nd rfl aG) (ym 6) (zm (wv 3 (x3 (z9 6) (zh (za (zy (Oc X 5) (hr.e rfl) (za (z9 5) (za (jj X.T.list (za (zf hu (z9 6) zc) zb)) (za zc (za (zf hu (zf hu (z9 6) zc) zc) zb))))) zb)))))))))
   (ze (yj (zw 7 ds.nd (xb (ka (z9 1) zc) (yo X.T.len (za (z9 3) zb)))))
   (zm (yb (wk X.T.tuple (za (x3 (yq (z9 3) (yg (z9 7)) xk) (yq (z9 3) xk (yg (z9 7)))) zb))))))))))),?_⟩
 obtain⟨a,rfl,ns,rfl,h⟩:=Vo hT;refine qr 1 (λc:Int=>dv (.int c)) (λ_=>True) ⟨rfl,ns,0,rfl,rfl,λc=>⟨⟨by decide,by decide,by decide⟩,(show(10 ^ 9:Int)≠0 by decide),zaA,_,zaA,rfl⟩⟩ λc _=>⟨rfl,ns,1,rfl,rfl,λx=>⟨rfl,x,20,rfl,by decide,λzs L O=>⟨zaA,?_⟩⟩⟩
 refine yx (λU=>∃zs p q,TW zs p q/\U=[q_ (.scr ns),q_ (.int c),Q_ (.lst (zs.map D.str)),Q_ (.lst ([p,q].map gD)),none,none,none,none]) ?_ ?_
 ·match zs,L with
  |a0::a1::a2::a3::a4::r,L =>
  have R:r.length=15:=by rw[zLc,zLc,zLc,zLc,zLc]at L;lia
  refine kq ?_
  dsimp only [dLst,w6,Ys,d2,dC,u4,slot]
  refine yz K7 ⟨rfl,a0,a1,a2,a3,a4,r,rfl,zbP D.lst (jn D.str (a0::a1::a2::a3::a4::r) 1),?_⟩;exact yz Av ⟨rfl,a1,a0,a1,a2,a3,a4,r,rfl,rfl,rfl,rfl,zaA,_,(putH a0 a1 a2,putB a0 a1 a2 a3 a4),(plaH a1 a0 a1,plaB a1 a0 a1 a2 a3 a4),⟨L,O,λks k I=>k.heads R O I,λks bs I k es B=>z1a (k.heads R O I) R I O k es B⟩,rfl⟩
 rintro _ ⟨zs,p,q,W,rfl⟩;have L:=W.ln;refine Aq (λ(ks:List Hd) r=>setS (frzS r 2) 4 (dO (.lst (ks.map hdD)))) (λks=>ks.length<=3/\KO zs ks) ?_ ?_
 ·obtain⟨n,n1,n3,en⟩:∃n:Nat,1<=n/\n<=3/\(1+c.fmod 3:Int)=n:=by
   rcases Mo c with z|z|z <;> rw[z]
   ·exact⟨1,by decide,by decide,rfl⟩
   ·exact⟨2,by decide,by decide,rfl⟩
   exact⟨3,by decide,by decide,rfl⟩
  refine je (kq (wl (rngD 0 n) (λG l=>?_) (λi J=>∃ks:List Hd,ks.length=i/\J=ks.map hdD/\KO zs ks) (by rw[tm1];lia) ⟨[],rfl,rfl,λj h e=>(by simp at e)⟩ ?_ ?_))
  ·exact⟨ne_3,(show -(2 ^ 62)<=(1+c.fmod 3:Int) by lia),(show(1+c.fmod 3:Int)<2 ^ 62 by lia),(show G (rngD 0 (1+c.fmod 3:Int).toNat) by rw[en];exact l)⟩
  ·rintro i d J v hl ⟨ks,rfl,rfl,k⟩;obtain⟨hi,rfl⟩:=tw v;have V:2+ks.length<zs.length:=by lia
   rw[zfM];refine⟨λ_=>?_,λz=>nomatch z⟩;have ez:atI (zs.map D.str) (2+(ks.length:Int))=some (.str zs[2+ks.length]):=wz aD (by rw[zai,show(2+(ks.length:Int)).toNat=2+ks.length by lia,zaf V];rfl)
   refine(show Ys _ _ _ [q_ (.int ks.length),q_ (.lst (zs.map D.str)),q_ (.scr ns)] _ from ?_)
   dsimp only [w6,Ys,d2,dC,u4,slot,dv,sAdd]
   refine yz ez ⟨rfl,ns,2+ks.length,rfl,zbP D.int aD,λc=>⟨rfl,_,zs,c,rfl,rfl,by lia,rfl,λh hn ho=>⟨zaA,ks++[h],by rw[zLa];rfl,by rw[zMa];rfl,k.add (by rw[hn,zaf V]) ho⟩⟩⟩
  rintro _ ⟨ks,kl,rfl,k⟩;rw[tm1]at kl;exact⟨zaA,ks,⟨by lia,k⟩,rfl⟩
 rintro ks ⟨I,k⟩;refine wq (ρ':=[q_ (.scr ns),q_ (.int c),q_ (.lst (zs.map D.str)),Q_ (.lst ([p,q].map gD)),Q_ (.lst (ks.map hdD)),none,none,none]) rfl ?_;refine Aq (λ(cs:List Int) r=>setS (frzS r 2) 5 (dO (.lst [.lst (cs.map D.int),.int 0,.lst (zs.map D.str),.lst ((p.1::q.1::ks).map hdD)]))) (λ_=>True) ?_ ?_
 ·refine je (kq ?_)
  dsimp only [dLst,w6,aNil,dSl,F2,F3,u4,dC,d2,slot,frzS,setS,EV.sto,dv,sSl]
  refine Fo (xx ([p,q].map gD) (λG l=>⟨zaA,l⟩) (λd=>match d with|.tup [a,b,c,_]=>some (.tup [a,b,c])|_=>none) (by show 2<=_;decide) (λd v=>?_) ⟨⟨[hdD p.1,hdD q.1],rfl,d8 _,d8 _,zaA⟩,?_⟩)
  ·rcases zam.mp v with rfl|v
   ·exact⟨λ_=>⟨(show ¬ (ZZ.sIx 4 0 none=0/\ZZ.sIx 4 4 (some 3)=4) by decide),zaA,rfl⟩,λz=>nomatch z⟩
   rw[zaE.mp v];exact⟨λ_=>⟨(show ¬ (ZZ.sIx 4 0 none=0/\ZZ.sIx 4 4 (some 3)=4) by decide),zaA,rfl⟩,λz=>nomatch z⟩
  refine⟨ww (Nat.ble_eq.mpr (show 2+(ks.map hdD).length<=1000 by rw[zLm];lia)),rfl,rfl,zaA,(ns.drop 6).take 48,zaA,?_⟩
  rw[<- E7 ns];rfl
 rintro cs _;have oh:=W.oh ks k I;refine yx (λU=>∃bs y,bs.length=ks.length/\(∀g∈ks.zip bs,Bt (sg1 (p.1::q.1::ks)) g.1.ps g.2 g.1.sh)/\U=[q_ (.scr ns),q_ (.int c),q_ (.lst (zs.map D.str)),Q_ (.lst (([p,q]++(ks.take bs.length).zip bs).map gD)),q_ (.lst (ks.map hdD)),q_ (stD cs zs (p.1::q.1::ks)),y,none]) ⟨_,0,_,_,rfl,by decide,je (vd (ks.map hdD) (λG l=>⟨zaA,l⟩) (λi U=>∃bs y,bs.length=i/\(∀g∈(ks.take i).zip bs,Bt (sg1 (p.1::q.1::ks)) g.1.ps g.2 g.1.sh)/\U=[q_ (.scr ns),q_ (.int c),q_ (.lst (zs.map D.str)),Q_ (.lst (([p,q]++(ks.take bs.length).zip bs).map gD)),q_ (.lst (ks.map hdD)),q_ (stD cs zs (p.1::q.1::ks)),y,none]) ⟨[],none,rfl,(λg u=>by rw[zcY]at u;cases u),rfl⟩ ?_ ?_)⟩ ?_
 ·rintro i d _ v ⟨bs,y,rfl,B,rfl⟩;rw[zai]at v;obtain⟨g,u,rfl⟩:=zar.mp v;have V:=(zag.mp u).1;have og:=(k _ _ u).2;have nq:=(og.ne W.nd L).1;obtain⟨_,_,_,_,_,Z,_⟩:=og;refine cg (tj rfl ⟨rfl,cs,_,_,g.ps,g.sh,rfl,oh,nq,by decide,Z,λb Y=>⟨rfl,rfl,zbZ _ _,zbZ _ _,ww rfl,zaA,?_,bs++[b],q_ (hdD g),by rw[zLa];rfl,?_,?_⟩⟩)
  ·rw[zLm,zLa,zbG,zaZ];show 2+_<=_;lia
  ·intro q N;rw[zcU,u,List.zip_append (by rw[zaZ];lia)]at N
   rcases zas.mp N with N|N
   ·exact B q N
   rw[zaE.mp N];exact Y
  have Q:([p,q]++(ks.take (bs++[b]).length).zip (bs++[b])).map gD=([p,q]++(ks.take bs.length).zip bs).map gD++[gD (g,b)]:=by
   rw[zLa,show[b].length=1 from rfl,zcU,u,List.zip_append (by rw[zaZ];lia),<- zaS]
   exact zMa
  rw[Q];rfl
 ·rintro _ ⟨bs,y,es,B,rfl⟩;rw[zLm]at es;rw[zLm,zdS]at B;exact⟨bs,y,es,B,rfl⟩
 rintro _ ⟨bs,y,es,B,rfl⟩;rw[es,zdS];have gl:([p,q]++ks.zip bs).length<=10:=by rw[zLa,zbG];show 2+_<=_;lia
 have g2:2<=([p,q]++ks.zip bs).length:=by rw[zLa];show 2<=2+_;lia
 have pg:=W.pg ks bs I k es B;generalize [p,q]++ks.zip bs=gs at gl g2 pg ⊢;obtain⟨l0,g,u,eg⟩:=da (f:=gD) (E:=gs) (λz=>by rw[z]at g2;exact absurd g2 aB) (c.fdiv 3)
 have t0:=zbJ (c.fdiv 3) (show(0:Int)<(gs.map gD).length by rw[zLm];lia)
 obtain⟨t,et⟩:=zeX t0;refine yx (λU=>U=[q_ (.scr ns),q_ (.int c),q_ (.lst (zs.map D.str)),Q_ (.lst (gs.map gD)),q_ (.lst (ks.map hdD)),q_ (stD cs zs (p.1::q.1::ks)),y,q_ (.int t)]) ⟨fdl,l0,zaA,by rw[<- et];rfl⟩ ?_
 rintro _ rfl;have e1:=jn gD gs t;have e2:ZZ.cutD (gs.map gD) none (some (t:Int))=(gs.take t).map gD:=by rw[cw,<- zeW]
 have l1:(ZZ.cutD (gs.map gD) (some (t:Int)) none).length+(ZZ.cutD (gs.map gD) none (some (t:Int))).length<=sizeLine:=by
  rw[e1,e2,zLm,zLm,zcE,zaZ];exact ww (Nat.ble_eq.mpr aD)
 have Q:ZZ.cutD (gs.map gD) (some (t:Int)) none++ZZ.cutD (gs.map gD) none (some (t:Int))=(gs.drop t++gs.take t).map gD:=by rw[e1,e2,zMa]
 have l2:zu (ZZ.cutD (gs.map gD) (some (t:Int)) none++ZZ.cutD (gs.map gD) none (some (t:Int))):=by
  rw[Q];exact y8.mpr λd v=>by
   obtain⟨g,u,rfl⟩:=zah.mp v;exact((pg.rot t).ok g u).pure
 exact⟨l1,l2,(show M (dv (.tup (ZZ.cutD (gs.map gD) (some (t:Int)) none++ZZ.cutD (gs.map gD) none (some (t:Int))))) by rw[Q];exact h _ _ (pg.rot t))⟩
def Vs{α:Type}(f:α->D)(E:List α)(n:Nat):ZZ.cutD (E.map f) none (some (n:Int))=(E.take n).map f:=by
 rw[cw,<- zeW]
def tTr:FT:=g1 λd M=>∃ms:List Int,d=.lst (ms.map D.int)/\∀t:Tr,t.nodes<=40->M (dv t.d)
def S6{α a:Type}(f:α->a)(E:List α)(l u k:Option Int):xq (E.map f) l u k=(xq E l u k).map f:=by
 show List.filterMap (λi=>(E.map f)[i]?) (sliceRange (sliceBounds l u k (E.map f).length).1 (sliceBounds l u k (E.map f).length).2.1 (sliceBounds l u k (E.map f).length).2.2)=(List.filterMap (λi=>E[i]?) (sliceRange (sliceBounds l u k E.length).1 (sliceBounds l u k E.length).2.1 (sliceBounds l u k E.length).2.2)).map f;rw[List.map_filterMap,zLm]
 congr 1
 funext i
 rw[zai]
def z0r:FT:=g2 λa b M=>∃(g:Gd)(hs:List Hd)(ms:List Int),a=gD g/\GOk hs g/\b=.lst (ms.map D.int)/\∀as:List D,RsT (g.1.ps.map Prod.snd) as->M (df (.lst as))
def RsT.snoc{s:Str}{v:D}(d:Vt s v){a:List Str}{l:List D}(h:RsT a l):RsT (a++[s]) (l++[v]):=h.app ⟨v,[],rfl,d,rfl⟩
def Vk(X:AX K mg C):FD P w K mg base 2 "_law_tree" ["_law_cells"] tTr:=by
 obtain⟨f,fd,F,m⟩:=X.f "_law_tree" 29 aB
 have ds:zo ["_law_cells","_law_tree_here","_law_cell","_law_one"] ["_law_cells"] (zd (top 29)):=by walk_at "f"
 walk_at "b";refine⟨_,(ze (yj (zw 1 ds.nd uk))
   (ze (yj (uu (xo (yq (z9 0) xk (yg zc))) (zn (i:=2) ds.nd rfl aG) (ym 2) (ze (zw 3 ds.nd (zy (sj X) (hr.e rfl) (za (ka (z9 2) zc) zb)))
    (zm (zw 1 ds.nd (zf hu (x5 (za (zh (za (z9 1) (za (z9 3) (za uk zb)))) (za (zh (za uk (za (z9 3) (za (z9 1) zb)))) (za (zh (za (z9 1) (za (z9 3) (za (zh (za uk (za (z9 3) (za uk zb)))) zb)))) zb)))) (xb (z9 2) zc)))))))
   (zm (yb (z9 1))))),?_⟩
 obtain⟨a,rfl,ms,rfl,h⟩:=Vo hT;refine yx (λU=>U=[q_ (.lst (ms.map D.int)),q_ .non,none,none]) ⟨zaA,rfl⟩ ?_;rintro _ rfl;refine yx (λU=>∃(t:Tr)(a b:Option EV),t.nodes<=40/\U=[q_ (.lst (ms.map D.int)),q_ t.d,a,b]) ?_ ?_
 ·have e:ZZ.cutD (ms.map D.int) none (some 20)=(ms.take 20).map D.int:=Vs D.int ms 20;refine vd ((ms.take 20).map D.int) (λG j=>⟨zaA,(show G (ZZ.cutD (ms.map D.int) none (some 20)) by rw[e];exact j)⟩) (λi U=>∃(t:Tr)(a b:Option EV),t.nodes<=2*i/\U=[q_ (.lst (ms.map D.int)),q_ t.d,a,b]) ⟨.lf,none,none,zcB _,rfl⟩ ?_ ?_
  ·rintro i d _ l ⟨t,a,b,g,rfl⟩;obtain⟨c,_,rfl⟩:=zah.mp (zan l);refine cg (yk ⟨fdl,rfl,_,rfl,λn=>⟨zaA,rfl,rfl,rfl,rfl,rfl,rfl,rfl,rfl,rfl,rfl,ne_3,?_⟩⟩);have q:∃t':Tr,t'.nodes<=2*(i+1)/\atI [D.tup [t.d,.int n,.non],.tup [.non,.int n,t.d],.tup [t.d,.int n,.tup [.non,.int n,.non]]] (c.fmod 3)=some t'.d:=by
    rcases Mo c with z|z|z <;> rw[z]
    ·exact⟨.nd t n .lf,by show 1+t.nodes+0<=_;lia,rfl⟩
    ·exact⟨.nd .lf n t,by show 1+0+t.nodes<=_;lia,rfl⟩
    exact⟨.nd t n (.nd .lf n .lf),by show 1+t.nodes+(1+0+0)<=_;lia,rfl⟩
   obtain⟨t',k,r⟩:=q;exact yz r ⟨zaA,t',_,_,k,rfl⟩
  rintro _ ⟨t,a,b,g,rfl⟩;exact⟨t,a,b,by rw[zLm,zaZ]at g;lia,rfl⟩
 rintro _ ⟨t,a,b,g,rfl⟩;exact⟨t.pure,h t g⟩
def Vn(X:AX K mg C):FD P w K mg base 3 "_law_args" ["_law_one","_law_cells"] z0r:=by
 obtain⟨f,fd,F,m⟩:=X.f "_law_args" 30 aB
 have ds:zo ["_law_one","_law_cells","_law_args_here","_law_k","_law_own"] ["_law_one","_law_cells"] (zd (top 30)):=by walk_at "f"
 walk_at "b";refine⟨_,(ze (yj (zw 2 ds.nd (x5 zb)))
   (ze (yj (uu (vn X.T.range (za (yo X.T.len (za (zf hu (z9 0) zc) zb)) zb)) (zn (i:=3) ds.nd rfl aG) (ym 3) (ze (zw 4 ds.nd (yq (E3 (z9 1) (yg (z9 3)) xk (yg (yo X.T.len (za (zf hu (z9 0) zc) zb)))) xk (yg zc)))
    (zm (xn (xy hu (zf hu (zf hu (zf hu (z9 0) zc) (z9 3)) zc) zg) (zm (vj 4 (wv 2 (wk X.T.tuple (za (jk (T:=["_law_part"]) (F:=[]) (js:=[]) (xo (z9 4)) (show y0 (zd (top 30)) _ _ _ from by walk_at "c") .nil aB (by walk_at "t") (yi aB) (ym 0) (λcl C fp s H=>wg) (λcl C fp s H=>(zy (sj X) (hr.e rfl) (za (z9 0) zb)))) zb))))) (zm (xn (xy hu (zf hu (zf hu (zf hu (z9 0) zc) (z9 3)) zc) zg) (zm (wv 2 (zy (Vk X) (hr.e rfl) (za (z9 4) zb)))) (zm (wv 2 (zy (sj X) (hr.e rfl) (za (E2 X.T.sum (za (z9 4) zb)) zb)))))))))))
   (zm (yb (z9 2))))),?_⟩
 obtain⟨a,b,rfl,g,V,ms,rfl,x,rfl,h⟩:=Lq hT;refine yx (λU=>U=[q_ (gD g),q_ (.lst (ms.map D.int)),Q_ (.lst []),none,none]) ⟨rfl,rfl,zaA,rfl⟩ ?_;rintro _ rfl;have n3:=x.n3;refine yx (λU=>∃(r:List D)(a b:Option EV),RsT (g.1.ps.map Prod.snd) r/\U=[q_ (gD g),q_ (.lst (ms.map D.int)),Q_ (.lst r),a,b]) ?_ ?_
 ·refine vd (rngD 0 g.1.ps.length) (λG k=>?_) (λi U=>∃(r:List D)(a b:Option EV),RsT ((g.1.ps.map Prod.snd).take i) r/\U=[q_ (gD g),q_ (.lst (ms.map D.int)),Q_ (.lst r),a,b]) ⟨[],none,none,rfl,rfl⟩ ?_ ?_
  ·refine(show -(2 ^ 62)<=(((g.1.ps.map prD).length:Nat):Int)/\(((g.1.ps.map prD).length:Nat):Int)<2 ^ 62/\G (rngD 0 (((g.1.ps.map prD).length:Nat):Int).toNat) from ?_);rw[zLm];exact⟨by lia,by lia,k⟩
  ·rintro i d _ y ⟨r,a,b,u,rfl⟩;obtain⟨hi,rfl⟩:=tw y;rw[zfM];have l0:((g.1.ps.map prD).length:Int)≠0:=by rw[zLm];have:=x.n1;lia
   have Q:r.length<=3:=by have:=u.len;rw[zaZ]at this;lia
   have ep:atI (g.1.ps.map prD) (i:Int)=some (prD g.1.ps[i]):=wz aD (by rw[zai,zbD,zaf hi];rfl)
   have up:∀v,Vt g.1.ps[i].2 v->RsT ((g.1.ps.map Prod.snd).take (i+1)) (r++[v]):=λv N=>by
    rw[zcU,zai,zaf hi];exact u.snoc N
   have sh:=x.sh g.1.ps[i] (zeH hi);have O:ZZ.cutD (xq (ms.map D.int) (some (i:Int)) none (some ((g.1.ps.map prD).length:Int))) none (some 40)=((xq ms (some (i:Int)) none (some ((g.1.ps.map prD).length:Int))).take 40).map D.int:=by
    rw[S6];exact Vs D.int _ 40
   refine cg (yk ⟨λz=>l0 (zaM z),zaA,?_⟩)
   dsimp only
   refine(show sIf _ _ _ [q_ (gD g),q_ (.lst (ms.map D.int)),Q_ (.lst r),q_ (.int i),Q_ (.lst (ZZ.cutD (xq (ms.map D.int) (some (i:Int)) none (some ((g.1.ps.map prD).length:Int))) none (some 40)))] _ from ?_);rw[O];have L:((xq ms (some (i:Int)) none (some ((g.1.ps.map prD).length:Int))).take 40).length<=40:=by rw[zaZ];lia
   generalize (xq ms (some (i:Int)) none (some ((g.1.ps.map prD).length:Int))).take 40=l at L ⊢;refine uo (eqD (.str g.1.ps[i].2) (.str "list")) (λG k=>?_) (λz=>?_) (λes=>?_)
   ·dsimp only [tBo,d2,u4,dC,slot,dv]
    refine qo (S:=[.str g.1.nm,.tup (g.1.ps.map prD),.tup [.str g.1.sh,.tup (g.1.sz.map D.int)],g.2]) rfl ?_;refine qo ep ?_;exact qo (S:=[.str g.1.ps[i].1,.str g.1.ps[i].2]) rfl ⟨zaI yt,zaI yt,k⟩
   ·refine je (tj rfl (Zr (wl (l.map D.int) (λG k=>⟨zaA,k⟩) (λj J=>∃q:List Int,J=q.map D.int/\q.length<=j) (by rw[zLm];lia) ⟨[],rfl,zaj _⟩ ?_ ?_)))
    ·rintro j d J y hl ⟨q,rfl,B⟩;obtain⟨c,_,rfl⟩:=zah.mp (zan y);exact⟨λ_=>⟨rfl,c,rfl,λn=>⟨zaA,q++[n],by rw[zMa];rfl,by rw[zLa];show _+1<=_;lia⟩⟩,λz=>nomatch z⟩
    rintro _ ⟨q,rfl,B⟩;rw[zLm]at B;exact⟨zaA,by lia,_,_,_,up _ (.inr (.inl ⟨eqs z,q,rfl,by lia⟩)),rfl⟩
   refine uo (eqD (.str g.1.ps[i].2) (.str "tree")) (λG k=>?_) (λz=>?_) (λI=>?_)
   ·dsimp only [tBo,d2,u4,dC,slot,dv]
    refine qo (S:=[.str g.1.nm,.tup (g.1.ps.map prD),.tup [.str g.1.sh,.tup (g.1.sz.map D.int)],g.2]) rfl ?_;refine qo ep ?_;exact qo (S:=[.str g.1.ps[i].1,.str g.1.ps[i].2]) rfl ⟨zaI yt,zaI yt,k⟩
   ·exact tj rfl ⟨rfl,l,rfl,λt R=>⟨zaA,by lia,_,_,_,up _ (.inr (.inr ⟨eqs z,t,rfl,by lia⟩)),rfl⟩⟩
   have e:g.1.ps[i].2 = "num":=by
    rcases sh with e|e|e
    ·exact e
    ·exact absurd e (eqn es)
    exact absurd e (eqn I)
   refine tj rfl ?_
   dsimp only [Ys,w6,aNil,dCB,u4,slot,sSum,zaB,zbO]
   refine(show match Ye (l.map D.int) with|some ns=>_|none=>False from ?_)
   rw[c7];exact⟨rfl,_,rfl,λn=>⟨zaA,by lia,_,_,_,up _ (.inl ⟨e,n,rfl⟩),rfl⟩⟩
  rintro _ ⟨r,a,b,u,rfl⟩;rw[tm1,zbS (by rw[zLm];exact zaj _)]at u
  exact⟨r,a,b,u,rfl⟩
 rintro _ ⟨r,a,b,u,rfl⟩;exact⟨u.pure,h r u⟩
def Vt.ok{s:Str}{v:D}(h:Vt s v):okD 101 v:=by
 rcases h with⟨_,i,rfl⟩|⟨_,l,rfl,_⟩|⟨_,t,rfl,d⟩
 ·exact zaI (ye ..)
 ·intro x a;obtain⟨i,_,rfl⟩:=zah.mp a;exact zaI (ye ..)
 exact ku aD t.dep
theorem RsT.ok:∀{ss:List Str}{l:List D},RsT ss l->∀v∈l,okD 101 v
 |[],_,h,v,m=>by cases (show _=[] from h);cases m
 |_::_,_,⟨w,q,rfl,hw,h⟩,v,m=>by
  rcases zam.mp m with rfl|m
  ·exact hw.ok
  exact h.ok v m
def In4(s:Sx):Prop:=∀q∈s.cl,(∀v∈q.as,okD 101 v)/\∀v,q.en=some v->okD 101 v
def Nx.in4{fns:List (Str×D)}{fs:Sig}{s s':Sx}{l:Option Str}(h:Nx fns s l s')(o:Ok fs s)(i:In4 s):In4 s':=by
 obtain⟨gs,g,k,j,kt,_,fr,rs⟩:=o.ex;have r:=rs.ok;cases h
 case leave c1 c2 st n rr fr ts v rs q hn he pa pv =>
  intro x a;rcases zas.mp a with a|a
  ·exact i x (zaF _ a)
  rcases zam.mp a with rfl|a
  ·refine⟨(i q (zaD _ zao)).1,λw e=>?_⟩;cases e;exact r _ zao
  exact i x (zaD _ (zal _ a))
 case enter cl st fr ts rs f J us n0 sz b ps _ _ _ _ _ _ _ _ =>
  intro x a;rcases zas.mp a with a|a
  ·exact i x a
  rw[zaE.mp a];exact⟨λv d=>r v (zaF _ (List.mem_reverse.mpr d)),λv d=>nomatch d⟩
 all_goals exact i
theorem Rn.in4{fns:List (Str×D)}{fs:Sig}{m:Nat}{s t:Sx}{b:Bool}(r:Rn fns fs m s t b)(i:In4 s):In4 t:=by
 induction r with
 |done o h=>exact i
 |cutB o h=>exact i
 |cutM o h l=>exact i
 |adm o h r ih=>exact ih (h.in4 o i)
 |stp o h l r ih=>exact ih (h.in4 o i)
noncomputable def endV(t:Sx)(b:Bool):D:=if b then .non else t.rs.headD .non
noncomputable def rsD(t:Sx)(b:Bool):D:=.tup [.bl (!b),endV t b,.lst (t.cl.map Rw.d),.lst (t.st.map λp=>stp p.1 p.2)]
noncomputable def v8(gs:List Gd):List (Str×D):=gs.map λg=>(g.1.nm,gD g)
theorem Z0:∀{gs:List Gd}{g:Gd},(gs.map λg=>g.1.nm).Nodup->g∈gs->rowG (v8 gs) g.1.nm=some (gD g)
 |h::gs,g,a,m=>by
  have a:=zaQ.mp a;show(if h.1.nm=g.1.nm then _ else rowG (v8 gs) g.1.nm)=_
  rcases zam.mp m with rfl|m
  ·exact zaK rfl
  rw[zaJ λe=>a.1 (zah.mpr ⟨g,m,e.symm⟩)];exact Z0 a.2 m
theorem Qf:∀{gs:List Gd}{f:Str}{d:D},rowG (v8 gs) f=some d->∃g∈gs,d=gD g
 |h::gs,f,d,e=>by
  have e:(if h.1.nm=f then some (gD h) else rowG (v8 gs) f)=some d:=e
  split at e
  ·cases e
   exact⟨h,zao,rfl⟩
  obtain⟨g,m,q⟩:=Qf e;exact⟨g,zal _ m,q⟩
theorem Hs:∀{hs:List Hd}{f:Str}{p:List Str×Str},sigL (sg1 hs) f=some p->∃h∈hs,h.nm=f/\p=(h.ps.map Prod.snd,h.sh)
 |h::hs,f,p,e=>by
  have e:(if h.nm=f then some (h.ps.map Prod.snd,h.sh) else sigL (sg1 hs) f)=some p:=e
  split at e
  ·rename_i z;cases e;exact⟨h,zao,z,rfl⟩
  obtain⟨g,m,q⟩:=Hs e;exact⟨g,zal _ m,q⟩
noncomputable def psD(g:Gd):List (Str×D):=g.1.ps.map λp=>(p.1,.str p.2)
def Le(g:Gd):gD g=.tup [.str g.1.nm,pmD (psD g),.tup [.str g.1.sh,.tup (g.1.sz.map D.int)],g.2]:=by
 unfold gD fnD pmD psD;rw[zbI];rfl
def d9(g:Gd):(psD g).map Prod.fst=g.1.ps.map Prod.fst:=by
 unfold psD;rw[zbI];rfl
theorem Zm:∀l:List (Str×Str),(l.map Prod.fst).zip (l.map Prod.snd)=l
 |[]=>rfl
 |p::l=>by rw[zaB,zaB,zaL,Zm l]
def PG1.fns{gs:List Gd}{a:List Hd}(p:PG1 gs a):Rc (v8 gs) (sg1 a):=λf g s e=>by
 obtain⟨h,d,rfl,e2⟩:=Hs e;obtain⟨rfl,rfl⟩:=Prod.mk.inj e2;obtain⟨b,m⟩:=p.mem h d;have o:=p.ok _ m;have r:=Z0 p.nd m;rw[Le]at r;refine⟨_,psD (h,b),_,b,r,?_,?_,?_,?_,?_,?_⟩
 ·unfold psD;rw[zLm,zLm]
 ·rw[zLm];exact o.n1
 ·rw[zLm];have:=o.n3;exact zak this aB
 ·rw[d9];exact o.nd
 ·rw[<- Le];exact o.pure
 rw[d9,Zm];exact o.bt
noncomputable def st01(g:Gd)(a:List D):Sx:=⟨[⟨g.1.nm,a,none,none⟩],[(0,"call")],[(0,(g.1.ps.map Prod.fst).zip a)],[bdD g.2,lvD],[]⟩
def dg{k:List Hd}{g:Gd}{a:List D}(o:GOk k g)(j:RsT (g.1.ps.map Prod.snd) a):Ok (sg1 k) (st01 g a)/\In2 (st01 g a)/\In3 (st01 g a)/\In4 (st01 g a):=by
 have ft:=Py (zs:=g.1.ps.map Prod.fst) (by rw[zLm,zLm]) j
 rw[Zm]at ft;have one:∀(i:Nat)(q:Rw),(st01 g a).cl[i]?=some q->i=0/\q=⟨g.1.nm,a,none,none⟩:=λi q e=>by
  match i,e with
  |0,e=>exact⟨rfl,(zaM e).symm⟩
  |i+1,e=>cases e
 refine⟨⟨⟨[g.1.ps],[],0,0,.body o.bt .done aB,by decide,⟨0,_,[],rfl,ft,rfl⟩,rfl⟩,(zaQ.mpr ⟨zaW,zcK⟩:[0].Nodup),λn u=>⟨⟨g.1.nm,a,none,none⟩,by rw[zaE.mp u];rfl,rfl⟩,λq d=>by rw[zaE.mp d];exact j.pure,(show 1<=20 by decide),zaj 1⟩,⟨⟨⟨_,rfl,rfl⟩,zaA⟩,λi q e z=>absurd (by rw[(one i q e).1];exact zaE.mpr rfl) z,rfl⟩,⟨λi q e=>.inl ⟨(one i q e).1,by rw[(one i q e).2]⟩,λp r=>by rw[zaE.mp r];exact Nat.one_pos,λz=>nomatch z⟩,λq d=>by rw[zaE.mp d];exact⟨j.ok,λv l=>nomatch l⟩⟩
noncomputable def pmN:D->List Str
 |.tup ps=>ps.map λp=>match p with
  |.tup (.str z::_)=>z
  |_=>""
 |_=>[]
def Qm(ps:List (Str×D)):pmN (pmD ps)=ps.map Prod.fst:=by
 show(ps.map _).map _=_;rw[zbI];rfl
noncomputable def stn(s:Sx)(k:Str):List (Nat×Str):=match s.fr with
 |(n,_)::_=>ad s.st n k
 |[]=>s.st
noncomputable def nxV(s:Sx)(ts:List D)(k:Str)(J:List D):Option (Option Str×Sx) :=
 if k = "num" then some (none,⟨s.cl,s.st,s.fr,ts,J.headD .non::s.rs⟩)
 else if k = "var" then(match J,s.fr with
  |[.str z],(_,r)::_=>(rowG r z).map λv=>(none,⟨s.cl,s.st,s.fr,ts,v::s.rs⟩)
  | _,_=>none)
 else if k = "nil" then some (none,⟨s.cl,s.st,s.fr,ts,.tup []::s.rs⟩)
 else if k = "leaf" then some (none,⟨s.cl,s.st,s.fr,ts,.non::s.rs⟩)
 else if k = "call" then(match J with
  |[_,.tup us]=>some (none,⟨s.cl,s.st,s.fr,us.map vlD++apD (.tup (.str k::J))::ts,s.rs⟩)
  | _=>none)
 else some (none,⟨s.cl,s.st,s.fr,J.map vlD++apD (.tup (.str k::J))::ts,s.rs⟩)
noncomputable def nxO(s:Sx)(ts:List D)(x:Str)(b:D)(zs:List Str)(c:D):Option (Option Str×Sx):=match s.fr with
 | (n,r)::fr=>(match rowG r x with
  |some (.tup [])=>some (some "open",⟨s.cl,ad s.st n "open",(n,r)::fr,bdD b::ts,s.rs⟩)
  |some .non=>some (some "open",⟨s.cl,ad s.st n "open",(n,r)::fr,bdD b::ts,s.rs⟩)
  |some (.tup (v::l))=>some (some "open",⟨s.cl,ad s.st n "open",(n,r++zs.zip (if zs.length=2 then[v,.tup l] else v::l))::fr,bdD c::ts,s.rs⟩)
  | _=>none)
 |[]=>none
noncomputable def nxB(s:Sx)(ts:List D)(k:Str)(J:List D):Option (Option Str×Sx):=match J with
 |[e]=>some (none,⟨s.cl,s.st,s.fr,vlD e::ts,s.rs⟩)
 |[z,e,b]=>some (none,⟨s.cl,s.st,s.fr,vlD e::brD (.tup [.str k,z,e,b])::ts,s.rs⟩)
 |[a,b,c,d]=>some (none,⟨s.cl,s.st,s.fr,vlD a::vlD b::chD (.tup [.str k,a,b,c,d])::ts,s.rs⟩)
 |[.str x,b,.str h,.str t,c]=>nxO s ts x b [h,t] c
 |[.str x,b,.str l,.str v,.str w,c]=>nxO s ts x b [l,v,w] c
 |_=>none
noncomputable def nxA(fns:List (Str×D))(s:Sx)(ts:List D)(k:Str)(J:List D):Option (Option Str×Sx) :=
 if k = "add"\/k = "sub" then(match s.rs with
  |.int y::.int x::rs=>some (some "sum",⟨s.cl,stn s "sum",s.fr,ts,.int (if k = "add" then x+y else x-y)::rs⟩)
  | _=>none)
 else if k = "cons" then(match s.rs with
  |.tup l::x::rs=>if l.length<100 then some (some "make",⟨s.cl,stn s "make",s.fr,ts,.tup (x::l)::rs⟩) else none
  | _=>none)
 else if k = "node" then(match s.rs with
  |u::x::t::rs=>if szD t+szD u<202 then some (some "make",⟨s.cl,stn s "make",s.fr,ts,.tup [t,x,u]::rs⟩) else none
  | _=>none)
 else(match J with
  | [.str f,.tup J]=>(match rowG fns f with
   |some (.tup [_,pm,_,b])=>if s.fr.length<20 then some (some "call",⟨s.cl++[⟨f,(s.rs.take J.length).reverse,s.fr.head?.map Prod.fst,none⟩],ad s.st s.cl.length "call",(s.cl.length,(pmN pm).zip (s.rs.take J.length).reverse)::s.fr,bdD b::lvD::ts,s.rs.drop J.length⟩) else none
   | _=>none)
  | _=>none)
noncomputable def nxF(fns:List (Str×D))(s:Sx):Option (Option Str×Sx):=match s.ts with
 |.tup [.str k,.tup (.str w::J)]::ts =>
  if k = "value" then nxV s ts w J
  else if k = "body" then nxB s ts w J
  else if k = "apply" then nxA fns s ts w J
  else if k = "bring" then(match J,s.fr,s.rs with
   |[.str z,_,b],(n,r)::fr,v::rs=>some (some "let",⟨s.cl,ad s.st n "let",(n,r++[(z,v)])::fr,bdD b::ts,rs⟩)
   | _,_,_=>none)
  else(match J,s.rs with
   |[_,_,c,d],.int y::.int x::rs=>some (some "less",⟨s.cl,stn s "less",s.fr,bdD (if x<y then c else d)::ts,rs⟩)
   | _,_=>none)
 | .tup [_]::ts=>(match s.fr,s.rs with
  |(n,_)::fr,v::rs=>(s.cl[n]?).map λq=>(none,⟨s.cl.set n {q with en:=some v},s.st,fr,ts,v::rs⟩)
  | _,_=>none)
 |_=>none
def Nx.eval{fns:List (Str×D)}{s s':Sx}{l:Option Str}(h:Nx fns s l s'):nxF fns s=some (l,s'):=by
 cases h
 case num=>rfl
 case var e _=>show(rowG _ _).map _=_;rw[e];rfl
 case nil=>rfl
 case leaf=>rfl
 case op hk _ _=>rcases hk with rfl|rfl|rfl|rfl <;> rfl
 case call=>rfl
 case give=>rfl
 case bind=>rfl
 case less=>rfl
 case leave c1 c2 st n r fr ts v rs q hn he pa pv =>
  subst hn;show((c1++q::c2)[c1.length]?).map _=_;rw[zaC (zaj _),zbX];show some (none,(⟨(c1++q::c2).set c1.length _,_,_,_,_⟩:Sx))=_;rw[zfK _ _ (zaj _),zbX];rfl
 case sum hk=>rcases hk with rfl|rfl <;> rfl
 case cons h=>show(if _ then _ else _)=_;rw[zaK (by rw[zLm];exact h)];rfl
 case node t u h=>show(if _ then _ else _)=_;rw[zaK (by rw[Tr.sz,Tr.sz];lia)];rfl
 case bring=>rfl
 case choose=>rfl
 case openN hv _ _ _ _=>show(match rowG _ _ with|some (.tup [])=>_|some .non=>_|some (.tup (v::l))=>_|_=>_)=_;rw[hv]
 case openC hv _ _ _ _=>show(match rowG _ _ with|some (.tup [])=>_|some .non=>_|some (.tup (v::l))=>_|_=>_)=_;rw[hv];rfl
 case openL hv _ _ _=>show(match rowG _ _ with|some (.tup [])=>_|some .non=>_|some (.tup (v::l))=>_|_=>_)=_;rw[hv]
 case openT hv _ _ _ _ _=>show(match rowG _ _ with|some (.tup [])=>_|some .non=>_|some (.tup (v::l))=>_|_=>_)=_;rw[hv];rfl
 case enter cl st fr ts rs f J us n0 sz b ps hf le ne l10 pu lp nd h20 =>
  show(match rowG fns f with|some (.tup [_,pm,_,b])=>_|_=>_)=_
  rw[hf];show(if _ then _ else _)=_
  rw[zaK h20];have e1:(us.reverse++rs).take J.length=us.reverse:=List.take_left' (by rw[zaH];exact le)
  have e2:(us.reverse++rs).drop J.length=rs:=List.drop_left' (by rw[zaH];exact le)
  show some (some _,(⟨cl++[⟨f,((us.reverse++rs).take J.length).reverse,_,_⟩],_,(_,(pmN (pmD ps)).zip ((us.reverse++rs).take J.length).reverse)::_,_,(us.reverse++rs).drop J.length⟩:Sx))=_;rw[e1,e2,zcO,Qm]
def Cx1.eval{fns:List (Str×D)}{s:Sx}(h:Cx1 fns s):nxF fns s=none:=by
 cases h
 case cons h=>show(if _ then _ else _)=_;rw[zaJ (by rw[zLm,h];decide)]
 case node ht hu h=>show(if _ then _ else _)=_;rw[zaJ (by rw[Tr.sz,Tr.sz];lia)]
 case enter cl st fr ts rs f J us n0 sz b ps hf le ne l10 pu lp nd pf h20 =>
  show(match rowG fns f with|some (.tup [_,pm,_,b])=>_|_=>_)=_
  rw[hf];show(if _ then _ else _)=_
  rw[zaJ (Nat.not_lt.mpr h20)]
def Nx.cx{fns:List (Str×D)}{s a:Sx}{l:Option Str}(h:Nx fns s l a)(g:Cx1 fns s):False:=by
 have e:=h.eval.symm.trans g.eval;cases e
def Nx.det{fns:List (Str×D)}{s a b:Sx}{l m:Option Str}(h:Nx fns s l a)(g:Nx fns s m b):l=m/\a=b:=by
 have e:=h.eval.symm.trans g.eval;cases e;exact⟨rfl,rfl⟩
structure Ctx where
 c0:List Rw
 s0:List (Nat×Str)
 f0:List (Nat×List (Str×D))
 t0:List D
 r0:List D
noncomputable def shU(n:Nat)(u:Option Nat):Option Nat->Option Nat
 |some p=>some (p+n)
 |none=>u
noncomputable def shR(n:Nat)(u:Option Nat)(q:Rw):Rw:={q with up:=shU n u q.up}
noncomputable def Ctx.pr(c:Ctx):Rw->Rw:=shR c.c0.length (c.f0.head?.map Prod.fst)
noncomputable def Ctx.ps{α:Type}(c:Ctx)(p:Nat×α):Nat×α:=(p.1+c.c0.length,p.2)
noncomputable def Ctx.put(c:Ctx)(s:Sx):Sx:=⟨c.c0++s.cl.map c.pr,c.s0++s.st.map c.ps,s.fr.map c.ps++c.f0,s.ts++c.t0,s.rs++c.r0⟩
def qk(c:Ctx)(st:List (Nat×Str))(n:Nat)(k:Str):c.s0++(ad st n k).map c.ps=ad (c.s0++st.map c.ps) (n+c.c0.length) k:=by
 unfold ad;rw[zMa,zaS];rfl
def Nx.ctx{fns:List (Str×D)}{s s':Sx}{l:Option Str}(c:Ctx)(h:Nx fns s l s')(d:l=some "call"->s.fr≠[]/\s.fr.length+c.f0.length<20):Nx fns (c.put s) l (c.put s'):=by
 cases h
 case num i=>exact .num i
 case var h pv=>exact .var h pv
 case nil=>exact .nil
 case leaf=>exact .leaf
 case op hk pe l =>
  unfold Ctx.put
  dsimp only
  rw[zaS];exact .op hk pe l
 case call pe l =>
  unfold Ctx.put
  dsimp only
  rw[zaS];exact .call pe l
 case give pe=>exact .give pe
 case bind pe pb=>exact .bind pe pb
 case less pa pb pc pd=>exact .less pa pb pc pd
 case leave c1 c2 st n r fr ts v rs q hn he pa pv =>
  unfold Ctx.put
  dsimp only
  rw[zMa,zaB,zMa,zaB,<- zaS,<- zaS];exact .leave (q:=c.pr q) (by rw[zLa,zLm,hn];exact Nat.add_comm ..) he pa pv
 case sum hk=>unfold Ctx.put;dsimp only;rw[qk];exact .sum hk
 case cons h=>unfold Ctx.put;dsimp only;rw[qk];exact .cons h
 case node h=>unfold Ctx.put;dsimp only;rw[qk];exact .node h
 case bring nd pe pb pv br=>unfold Ctx.put;dsimp only;rw[qk];exact .bring nd pe pb pv br
 case choose pc pd=>unfold Ctx.put;dsimp only;rw[qk];exact .choose pc pd
 case openN hv nd pb pc br=>unfold Ctx.put;dsimp only;rw[qk];exact .openN hv nd pb pc br
 case openC hv nd pb pc br=>unfold Ctx.put;dsimp only;rw[qk];exact .openC hv nd pb pc br
 case openL hv pb pc br=>unfold Ctx.put;dsimp only;rw[qk];exact .openL hv pb pc br
 case openT hv hn nd pb pc br=>unfold Ctx.put;dsimp only;rw[qk];exact .openT hv hn nd pb pc br
 case enter cl st fr ts rs f J us n0 sz b ps hf le ne l10 pu lp nd h20 =>
  obtain⟨d1,d2⟩:=d rfl;unfold Ctx.put
  dsimp only at d1 d2 ⊢
  rw[qk,zMa,<- zaS,zaS us.reverse];have e1:cl.length+c.c0.length=(c.c0++cl.map c.pr).length:=by rw[zLa,zLm];exact Nat.add_comm ..
  obtain⟨p,fr',rfl⟩:∃p fr',fr=p::fr':=by
   cases fr with
   |nil=>exact absurd rfl d1
   |cons p q=>exact⟨p,q,rfl⟩
  have:=Nx.enter (fns:=fns) (cl:=c.c0++cl.map c.pr) (st:=c.s0++st.map c.ps) (fr:=(p::fr').map c.ps++c.f0) (ts:=ts++c.t0) (rs:=rs++c.r0) (f:=f) (J:=J) hf le ne l10 pu lp nd (by rw[zLa,zLm];exact d2)
  rw[<- e1]at this;exact this
def Cx1.ctx{fns:List (Str×D)}{s:Sx}(c:Ctx)(h:Cx1 fns s):Cx1 fns (c.put s):=by
 cases h
 case cons h=>exact .cons h
 case node ht hu h=>exact .node ht hu h
 case enter hf le ne l10 pu lp nd pf h20 =>
  unfold Ctx.put
  dsimp only
  rw[zaS];exact .enter hf le ne l10 pu lp nd pf (by rw[zLa,zLm];lia)
def Nx.deep{fns:List (Str×D)}{s s':Sx}(c:Ctx)(a:∀ f d,rowG fns f=some d->zi d)(h:Nx fns s (some "call") s')(d:20<=s.fr.length+c.f0.length):Cx1 fns (c.put s):=by
 generalize e:(some ("call" : Str))=l at h;cases h
 case enter hf le ne l10 pu lp nd h20 =>
  unfold Ctx.put
  dsimp only
  rw[zaS];exact .enter hf le ne l10 pu lp nd (a _ _ hf) (by rw[zLa,zLm];exact d)
 all_goals exact absurd e aB
def L0(s:Sx):Prop:=∀n∈(acts s).getLast?,n=0
def Nx.l0{fns:List (Str×D)}{s s':Sx}{l:Option Str}(h:Nx fns s l s')(i:L0 s)(d:s.fr≠[]):L0 s':=by
 cases h
 case leave c1 c2 st n r fr ts v rs q _ _ _ _ =>
  intro x a;refine i x ?_;show x∈(n::fr.map Prod.fst).getLast?;cases fr with
  |nil=>cases a
  |cons p q=>exact a
 case enter cl st fr ts rs f J us n0 sz b ps _ _ _ _ _ _ _ _ =>
  intro x a;refine i x ?_;cases fr with
  |nil=>exact absurd rfl d
  |cons p q=>exact a
 all_goals exact i
theorem Ok.fr{fs:Sig}{s:Sx}(o:Ok fs s)(h:s.ts≠[]):s.fr≠[]:=by
 obtain⟨gs,a,k,j,kt,_,fr,_⟩:=o.ex;rcases kt.fr with z|⟨g,gs',rfl⟩
 ·exact absurd z h
 obtain⟨n,r,q,e,_⟩:=fr;rw[e];exact λz=>nomatch z
def L0.mem{s:Sx}(i:L0 s)(h:s.fr≠[]):0∈acts s:=by
 have a:acts s≠[]:=λz=>h (List.map_eq_nil_iff.mp z);have e:=i _ (show(acts s).getLast a∈(acts s).getLast? by rw[List.getLast?_eq_some_getLast a];rfl)
 rw[<- e];exact List.getLast_mem a
def seg{fns:List (Str×D)}{fs:Sig}(N:Rc fns fs)(L:∀ f d,rowG fns f=some d->zi d){m:Nat}{s t:Sx}{b:Bool}(R:Rn fns fs m s t b):∀(c:Ctx)(s':Sx),s=c.put s'->Ok fs s'->s'.ts≠[]->L0 s'->In2 s->(∃q:Rw,t.cl[c.c0.length]?=some q/\q.en.isSome=true) ->
  ∃t',t'.ts=[]/\s'.st.length<=t'.st.length/\(∀u,t'.st.length<=u->Rn fns fs u s' t' false)/\Rn fns fs m (c.put t') t b/\In2 (c.put t'):=by
 have x:∀(c:Ctx)(s':Sx),Ok fs s'->s'.ts≠[]->L0 s'->¬ ∃q:Rw,(c.put s').cl[c.c0.length]?=some q/\q.en.isSome=true:=λc s' o k i Zh=>by
  obtain⟨q,e,es⟩:=Zh;obtain⟨G,O,I⟩:=o.op 0 (i.mem (o.fr k));have:(c.put s').cl[c.c0.length]?=some (c.pr G):=by
   show(c.c0++s'.cl.map c.pr)[c.c0.length]?=_;rw[zaC (zaj _),zbX,zai,O];rfl
  rw[this]at e;cases e;rw[show(c.pr G).en=G.en from rfl,I]at es;cases es
 have one:∀(c:Ctx)(s':Sx){l:Option Str}{s1:Sx},Nx fns (c.put s') l s1->Ok fs s'->s'.ts≠[]->L0 s'->∃s2,Nx fns s' l s2/\Ok fs s2/\s1=c.put s2/\L0 s2:=λc s' l s1 h o k i=>by
  rcases Uj N o k with g|⟨l',s2,g,v⟩
  ·exact(h.cx (g.ctx c)).elim
  have d:l'=some "call"->s'.fr≠[]/\s'.fr.length+c.f0.length<20:=λe=>⟨o.fr k,Nat.not_le.mp λz=>by
   subst e;exact h.cx (g.deep c L z)⟩
  obtain⟨rfl,e⟩:=h.det (g.ctx c d);exact⟨s2,g,v,e,g.l0 i (o.fr k)⟩
 induction R with
 |done o h =>
  rintro c s' rfl o' k i _ _;exact absurd (List.append_eq_nil_iff.mp h).1 k
 |cutB o h =>
  rintro c s' rfl o' k i _ q;exact absurd q (x c s' o' k i)
 |cutM o h l =>
  rintro c s' rfl o' k i _ q;exact absurd q (x c s' o' k i)
 |adm o h r ih =>
  rintro c s' rfl o' k i j q;have y:=h.in2 o.nd o.op j;obtain⟨s2,g,v,rfl,i2⟩:=one c s' h o' k i;have e:=g.len;by_cases z:s2.ts=[]
  ·exact⟨s2,z,by rw[e];exact zcH ..,λu _=>.adm o' g (.done v z),r,y⟩
  obtain⟨t',a,a2,b,c⟩:=ih c s2 rfl v z i2 y q;exact⟨t',a,by rw[e]at a2;exact a2,λu B=>.adm o' g (b u B),c⟩
 |stp o h l r ih =>
  rintro c s' rfl o' k i j q;have y:=h.in2 o.nd o.op j;obtain⟨s2,g,v,rfl,i2⟩:=one c s' h o' k i;have e:s2.st.length=s'.st.length+1:=g.len;by_cases z:s2.ts=[]
  ·exact⟨s2,z,by lia,λu B=>.stp o' g aD (.done v z),r,y⟩
  obtain⟨t',a,a2,b,c⟩:=ih c s2 rfl v z i2 y q;exact⟨t',a,by lia,λu B=>.stp o' g aD (b u B),c⟩
def Nx.congr{fns a:List (Str×D)}(d:∀ f,rowG a f=rowG fns f){s s':Sx}{l:Option Str}(h:Nx fns s l s'):Nx a s l s':=by
 cases h
 case enter hf le ne l10 pu lp nd h20=>exact .enter (by rw[d];exact hf) le ne l10 pu lp nd h20
 all_goals constructor <;> assumption
def Cx1.congr{fns a:List (Str×D)}(d:∀ f,rowG a f=rowG fns f){s:Sx}(h:Cx1 fns s):Cx1 a s:=by
 cases h
 case enter hf le ne l10 pu lp nd pf h20=>exact .enter (by rw[d];exact hf) le ne l10 pu lp nd pf h20
 all_goals constructor <;> assumption
theorem Rn.congr{fns a:List (Str×D)}(d:∀ f,rowG a f=rowG fns f){fs:Sig}{m:Nat}{s t:Sx}{b:Bool}(r:Rn fns fs m s t b):Rn a fs m s t b:=by
 induction r with
 |done o h=>exact .done o h
 |cutB o h=>exact .cutB o (h.congr d)
 |cutM o h l=>exact .cutM o (h.congr d) l
 |adm o h r ih=>exact .adm o (h.congr d) ih
 |stp o h l r ih=>exact .stp o (h.congr d) l ih
noncomputable def tg1:D->Str
 |.tup (.str k::_)=>k
 |_=>""
noncomputable def tg2:D->Str
 |.tup [_,e]=>tg1 e
 |_=>""
def Kt.callI{fs:Sig}{gs:List Env}{T ts:List D}{g:List Str}{k j:Nat}{f:Str}{J:List D}(h:Kt fs gs T g k j)(e:T=apD (.tup [.str "call",.str f,.tup J])::ts):∃us s ss',sigL fs f=some (us,s)/\J.length=us.length/\g=us.reverse++ss':=by
 have a:∀{d:D}{l:List D},d::l=apD (.tup [.str "call",.str f,.tup J])::ts->tg1 d = "apply"/\tg2 d = "call":=λe=>by
  cases (List.cons.inj e).1
  exact⟨rfl,rfl⟩
 cases h
 case call hf hl q =>
  cases e
  exact⟨_,_,_,hf,hl,rfl⟩
 case done=>cases e
 case sum hk q =>
  rcases hk with rfl|rfl
  ·exact absurd (a e).2 (show ¬ ("add" : Str) = "call" by decide)
  exact absurd (a e).2 (show ¬ ("sub" : Str) = "call" by decide)
 case cons=>exact absurd (a e).2 (show ¬ ("cons" : Str) = "call" by decide)
 case node=>exact absurd (a e).2 (show ¬ ("node" : Str) = "call" by decide)
 case val=>exact absurd (a e).1 (show ¬ ("value" : Str) = "apply" by decide)
 case body=>exact absurd (a e).1 (show ¬ ("body" : Str) = "apply" by decide)
 case bring=>exact absurd (a e).1 (show ¬ ("bring" : Str) = "apply" by decide)
 case choose=>exact absurd (a e).1 (show ¬ ("choose" : Str) = "apply" by decide)
 case leave=>exact absurd (a e).1 (show ¬ ("leave" : Str) = "apply" by decide)
def Nx.grew{fns:List (Str×D)}{s s':Sx}{l:Option Str}(h:Nx fns s l s'):s'.cl.length=s.cl.length\/∃(f:Str)(J us:List D)(n0 sz b:D)(ps:List (Str×D))(ts rs:List D),s.ts=apD (.tup [.str "call",.str f,.tup J])::ts/\s.rs=us.reverse++rs/\rowG fns f=some (.tup [n0,pmD ps,sz,b])/\us.length=J.length/\s'=⟨s.cl++[⟨f,us,s.fr.head?.map Prod.fst,none⟩],ad s.st s.cl.length "call",(s.cl.length,(ps.map Prod.fst).zip us)::s.fr,bdD b::lvD::ts,rs⟩:=by
 cases h
 case leave=>exact .inl (by rw[zLa,zLa];rfl)
 case enter hf le _ _ _ _ _ _=>exact .inr ⟨_,_,_,_,_,_,_,_,_,rfl,rfl,hf,le,rfl⟩
 all_goals exact .inl rfl
def Wr(c:Ctx)(g:Gd)(a:List D):c.put (st01 g a)=⟨c.c0++[⟨g.1.nm,a,c.f0.head?.map Prod.fst,none⟩],ad c.s0 c.c0.length "call",(c.c0.length,(g.1.ps.map Prod.fst).zip a)::c.f0,bdD g.2::lvD::c.t0,c.r0⟩:=by
 show(⟨_,c.s0++[(0+c.c0.length,("call" : Str))],(0+c.c0.length,_)::_,_,_⟩:Sx)=_;rw[Nat.zero_add];rfl
def RsT.unrev{d:List Str}{l q:List D}{a:List Str}(h:RsT (d.reverse++a) (l.reverse++q))(e:l.length=d.length):RsT d l:=by
 obtain⟨p,r,g,h1,_⟩:=h.split;have hl:=h1.len;have:=List.append_inj_left g (by rw[hl,zaH,zaH];exact e)
 have h1:=h1.rev;rw[<- this,zcO,zcO]at h1;exact h1
def ent{gs:List Gd}{y:List Hd}(B:PG1 gs y){m:Nat}{s t:Sx}{b:Bool}(R:Rn (v8 gs) (sg1 y) m s t b):∀(i:Nat)(q:Rw),s.cl.length<=i->t.cl[i]?=some q->In2 s->In3 s->∃(c:Ctx)(g:Gd)(as:List D),g∈gs/\RsT (g.1.ps.map Prod.snd) as/\c.c0.length=i/\(∀p∈c.s0,p.1<i)/\q.nm=g.1.nm/\q.as=as/\In2 (c.put (st01 g as))/\Rn (v8 gs) (sg1 y) m (c.put (st01 g as)) t b:=by
 induction R with
 |done o h=>exact λi q a e=>absurd (zag.mp e).1 aD
 |cutB o h=>exact λi q a e=>absurd (zag.mp e).1 aD
 |cutM o h l=>exact λi q a e=>absurd (zag.mp e).1 aD
 |adm o h r ih =>
  intro i q a e i2 x;have u:=h.in3 o r.ok x;rcases h.grew with z|⟨f,J,us,n0,sz,b,ps,ts,rs,e1,e2,e3,e4,rfl⟩
  ·exact ih i q aD e (h.in2 o.nd o.op i2) u
  exact absurd h.len (by show(ad _ _ _).length≠_;unfold ad;rw[zLa];exact λz=>absurd z (by show ¬ _+1=_+0;lia))
 |stp o h l r ih =>
  rename_i s1 s2 t1 k1 b1;intro i q a e i2 x;have u:=h.in3 o r.ok x;have v:=h.in2 o.nd o.op i2;rcases h.grew with z|⟨f,J,us,n0,sz,b,ps,ts,rs,e1,e2,e3,e4,rfl⟩
  ·exact ih i q aD e v u
  rcases zcQ s1.cl.length i with z|z
  ·exact ih i q (by show(_++[_]).length<=i;rw[zLa];exact z) e v u
  have:s1.cl.length=i:=by lia
  subst this;obtain⟨_,ss,_,_,kt,_,_,rt⟩:=o.ex;obtain⟨G,s0,I,L,O,rfl⟩:=kt.callI e1;obtain⟨h',es,rfl,W⟩:=Hs L;obtain⟨rfl,rfl⟩:=Prod.mk.inj W;obtain⟨bb,mg⟩:=B.mem h' es;have j:=Z0 B.nd mg;rw[Le]at j;have d:=e3.symm.trans j
  injection d with d
  injection d with d
  simp only[List.cons.injEq,and_true]at d;obtain⟨_,V,_,rfl⟩:=d;have Q:ps.map Prod.fst=h'.ps.map Prod.fst:=by rw[<- Qm,V,Qm,d9]
  rw[e2]at rt;have N:=rt.unrev (e4.trans O);obtain⟨q',k,Z,Y,_⟩:=(r.later v).choose_spec.1.same s1.cl.length ⟨h'.nm,us,s1.fr.head?.map Prod.fst,none⟩ (by show(_++[_])[_]?=_;rw[zaC (zaj _),zbX];rfl)
  rw[e]at k;cases k;have ep:(⟨s1.cl,s1.st,s1.fr,ts,rs⟩:Ctx).put (st01 (h',b) us)=⟨s1.cl++[⟨h'.nm,us,s1.fr.head?.map Prod.fst,none⟩],ad s1.st s1.cl.length "call",(s1.cl.length,(ps.map Prod.fst).zip us)::s1.fr,bdD b::lvD::ts,rs⟩:=by
   rw[Wr,Q]
  exact⟨⟨s1.cl,s1.st,s1.fr,ts,rs⟩,(h',b),us,mg,N,rfl,x.sl,Z,Y,by rw[ep];exact v,by rw[ep];exact r⟩
theorem Bw:∀{ss:List Str}{as:List D},RsT ss as->∀p∈(ss.map D.str).zip as,FzT p.1 p.2
 |[],_,_,p,m=>by cases m
 |s::ss,_,⟨v,q,rfl,hv,h⟩,p,m=>by
  rcases zam.mp (show p∈(D.str s,v)::(ss.map D.str).zip q from m) with rfl|m
  ·rcases hv with⟨rfl,i,rfl⟩|⟨rfl,l,rfl,hl⟩|⟨rfl,t,rfl,a⟩
   ·exact .inl ⟨rfl,i,rfl⟩
   ·exact .inr (.inl ⟨rfl,l,rfl,by lia⟩)
   exact .inr (.inr ⟨rfl,t,rfl,by lia⟩)
  exact Bw h p m
noncomputable def mt:Sx:=⟨[],[],[],[],[]⟩
def Ends1(gs:List Gd)(a:List Hd)(g:Gd)(d:List D)(m:Nat)(t:Sx)(b:Bool):Prop:=(m=0/\t=mt/\b=true)\/(1<=m/\Rn (v8 gs) (sg1 a) m (st01 g d) t b)
def Bb{fs:Sig}{gs:List Env}{ts:List D}{a:List Str}{k j:Nat}(h:Kt fs gs ts a k j)(e:ts=[]):∃s,a=[s]:=by
 cases h <;> first|exact⟨_,rfl⟩|cases e
def Hc{C:Addr}{gs:List Gd}{I:List Hd}{g:Gd}{x:List D}(a:PG1 gs I)(u:g∈gs)(G:RsT (g.1.ps.map Prod.snd) x){m:Nat}(Y:m<=1000){t:Sx}{b:Bool}(e:Ends1 gs I g x m t b){M:EV->Prop}(h:M ⟨.new,rsD t b⟩):kn C RT FzT [.tup (gs.map gD),.str g.1.nm,.lst x,.int m] M:=by
 have y:=a.ok g u;have r:=Z0 a.nd u;rw[Le]at r;have al:=G.len;rw[zLm]at al;have n3:=y.n3;have N:=d8 g.1;have es:(v8 gs).map Prod.snd=gs.map gD:=by unfold v8;rw[zbI];rfl
 have f2:(v8 gs).map Prod.fst=gs.map λg=>g.1.nm:=by unfold v8;rw[zbI];rfl
 have s2:(psD g).map Prod.snd=(g.1.ps.map Prod.snd).map D.str:=by unfold psD;rw[zbI,zbI];rfl
 have L:zu (gs.map gD):=y8.mpr λd B=>by
  obtain⟨g,u,rfl⟩:=zah.mp B;exact(a.ok g u).pure
 refine⟨v8 gs,g.1.nm,x,m,_,psD g,_,_,by rw[es],by unfold v8;rw[zLm];have:=a.ln;lia,by rw[f2];exact a.nd,es▸L,λp W=>?_,r,zaA,?_,N.2.2.1,y.bt.pure,G.pure,by unfold psD;rw[zLm];exact al.symm,by lia,by rw[d9];exact y.nd,by rw[s2];exact Bw G,?_⟩
 ·obtain⟨g,_,rfl⟩:=zah.mp W;exact⟨_,rfl⟩
 ·rw[s2];exact y8.mpr λd B=>by
   obtain⟨z,_,rfl⟩:=zah.mp B;trivial
 rcases e with⟨rfl,rfl,rfl⟩|⟨O,R⟩
 ·exact xr (.inr rfl) (.inl ⟨rfl,h⟩)
 have e:qq m g.1.nm x (psD g) g.2 ms0=(st01 g x).ms:=by
  unfold qq;rw[zaJ aB,wr (by show ¬ (m:Int)<=0;lia),d9]
  rfl
 rw[e];refine Dl (λl=>.inl ⟨rfl,l,rfl,rfl⟩) (λt V=>.inr ⟨rfl,t,rfl,rfl,V⟩) a.fns (λf d q=>?_) Y R O (λz=>?_) (λz s1 h1 h2 Z=>?_)
 ·obtain⟨g,u,rfl⟩:=Qf q;exact(a.ok g u).pure
 ·subst z;obtain⟨o,q⟩:=R.end_ok;obtain⟨a0,ss,k,j,kt,_,_,rs⟩:=o.ex;obtain⟨s,rfl⟩:=Bb kt (q rfl);obtain⟨v,q,e,Q,rfl⟩:=rs;refine .inr ⟨rfl,v,[],by show t.rs.reverse=_;rw[e];rfl,Q.pure,?_⟩
  have ev:endV t false=v:=by show t.rs.headD .non=v;rw[e];rfl
  unfold rsD at h;rw[ev]at h;exact h
 subst z;refine .inl ⟨h1,?_⟩;rw[h2,Z];exact h
def tWh:FT:=g1 λd M=>∃i:Int,d=.int i/\M (dv (.bl true))
def c5{te:TD}{T:String}{U:DE}{M:EV->Prop}{b:Bool}(r:EV)(h:∀ G:EV->Prop,G r->te U G)(e:isT r.d T=some b)(k:M (dv (.bl b))):dCB sIsI (w6 te (w6 (dC (.ty T)) aNil)) U M:=h _ (by
 show match isT r.d T with|some b=>M (dv (.bl b))|none=>False
 rw[e];exact k)
def ni{te:TD}{T:String}{U:DE}(r:EV)(h:∀ G:EV->Prop,G r->te U G)(e:isT r.d T=some true):∀G:Bool->Prop,G false->bNot (tTru (dCB sIsI (w6 te (w6 (dC (.ty T)) aNil)))) U G:=λG k=>c5 r h e k
def F4{te:TD}{n:Int}{U:DE}(h:∀ G:EV->Prop,G (dv (.int n))->te U G):∀G:Bool->Prop,G false->tBo (d2 sNe te (dC (.int n))) U G:=λG k=>h _ ⟨zaI (ye ..),zaI (ye ..),(show G (!eqD (.int n) (.int n)) by rw[T8];exact k)⟩
def Eg{te:TD}{U:DE}(i:Int)(h:∀ G:EV->Prop,G (dv (.int i))->te U G):∀G:Bool->Prop,G false->bNot (tTru (Ys 1 tWh (w6 te aNil))) U G:=λG k=>h _ ⟨rfl,(show tWh [.int i] _ from⟨i,rfl,k⟩)⟩
def B3{te a:TD}{U:DE}{i j:Int}(h:∀ G:EV->Prop,G (dv (.int i))->te U G)(h2:∀ G:EV->Prop,G (dv (.int j))->a U G)(n:j<=i):∀G:Bool->Prop,G false->tBo (d2 sLt te a) U G:=λG k=>h _ (h2 _ (show G (decide (i<j)) by rw[zbQ aD];exact k))
def Bu{te a:TD}{U:DE}{i j:Int}(h:∀ G:EV->Prop,G (dv (.int i))->te U G)(h2:∀ G:EV->Prop,G (dv (.int j))->a U G)(n:i<j):∀G:Bool->Prop,G false->tBo (d2 sGe te a) U G:=λG k=>h _ (h2 _ (show G (decide (j<=i)) by rw[zbQ aD];exact k))
def Ax{a b:TDb}{U:DE}(h:∀ G:Bool->Prop,G false->a U G):∀G:Bool->Prop,G false->bAnd a b U G:=λG k=>h _ ⟨λz=>(nomatch z),λ_=>k⟩
def Aw{a b:TDb}{U:DE}(h:∀ G:Bool->Prop,G true->a U G)(h2:∀ G:Bool->Prop,G false->b U G):∀G:Bool->Prop,G false->bAnd a b U G:=λG k=>h _ ⟨λ_=>h2 _ k,λz=>nomatch z⟩
structure PlOk(t:Sx):Prop where
 up:∀(i:Nat)(q:Rw),t.cl[i]?=some q->(i=0/\q.up=none)\/∃p,p<i/\q.up=some p
 sl:∀p∈t.st,p.1<t.cl.length
 cl:t.cl.length<=1000
 st:t.st.length<=1000
def tPl:FT:=g1 λd M=>∃t b,d=rsD t b/\PlOk t/\M (dv (.bl true))
def gk(X:AX K mg C):FD P w K mg base 1 "_law_whole" ["_law_found"] tWh:=by
 obtain⟨f,fd,F,m⟩:=X.f "_law_whole" 31 aB
 have ds:zo ["_law_found"] ["_law_found"] (zd (top 31)):=by walk_at "f"
 walk_at "b";refine⟨_,(zm (yb (Wa (yh X.T.isinstance (za (z9 0) (za (t6 X.T.int jo) zb))) (W8 (Oh (yh X.T.isinstance (za (z9 0) (za (t6 X.T.bool t7) zb)))))))),?_⟩;obtain⟨d,rfl,i,rfl,h⟩:=Vo hT;exact c5 (dv (.int i)) aA (c4 i) ⟨λ_=>c5 (dv (.int i)) aA (gh i) ⟨zaA,h⟩,λz=>nomatch z⟩
def gm(X:AX K mg C):FD P w K mg base 2 "_law_plain" ["_law_found"] tPl:=by
 obtain⟨f,fd,F,m⟩:=X.f "_law_plain" 32 aB
 have ds:zo ["_law_found","_law_k","_law_row","_law_step"] ["_law_found"] (zd (top 32)):=by walk_at "f"
 walk_at "b";refine⟨_,(ze (yj (xn (EW.et (ua (xu (x4 (yh X.T.isinstance (za (z9 0) (za (t6 X.T.tuple xm) zb))))) (ua (Yn hu (yo X.T.len (za (z9 0) zb)) zc) (uj (xu (x4 (yh X.T.isinstance (za (zf hu (z9 0) zc) (za (t6 X.T.bool t7) zb))))))))) (zm (yb wy)) yr))
   (ze (yj (xn (EW.et (ua (xu (x4 (yh X.T.isinstance (za (zf hu (z9 0) zc) (za (t6 X.T.list g6) zb))))) (uj (xu (x4 (yh X.T.isinstance (za (zf hu (z9 0) zc) (za (t6 X.T.list g6) zb)))))))) (zm (yb wy)) yr))
   (ze (yj (uu (vn X.T.range (za (yo X.T.len (za (zf hu (z9 0) zc) zb)) zb)) (zn (i:=1) ds.nd rfl aG) (ym 1) (ze (zw 2 ds.nd (zf hu (zf hu (z9 0) zc) (z9 1)))
    (ze (xn (EW.et (ua (xu (x4 (yh X.T.isinstance (za (z9 2) (za (t6 X.T.tuple xm) zb))))) (ua (Yn hu (yo X.T.len (za (z9 2) zb)) zc) (uj (xu (x4 (yh X.T.isinstance (za (zf hu (z9 2) zc) (za (t6 X.T.bool t7) zb))))))))) (zm (yb wy)) yr)
    (ze (xn (EW.et (ua (xu (x4 (yh X.T.isinstance (za (zf hu (z9 2) zc) (za (t6 X.T.tuple xm) zb))))) (uj (xu (x4 (yh X.T.isinstance (za (zf hu (z9 2) zc) (za (t6 X.T.str Wg) zb)))))))) (zm (yb wy)) yr)
    (zm (xn (EW.et (ua (EW.et (jg (Sy (z9 1) zc) (rh (EW.et (ua (xu (x4 (zy (gk X) (hr.e rfl) (za (zf hu (z9 2) zc) zb)))) (ua (Sw (zf hu (z9 2) zc) zc) (uj (R5 (zf hu (z9 2) zc) (z9 1))))))))) (uj (EW.et (jg (xy hu (z9 1) zc) (rh (Yo (zf hu (z9 2) zc) uk))))))) (zm (yb wy)) yr)))))))
   (ze (yj (uu (xo (zf hu (z9 0) zc)) (zn (i:=3) ds.nd rfl aG) (ym 3) (ze (xn (EW.et (ua (xu (x4 (yh X.T.isinstance (za (z9 3) (za (t6 X.T.tuple xm) zb))))) (ua (Yn hu (yo X.T.len (za (z9 3) zb)) zc) (uj (xu (x4 (zy (gk X) (hr.e rfl) (za (zf hu (z9 3) zc) zb)))))))) (zm (yb wy)) yr)
    (zm (xn (EW.et (ua (Sw (zf hu (z9 3) zc) zc) (ua (R5 (zf hu (z9 3) zc) (yo X.T.len (za (zf hu (z9 0) zc) zb))) (uj (xu (x4 (yh X.T.isinstance (za (zf hu (z9 3) zc) (za (t6 X.T.str Wg) zb))))))))) (zm (yb wy)) yr)))))
   (zm (yb wy)))))),?_⟩
 obtain⟨d,rfl,t,b,rfl,pl,h⟩:=Vo hT;have D:=pl.cl;refine yx (λU=>U=[q_ (rsD t b),none,none,none]) (uo false (λG k=>vq (ni (dv (rsD t b)) aA (xa _)) (λG k=>vq (F4 λG h=>h) (ni (dv (.bl (!b))) aA (k5 _)) k) k) nofun (λ_=>rfl)) ?_;rintro _ rfl;refine yx (λU=>U=[q_ (rsD t b),none,none,none]) (uo false (λG k=>vq (ni (dv (.lst (t.cl.map Rw.d))) aA (sy _)) (ni (dv (.lst (t.st.map λp:Nat×Str=>stp p.1 p.2))) aA (sy _)) k) nofun (λ_=>rfl)) ?_;rintro _ rfl;refine yx (λU=>∃a g,U=[q_ (rsD t b),a,g,none]) ?_ ?_
 ·refine vd (rngD 0 t.cl.length) (λG l=>?_) (λi U=>∃a g,U=[q_ (rsD t b),a,g,none]) ⟨none,none,rfl⟩ ?_ aA
  ·refine(show -(2 ^ 62)<=(((t.cl.map Rw.d).length:Nat):Int)/\(((t.cl.map Rw.d).length:Nat):Int)<2 ^ 62/\G (rngD 0 (((t.cl.map Rw.d).length:Nat):Int).toNat) from ?_);rw[zLm];exact⟨by lia,by lia,l⟩
  rintro i d _ r ⟨a,g,rfl⟩;obtain⟨hi,rfl⟩:=tw r;rw[zfM];have x:=zaf hi;have v:atI (t.cl.map Rw.d) (i:Int)=some t.cl[i].d:=wz aD (by rw[zai,zbD,x];rfl)
  have up:=pl.up i _ x;generalize t.cl[i]=q at v up;refine cg (yk ?_);refine kq (K3 (dv (.lst (t.cl.map Rw.d))) (dv (.int i)) aA aA (yz v ⟨zaA,?_⟩))
  dsimp only
  refine(show sSeq _ _ [q_ (rsD t b),q_ (.int i),q_ q.d,none] _ from yk ?_);refine uo false (λG k=>vq (ni (dv q.d) aA (xa _)) (λG k=>vq (F4 λG h=>h) (ni (dv (.bl q.en.isSome)) aA (k5 _)) k) k) nofun (λ_=>?_)
  dsimp only [sNil]
  refine(show sSeq _ _ [q_ (rsD t b),q_ (.int i),q_ q.d,none] _ from yk ?_);refine uo false (λG k=>vq (ni (dv (.tup q.as)) aA (xa _)) (ni (dv (.str q.nm)) aA (qz _)) k) nofun (λ_=>?_)
  dsimp only [sNil]
  refine(show sIf _ _ _ [q_ (rsD t b),q_ (.int i),q_ q.d,none] _ from ?_);refine uo false (λG k=>?_) nofun (λ_=>⟨_,_,rfl⟩);obtain⟨nm,as,u,en⟩:=q;rcases up with⟨rfl,e⟩|⟨p,B,e⟩
  ·cases (show u=none from e)
   exact vq (Ax λG k=>k) (Aw (λG k=>⟨zaI (ye ..),zaI (ye ..),k⟩) λG k=>k) k
  cases (show u=some p from e)
  refine vq (Aw (λG k=>(show G (decide ((0:Int)<i)) by rw[zdT aD];exact k)) λG k=>vq (Eg p λG h=>h) (λG k=>vq (B3 (i:=p) (j:=0) aA aA aD) (Bu (i:=p) (j:=i) aA aA aD) k) k) (Ax λG k=>⟨zaI (ye ..),zaI (ye ..),(show G (eqD (.int i) (.int 0)) by rw[g0,zbA.mpr aD];exact k)⟩) k
 rintro _ ⟨a,g,rfl⟩;refine yx (λU=>∃c,U=[q_ (rsD t b),a,g,c]) ?_ ?_
 ·refine vd (t.st.map λp:Nat×Str=>stp p.1 p.2) (λG l=>⟨zaA,l⟩) (λi U=>∃c,U=[q_ (rsD t b),a,g,c]) ⟨none,rfl⟩ ?_ aA;rintro i d _ r ⟨c,rfl⟩;obtain⟨p,y,rfl⟩:=zah.mp (zan r);have sl:=pl.sl p y;refine cg ?_;refine(show sSeq _ _ [q_ (rsD t b),a,g,q_ (stp p.1 p.2)] _ from yk ?_);refine uo false (λG k=>vq (ni (dv (stp p.1 p.2)) aA (xa _)) (λG k=>vq (F4 λG h=>h) (Eg p.1 λG h=>h) k) k) nofun (λ_=>?_)
  dsimp only [sNil]
  refine(show sIf _ _ _ [q_ (rsD t b),a,g,q_ (stp p.1 p.2)] _ from ?_);exact uo false (λG k=>vq (B3 (i:=p.1) (j:=0) aA aA aD) (λG k=>vq (Bu (i:=p.1) (j:=((t.cl.map Rw.d).length:Int)) aA aA (by rw[zLm];lia)) (ni (dv (.str p.2)) aA (qz _)) k) k) nofun (λ_=>⟨_,rfl⟩)
 rintro _ ⟨c,rfl⟩;exact⟨zaA,h⟩
theorem Nx.ts{fns:List (Str×D)}{s s':Sx}{l:Option Str}(h:Nx fns s l s'):s.ts≠[]:=by
 cases h <;> exact nofun
def Ed(s:Sx):Prop:=s.fr≠[]\/∃q v rs,s.cl[0]?=some q/\q.en=some v/\s.rs=v::rs
def Nx.e0{fns:List (Str×D)}{s s':Sx}{l:Option Str}(h:Nx fns s l s')(d:s.fr≠[])(i:L0 s):Ed s':=by
 cases h
 case leave c1 c2 st n r fr ts v rs q hn' he pa pv =>
  cases fr with
  |cons p q=>exact .inl nofun
  |nil =>
   have a:n=0:=i n rfl;subst a;cases List.length_eq_zero_iff.mp hn';exact .inr ⟨_,v,rs,rfl,rfl,rfl⟩
 all_goals first|exact .inl d|exact .inl nofun
theorem Rn.e0{fns:List (Str×D)}{fs:Sig}{m:Nat}{s t:Sx}{b:Bool}(r:Rn fns fs m s t b)(e:Ed s)(i:L0 s):Ed t:=by
 induction r with
 |done o h=>exact e
 |cutB o h=>exact e
 |cutM o h l=>exact e
 |adm o h r ih=>exact ih (h.e0 (o.fr h.ts) i) (h.l0 i (o.fr h.ts))
 |stp o h l r ih=>exact ih (h.e0 (o.fr h.ts) i) (h.l0 i (o.fr h.ts))
def Ok.nil{fs:Sig}{s:Sx}(o:Ok fs s)(h:s.ts=[]):s.fr=[]:=by
 obtain⟨gs,a,k,j,kt,_,fr,_⟩:=o.ex;rw[h]at kt;cases kt;exact fr
theorem Tf{cl:List Rw}(h:∀ (i:Nat) q p,cl[i]?=some q->q.up=some p->p<i):∀{l:List Nat}{n:Nat},UpC cl (n::l)->∀x∈l,x<n
 |[],_,_,x,hx=>nomatch hx
 |p::l,n,⟨⟨q,e,u⟩,t⟩,x,hx=>by
  have a:=h n q p e u;rcases zam.mp hx with rfl|hx
  ·exact a
  exact zeO (Tf h t x hx) a
noncomputable def sh(k:Nat)(p:Nat×Str):Nat×Str:=(p.1+k,p.2)
structure Blk(t:Sx)(k:Nat)(u:Sx):Prop where
 ts:u.ts=[]
 row:∀(j:Nat) r,u.cl[j]?=some r->∃x,t.cl[k+j]?=some (shR k x r)/\∀p,x=some p->p<k
 out:∀(j:Nat) q p,k+u.cl.length<=j->t.cl[j]?=some q->q.up=some p->¬ (k<=p/\p<k+u.cl.length)
 st:∃a z,t.st=a++u.st.map (sh k)++z/\∀p∈a++z,¬ (k<=p.1/\p.1<k+u.cl.length)
 en:∃q v rs,u.cl[0]?=some q/\q.en=some v/\u.rs=v::rs
def Au{fns:List (Str×D)}{fs:Sig}{m Y:Nat}{c:Ctx}{g:Gd}{B:List D}{t t':Sx}{b:Bool}(lt:∀ p∈c.s0,p.1<c.c0.length)(i2:In2 (c.put (st01 g B)))(Lt:∀ (i:Nat) q p,t.cl[i]?=some q->q.up=some p->p<i)(al:∀ j,j<t.cl.length->∃ k,(j,k)∈t.st)(N:t'.ts=[])(es:Rn fns fs Y (st01 g B) t' false)(i3:In3 (st01 g B))(same:∃ more,z0a (c.put (st01 g B)) t more)(R2:Rn fns fs m (c.put t') t b)(Z:In2 (c.put t')):Blk t c.c0.length t':=by
 obtain⟨more,L,_⟩:=R2.later Z;have o':=es.end_ok.1;have Q:=o'.nil N;have I:=es.in3 i3;have ac:acts (c.put t')=c.f0.map Prod.fst:=by
  show(t'.fr.map c.ps++c.f0).map Prod.fst=_;rw[Q];rfl
 have R:∀x∈c.f0.map Prod.fst,x<c.c0.length:=by
  obtain⟨m0,L0⟩:=same;have up:UpC (c.put (st01 g B)).cl (c.c0.length::c.f0.map Prod.fst):=by
   have:=i2.up;rw[Wr]at this;rw[Wr];exact this
  refine Tf (λi q p e u=>?_) up;obtain⟨W,e',_,_,V⟩:=L0.same i q e;exact Lt i W p e' (V.trans u)
 have O:∀j,c.c0.length<=j->j∉acts (c.put t'):=λj hj z=>by
  rw[ac]at z;exact absurd (R j z) aD
 have G:∀(j:Nat) r,t'.cl[j]?=some r->(c.put t').cl[c.c0.length+j]?=some (c.pr r):=λj r e=>by
  show(c.c0++t'.cl.map c.pr)[c.c0.length+j]?=_;rw[zaC (zcH ..),Nat.add_sub_cancel_left,zai,e];rfl
 have ln:(c.put t').cl.length=c.c0.length+t'.cl.length:=by
  show(c.c0++t'.cl.map c.pr).length=_;rw[zLa,zLm]
 have gone:∀i,c.c0.length<=i->i<c.c0.length+t'.cl.length->∀p∈more,¬ Ch t.cl p.1 i:=λi h1 h2=>by
  have e:(c.put t').cl[i]?=some ((c.put t').cl[i]' aD):=zaf _
  exact(L.gone i _ e (O i h1)).2
 refine⟨N,λj r e=>⟨c.f0.head?.map Prod.fst,(L.gone _ _ (G j r e) (O _ (zcH ..))).1,λp d=>?_⟩,λj q p hj e u d=>?_,⟨c.s0,more,?_,λp d=>?_⟩,?_⟩
 ·refine R p ?_;cases hc:c.f0 with
  |nil=>rw[hc]at d;cases d
  |cons x l =>
   rw[hc]at d;cases d;exact zao
 ·-- a later call has its step behind
  obtain⟨kd,v⟩:=al j (zag.mp e).1;rw[L.st]at v;rcases zas.mp v with v|v
  ·rcases zas.mp (show(j,kd)∈c.s0++t'.st.map c.ps from v) with v|v
   ·have:=lt _ v;exact absurd this (by show ¬ j<_;lia)
   obtain⟨y,hy,ey⟩:=zah.mp v;have:=I.sl y hy;have e1:y.1+c.c0.length=j:=zbP Prod.fst ey;lia
  exact gone p d.1 d.2 _ v (.up e u .refl)
 ·rw[L.st];rfl
 ·rcases zas.mp d with d|d
  ·have:=lt p d;lia
  exact λz=>gone p.1 z.1 z.2 p d .refl
 rcases es.e0 (.inl (show _::_≠_ from nofun)) (λn hn=>by cases hn;rfl) with z|z
 ·exact absurd Q z
 exact z
def yy{i:Nat}{te:TD}{u:TDS}{U:DE}{Z:DZ}(h:te U λr=>(match r.k with|.own=>False|_=>True)/\u (setS U i r.sto) Z):sSeq (sSet i te) u U Z:=h
def tWhA:FT:=λS M=>∃d b,S=[d]/\(((∃i:Int,d=.int i)/\b=true)\/((d=.non\/∃l,d=.tup l)/\b=false))/\M (dv (.bl b))
def tSm:FT:=λS M=>∃s v,S=[v]/\Vt s v/\∀b:Bool,M (dv (.bl b))
def Ut{te:TD}{U:DE}{M:EV->Prop}(h:te U λr=>sLen [r.d] M):dCB sLen (w6 te aNil) U M:=h
def Oe{te:TD}{U:DE}{n:Nat}{G:Bool->Prop}(h:∀ M:EV->Prop,M (dv (.int n))->te U M)(k:G (eqD (.int n) (.int 0))):tBo (d2 sEq te (dC (.int 0))) U G:=h _ ⟨zaI (ye ..),zaI (ye ..),k⟩
noncomputable def notI:D->Option D
 |.int _=>none
 |d=>some d
def J3(t:Tr):notI t.d=some t.d:=by cases t <;> rfl
def tupD(t:Tr):t.d=.non\/∃l,t.d=.tup l:=by
 cases t with
 |lf=>exact .inl rfl
 |nd l v r=>exact .inr ⟨_,rfl⟩
def si(X:AX K mg C):FD P w K mg base 1 "_law_whole" ["_law_found"] tWhA:=by
 obtain⟨f,fd,F,m⟩:=X.f "_law_whole" 31 aB
 have ds:zo ["_law_found"] ["_law_found"] (zd (top 31)):=by walk_at "f"
 walk_at "b";refine⟨_,(zm (yb (Wa (yh X.T.isinstance (za (z9 0) (za (t6 X.T.int jo) zb))) (W8 (Oh (yh X.T.isinstance (za (z9 0) (za (t6 X.T.bool t7) zb)))))))),?_⟩;obtain⟨d,b,rfl,a,h⟩:=hT;rcases a with⟨⟨i,rfl⟩,rfl⟩|⟨rfl|⟨l,rfl⟩,rfl⟩
 ·exact⟨λ_=>⟨zaA,h⟩,nofun⟩
 ·exact⟨nofun,λ_=>⟨zaA,h⟩⟩
 exact⟨nofun,λ_=>⟨zaA,h⟩⟩
def W3(X:AX K mg C):FD P w K mg base 2 "_law_small" ["_law_thing"] tSm:=by
 obtain⟨f,fd,F,m⟩:=X.f "_law_small" 33 aB
 have ds:zo ["_law_thing","_law_many","_law_rest","_law_part"] ["_law_thing"] (zd (top 33)):=by walk_at "f"
 walk_at "b";refine⟨_,(ze (xn (x4 (zy (si X) (hr.e rfl) (za (z9 0) zb))) (zm (yb (Ah (On X.T.abs (za (z9 0) zb)) (jh zc zc)))) yr)
   (ze (zw 1 ds.nd zc)
   (ze (zw 2 ds.nd (x5 (za (z9 0) zb)))
   (ze (xn (EW.et (jg (x4 (yh X.T.isinstance (za (z9 0) (za (t6 X.T.tuple xm) zb)))) (rh (xy hu (yo X.T.len (za (sk (T:=["_law_part"]) (F:=[]) (js:=[]) (xo (z9 0)) (show y0 (zd (top 33)) _ _ _ from by walk_at "c") .nil aB (by walk_at "t") (yi aB) (ym 0) (λcl C fp s H=>(k9 (xu (x4 (zy (si X) (hr.e rfl) (za (z9 0) zb)))))) (λcl C fp s H=>(z9 0))) zb)) zc)))) (zm (yb (Wa (Ai (yo X.T.len (za (z9 0) zb)) zc) (W8 (Ak hu (yo X.T.len (za (sk (T:=["_law_part"]) (F:=[]) (js:=[]) (xo (z9 0)) (show y0 (zd (top 33)) _ _ _ from by walk_at "c") .nil aB (by walk_at "t") (yi aB) (ym 0) (λcl C fp s H=>(k9 (R5 (On X.T.abs (za (z9 0) zb)) (jh zc zc)))) (λcl C fp s H=>(z9 0))) zb)) zc))))) yr)
   (ze (Y2 (EW.et (jg (Sy (yo X.T.len (za (z9 2) zb)) zc) (rh (z1x (z9 1) zc)))) (ze (Q3 2 3 ds.nd)
    (zm (xn (Yo (z9 3) uk) (ze (xn (EW.et (ua (xu (x4 (yh X.T.isinstance (za (z9 3) (za (t6 X.T.tuple xm) zb))))) (ua (Yn hu (yo X.T.len (za (z9 3) zb)) zc) (ua (xu (x4 (zy (si X) (hr.e rfl) (za (zf hu (z9 3) zc) zb)))) (uj (R5 (On X.T.abs (za (zf hu (z9 3) zc) zb)) (jh zc zc))))))) (zm (yb wy)) yr)
     (ze (zw 1 ds.nd (x3 (z9 1) zc))
     (zm (zw 2 ds.nd (x3 (z9 2) (x5 (za (zf hu (z9 3) zc) (za (zf hu (z9 3) zc) zb)))))))) yr))))
   (zm (yb (Ai (z9 1) zc)))))))),?_⟩
 obtain⟨s,v,rfl,B,h⟩:=hT;rcases B with⟨_,i,rfl⟩|⟨_,l,rfl,hl⟩|⟨_,t,rfl,N⟩
 ·exact yk (uo true (λG k=>⟨rfl,_,true,rfl,.inl ⟨⟨i,rfl⟩,rfl⟩,k⟩) (λ_=>⟨⟨by decide,by decide,by decide⟩,zaA,h _⟩) nofun)
 ·refine yk (uo false (λG k=>⟨rfl,_,false,rfl,.inr ⟨.inr ⟨_,rfl⟩,rfl⟩,k⟩) nofun λ_=>t9 ?_)
  dsimp only
  refine yy ⟨zaA,yy ⟨rfl,rfl,zaA,?_⟩⟩;refine wq (ρ':=[q_ (.tup (l.map D.int)),q_ (.int 0),Q_ (.lst [.tup (l.map D.int)]),none]) (by rfl) (yk ?_)
  have u:(l.map D.int).length<=100000:=by rw[zLm];lia
  refine uo true (λG k=>c5 (dv (.tup (l.map D.int))) aA (xa _) ⟨λ_=>Oe (n:=0) (λM h=>Ut (xx (l.map D.int) (λG a=>⟨zaA,a⟩) (λ_=>none) u (λd g=>?_) ?_)) k,nofun⟩) (λ_=>⟨λ_=>?_,λ_=>⟨zaA,h _⟩⟩) nofun
  ·obtain⟨i,_,rfl⟩:=zah.mp g;exact⟨rfl,_,true,rfl,.inl ⟨⟨i,rfl⟩,rfl⟩,nofun,λ_=>rfl⟩
  ·rw[show(l.map D.int).filterMap (λ_=>(none:Option D))=[] from List.filterMap_eq_nil_iff.mpr λ_ _=>rfl];exact h
  refine(show dCB sLen _ _ _ from Ut (xx (l.map D.int) (λG a=>⟨zaA,a⟩) (λd=>match d with|.int i=>if (if i<0 then -i else i) ≥ 10 ^ 60 then some (.int i) else none|_=>none) u (λd g=>?_) ⟨zaI (ye ..),zaI (ye ..),zaA,h _⟩))
  obtain⟨i,_,rfl⟩:=zah.mp g;exact⟨⟨by decide,by decide,by decide⟩,λz=>⟨zaA,zaK (zbN z)⟩,λz=>zaJ (zcX z)⟩
 refine yk (uo false (λG k=>⟨rfl,_,false,rfl,.inr ⟨tupD t,rfl⟩,k⟩) nofun λ_=>t9 ?_)
 dsimp only
 refine yy ⟨zaA,yy ⟨rfl,rfl,zaA,?_⟩⟩;refine wq (ρ':=[q_ t.d,q_ (.int 0),Q_ (.lst [t.d]),none]) (by rfl) (yk ?_)
 refine uo false (λG k=>?_) nofun λ_=>t9 ?_
 ·cases t with
  |lf=>exact c5 (dv .non) aA rfl ⟨nofun,λ_=>k⟩
  |nd l v r =>
   refine c5 (dv (.tup [l.d,.int v,r.d])) aA (xa _) ⟨λ_=>Oe (n:=2) (λM h=>Ut (xx [l.d,.int v,r.d] (λG a=>⟨zaA,a⟩) notI (zaP rfl) (λd g=>?_) ?_)) k,nofun⟩
   ·simp only[zam,zaW,zdN]at g;rcases g with rfl|rfl|rfl
    ·exact⟨rfl,_,false,rfl,.inr ⟨tupD l,rfl⟩,λ_=>⟨zaA,J3 l⟩,nofun⟩
    ·exact⟨rfl,_,true,rfl,.inl ⟨⟨v,rfl⟩,rfl⟩,nofun,λ_=>rfl⟩
    exact⟨rfl,_,false,rfl,.inr ⟨tupD r,rfl⟩,λ_=>⟨zaA,J3 r⟩,nofun⟩
   cases l <;> cases r <;> exact h
 dsimp only
 refine yk ?_;refine⟨λU=>∃(ts:List Tr)(a3:Option EV)(k:Int),U=[q_ t.d,q_ (.int k),Q_ (.lst (ts.map Tr.d)),a3]/\sumZ (ts.map Tr.d)<=500,λU=>match U with
  |[_,_,some ⟨_,.lst S⟩,_]=>sumZ S
  | _=>0,⟨[t],none,0,rfl,by simp[sumZ,Tr.sz];lia⟩,?_⟩
 rintro U ⟨ts,a2,k,rfl,x⟩;refine⟨λz=>⟨λ_=>?_,λ_=>⟨zaA,h _⟩⟩,λ_=>⟨nofun,λ_=>⟨zaA,h _⟩⟩⟩;rcases zeB ts with rfl|⟨ts,q,rfl⟩
 ·cases z
 rw[zdL,zMa]at x ⊢;rw[u7]at x;have hl:=f6 (ts.map Tr.d);have j:sumZ (ts.map Tr.d++[q].map Tr.d)=sumZ (ts.map Tr.d)+szD q.d:=by rw[u7];simp[sumZ]
 have L:sumZ ([q].map Tr.d)=szD q.d:=by simp[sumZ]
 have y:=Zu q.d;cases q with
 |lf =>
  refine Za (S:=ts.map Tr.d) rfl ⟨nofun,λ_=>⟨⟨ts,_,k,rfl,by lia⟩,?_⟩⟩
  exact Nat.lt_of_lt_of_eq (zeV y) j.symm
 |nd l v r =>
  have es:szD (Tr.nd l v r).d=1+szD l.d+szD r.d:=by simp[Tr.d,szD]
  rw[es]at j L;have I:sumZ (ts.map Tr.d++[l.d,r.d])=sumZ (ts.map Tr.d)+szD l.d+szD r.d:=by rw[u7];simp[sumZ];lia
  refine Za (S:=ts.map Tr.d) rfl ⟨λ_=>(show sSeq _ _ [q_ t.d,q_ (.int k),Q_ (.lst (ts.map Tr.d)),q_ (.tup [l.d,.int v,r.d])] _ from yk (Wu (Q:=True) (λG a=>c5 (dv (.tup [l.d,.int v,r.d])) aA (xa _) ⟨nofun,λ_=>⟨zaI (ye ..),zaI (ye ..),nofun,λ_=>⟨rfl,_,true,rfl,.inl ⟨⟨v,rfl⟩,rfl⟩,nofun,λ_=>⟨⟨by decide,by decide,by decide⟩,a _ λ_=>trivial⟩⟩⟩⟩) (λ_=>⟨zaA,h _⟩) (t9 ?_))),nofun⟩
  dsimp only
  refine yy ⟨zaA,rfl,rfl,?_,zaA,⟨ts++[l,r],q_ (.tup [l.d,.int v,r.d]),k+1,by rw[zMa];rfl,?_⟩,?_⟩
  ·rw[zbH,show(List.map EV.d [dv l.d,dv r.d]).length=2 from rfl];lia
  ·simp only[zMa,zaB,zbO];lia
  refine(show sumZ (ts.map Tr.d++[l.d,r.d])<sumZ (ts.map Tr.d++[Tr.nd l v r].map Tr.d) from ?_);rw[I,j];lia
def Al(s:Sx):Prop:=∀j,j<s.cl.length->∃kd,(j,kd)∈s.st
def Nx.al{fns:List (Str×D)}{s s':Sx}{l:Option Str}(h:Nx fns s l s')(a:Al s):Al s':=by
 have up:∀{cl:List Rw}{st:List (Nat×Str)}{n:Nat}{k:Str}{cl':List Rw},cl'.length=cl.length->(∀j,j<cl.length->∃kd,(j,kd)∈st)->∀j,j<cl'.length->∃kd,(j,kd)∈ad st n k:=λe a j d=>by
  obtain⟨kd,m⟩:=a j (e▸d);exact⟨kd,zaF _ m⟩
 cases h
 case leave=>exact λj d=>a j (by simpa using d)
 case enter cl st fr ts rs f J us n0 sz b ps _ _ _ _ _ _ _ _ =>
  intro j d;by_cases z:j<cl.length
  ·obtain⟨kd,m⟩:=a j z;exact⟨kd,zaF _ m⟩
  have d:j<(cl++[_]).length:=d;rw[zLa,zdD]at d;have:j=cl.length:=by lia
  subst this;exact⟨_,zaD _ zao⟩
 all_goals first|exact a|exact up rfl a
theorem Rn.al{fns:List (Str×D)}{fs:Sig}{m:Nat}{s t:Sx}{b:Bool}(r:Rn fns fs m s t b)(a:Al s):Al t:=by
 induction r with
 |done o h=>exact a
 |cutB o h=>exact a
 |cutM o h l=>exact a
 |adm o h r ih=>exact ih (h.al a)
 |stp o h l r ih=>exact ih (h.al a)
def Qj(s:Sx):(⟨[],[],[],[],[]⟩:Ctx).put s=s:=by
 obtain⟨cl,st,fr,ts,rs⟩:=s;have e1:cl.map (⟨[],[],[],[],[]⟩:Ctx).pr=cl:=by
  refine(List.map_congr_left λq _=>?_).trans (List.map_id _);obtain⟨a,e,u,d⟩:=q;cases u <;> rfl
 have e2:∀{α:Type}(l:List (Nat×α)),l.map (⟨[],[],[],[],[]⟩:Ctx).ps=l:=λl=>List.map_id l;show(⟨[]++cl.map _,[]++st.map _,fr.map _++[],ts++[],rs++[]⟩:Sx)=_;rw[e1,e2,e2,zaX,zaX,zaX];rfl
def Bk{gs:List Gd}{B:List Hd}{g:Gd}{as:List D}(v:PG1 gs B)(G:g∈gs)(O:RsT (g.1.ps.map Prod.snd) as){m:Nat}(m1:1<=m){t:Sx}{b:Bool}(R:Rn (v8 gs) (sg1 B) m (st01 g as) t b){k:Nat}{q:Rw}(e:t.cl[k]?=some q)(en:q.en.isSome=true) :
  ∃g' a u,g'∈gs/\RsT (g'.1.ps.map Prod.snd) a/\q.nm=g'.1.nm/\q.as=a/\Blk t k u/\(∀m',u.st.length<=m'->Rn (v8 gs) (sg1 B) m' (st01 g' a) u false)/\u.st.length<=m:=by
 have pf:∀f d,rowG (v8 gs) f=some d->zi d:=λf d z=>by
  obtain⟨g,G,rfl⟩:=Qf z;exact(v.ok g G).pure
 obtain⟨o0,i2,W,_⟩:=dg (v.ok g G) O;have j3:=R.in3 W;have Lt:∀(i:Nat) q p,t.cl[i]?=some q->q.up=some p->p<i:=λi q p e u=>by
  rcases j3.up i q e with⟨_,z⟩|⟨p',lt,z⟩
  ·rw[u]at z;cases z
  rw[u]at z;cases z;exact lt
 have al:=R.al (λj hj=>⟨"call",by have:j=0:=Nat.lt_one_iff.mp hj;subst this;exact zao⟩)
 have x:∀(c:Ctx)(g':Gd)(a:List D),g'∈gs->RsT (g'.1.ps.map Prod.snd) a->c.c0.length=k->(∀p∈c.s0,p.1<k)->In2 (c.put (st01 g' a))->Rn (v8 gs) (sg1 B) m (c.put (st01 g' a)) t b ->
   ∃u,Blk t k u/\(∀m',u.st.length<=m'->Rn (v8 gs) (sg1 B) m' (st01 g' a) u false)/\u.st.length<=m:=λc g' a l r I lt y N=>by
  obtain⟨p0,_,p3,_⟩:=dg (v.ok g' l) r;obtain⟨u,zt,_,Z,R2,w2⟩:=seg v.fns pf N c (st01 g' a) rfl p0 (by show _::_≠_;exact nofun) (λn hn=>by cases hn;rfl) y ⟨q,by rw[I];exact e,en⟩
  refine⟨u,?_,Z,?_⟩
  ·subst I;obtain⟨more,L,_⟩:=N.later y;exact Au lt y Lt al zt (Z _ (zaj _)) p3 ⟨more,L⟩ R2 w2
  obtain⟨more,L,_⟩:=R2.later w2;have h1:=R.few (by exact m1)
  have h2:=zbP List.length L.st;have es:(c.put u).st.length=c.s0.length+u.st.length:=by
   show(c.s0++u.st.map c.ps).length=_;rw[zLa,zLm]
  rw[zLa]at h2;lia
 cases k with
 |zero =>
  obtain⟨more,L,_⟩:=R.later i2;obtain⟨q',Y,V,Q,_⟩:=L.same 0 ⟨g.1.nm,as,none,none⟩ rfl;rw[e]at Y;cases Y;obtain⟨u,h1,h2,es⟩:=x ⟨[],[],[],[],[]⟩ g as G O rfl (λp hp=>nomatch hp) (by rw[Qj];exact i2) (by rw[Qj];exact R)
  exact⟨g,as,u,G,O,V,Q,h1,h2,es⟩
 |succ k =>
  obtain⟨c,g',a,l,r,I,lt,V,Q,y,N⟩:=ent v R (k+1) q (by show 1<=k+1;lia) e i2 W
  obtain⟨u,h1,h2,es⟩:=x c g' a l r I lt y N;exact⟨g',a,u,l,r,V,Q,h1,h2,es⟩
def Blk.len{t:Sx}{k:Nat}{u:Sx}(h:Blk t k u):1<=u.cl.length/\k+u.cl.length<=t.cl.length:=by
 obtain⟨q,_,_,e,_⟩:=h.en;have l1:=(zag.mp e).1;refine⟨by lia,?_⟩
 obtain⟨x,ex,_⟩:=h.row (u.cl.length-1) _ (zaf aD)
 have:=(zag.mp ex).1;lia
structure InT(t:Sx)(k:Nat)(u:Sx):Prop where
 blk:Blk t k u
 cl:t.cl.length<=1000
 st:t.st.length<=1000
 up:∀(i:Nat)(q:Rw),t.cl[i]?=some q->(i=0/\q.up=none)\/∃p,p<i/\q.up=some p
 u3:∀(i:Nat)(q:Rw),u.cl[i]?=some q->(i=0/\q.up=none)\/∃p,p<i/\q.up=some p
 us:∀p∈u.st,p.1<u.cl.length
 ue:∀q∈u.cl,q.en.isSome=true
noncomputable def hdK(k n:Nat):List Key:=(List.range n).map λj=>Sum.inl ((k+j:Nat):Int)
noncomputable def heL(k n:Nat):List D:=(List.range n).map λj=>D.int ((k+j:Nat):Int)
def jx{k n:Nat}{p:Nat}:(Sum.inl (p:Int):Key)∈hdK k n ↔ k<=p/\p<k+n:=by
 unfold hdK;rw[zah];constructor
 ·rintro⟨j,a,e⟩;have:=zcZ.mp a;have:=Int.ofNat.inj (Sum.inl.inj e);lia
 rintro⟨h1,h2⟩;exact⟨p-k,zcZ.mpr aD,by rw[show k+(p-k)=p by lia]⟩
def Uz(k n:Nat):hdK k (n+1)=hdK k n++[Sum.inl ((k+n:Nat):Int)]:=by
 unfold hdK;rw[List.range_succ,zMa];rfl
def G2{lo:Int}{n:Nat}:(rngD lo n).length=n:=by unfold rngD;simp
def Fi(k n:Nat):zu (heL k n):=y8.mpr λd a=>by
 obtain⟨t,_,rfl⟩:=zah.mp a;trivial
def C3{k n:Nat}{vs:List D}{v:D}(l:vs.length=n):D.dk (kput (hdK k n) (Sum.inl ((k+n:Nat):Int))) (dput (hdK k n) vs (Sum.inl ((k+n:Nat):Int)) v)=.dk (hdK k (n+1)) (vs++[v]):=by
 have a:(Sum.inl ((k+n:Nat):Int):Key)∉hdK k n:=λm=>by
  have:=jx.mp m;lia
 unfold kput;rw[zaJ a,fi (by unfold hdK;rw[zLm,zbM,l]) a,Uz]
def Ei{q:Rw}{p:Nat}(e:q.up=some p){M:EV->Prop}(h:M (dv (.int p))):sIxx q.d (.int 2) M:=qo (S:=[.str q.nm,.tup q.as,q.up.elim .non λn=>.int n,.bl q.en.isSome,q.en.getD .non]) (d:=.int p) (by rw[e];rfl) h
def Bs{te tv:TD}{U:DE}{ks:List Key}{S:List D}{p:Int}{kd:Kd}(h1:∀ M:EV->Prop,M (dv (.int p))->te U M)(h2:∀ M:EV->Prop,M ⟨kd,.dk ks S⟩->tv U M)(G:Bool->Prop)(k:G (decide ((Sum.inl p:Key)∈ks))):tBo (d2 (sIn false) te tv) U G:=h1 _ (h2 _ k)
def tBen:FT:=λS M=>∃t k u,S=[.lst (t.cl.map Rw.d),.int (k:Nat)]/\InT t k u/\M (df (.lst (heL k u.cl.length)))
def bh(X:AX K mg C):FD P w K mg base 1 "_law_beneath" ["_law_calls","_law_k"] tBen:=by
 obtain⟨f,fd,F,m⟩:=X.f "_law_beneath" 34 aB
 have ds:zo ["_law_calls","_law_k","_law_held","_law_at"] ["_law_calls","_law_k"] (zd (top 34)):=by walk_at "f"
 walk_at "b";refine⟨_,(ze (zw 2 ds.nd (Lv (z9 1) wy))
   (ze (uu (Og X.T.range (za (x3 (z9 1) zc) (za (yo X.T.len (za (z9 0) zb)) zb))) (zn (i:=3) ds.nd rfl aG) (ym 3) (zm (xn (Lr hu (zf hu (zf hu (z9 0) (z9 3)) zc) (z9 2)) (zm (Q4 2 hu (z9 3) wy)) yr)))
   (zm (yb (Vp X.T.sorted (z9 2)))))),?_⟩
 obtain⟨t,k,u,rfl,i,h⟩:=hT;have V:=i.blk.len;have I:(t.cl.map Rw.d).length=t.cl.length:=zLm ..;have W:=i.cl;refine yy ⟨_,rfl,zaA,zaA,?_⟩;refine wq (ρ':=[q_ (.lst (t.cl.map Rw.d)),q_ (.int (k:Nat)),Q_ (.dk (hdK k 1) (List.replicate 1 (.bl true))),none]) (by rfl) (yk ?_)
 refine vd (rngD (k+1) (t.cl.length-(k+1))) (λG l=>?_) (λj U=>∃a,U=[q_ (.lst (t.cl.map Rw.d)),q_ (.int (k:Nat)),Q_ (.dk (hdK k (min (j+1) u.cl.length)) (List.replicate (min (j+1) u.cl.length) (.bl true))),a]) ⟨none,by rw[zeT aD]⟩ ?_ ?_
 ·refine(show(_/\_/\_/\_)/\G (rngD ((k:Int)+1) ((((t.cl.map Rw.d).length:Nat):Int)-((k:Int)+1)).toNat) from ?_);rw[I,show((t.cl.length:Int)-((k:Int)+1)).toNat=t.cl.length-(k+1) by lia]
  exact⟨⟨by lia,by lia,by lia,by lia⟩,l⟩
 ·rintro j d _ L ⟨a,rfl⟩;obtain⟨Y,rfl⟩:=tw L;have lt:k+(j+1)<t.cl.length:=by lia
  have g:=zaf lt;generalize t.cl[k+(j+1)]=q at g;have N:atI (t.cl.map Rw.d) ((k+(j+1):Nat):Int)=some q.d:=wz (zeY _) (by rw[zbD,zai,g];rfl)
  rw[show(k:Int)+1+(j:Int)=((k+(j+1):Nat):Int) by lia]
  obtain⟨p,R,ep⟩:∃p,p<k+(j+1)/\q.up=some p:=by
   rcases i.up _ q g with⟨z,_⟩|h
   ·lia
   exact h
  have v:∀M:EV->Prop,M (dv (.int p))->d2 sIxx (d2 sIxx (u4 0) (u4 3)) (dC (.int 2)) [q_ (.lst (t.cl.map Rw.d)),q_ (.int (k:Nat)),Q_ (.dk (hdK k (min (j+1) u.cl.length)) (List.replicate (min (j+1) u.cl.length) (.bl true))),q_ (.int ((k+(j+1):Nat):Int))] M:=λM h=>yz (M:=λr=>sIxx r.d (.int 2) M) N (Ei ep h);refine cg (show sIf _ _ _ [q_ (.lst (t.cl.map Rw.d)),q_ (.int (k:Nat)),Q_ (.dk (hdK k (min (j+1) u.cl.length)) (List.replicate (min (j+1) u.cl.length) (.bl true))),q_ (.int ((k+(j+1):Nat):Int))] _ from ?_);refine uo (decide ((Sum.inl (p:Int):Key)∈hdK k (min (j+1) u.cl.length))) (Bs (kd:=.own) v λM h=>h) (λz=>?_) λz=>?_
  ·have z:=jx.mp (zbN z);have es:j+1<u.cl.length:=Nat.not_le.mp λy=>i.blk.out _ q p aD g ep (by rw[zeI y]at z;exact z)
   rw[zeT aD,zeT aD]
   refine(show X7 _ _ _ [q_ (.lst (t.cl.map Rw.d)),q_ (.int (k:Nat)),Q_ (.dk (hdK k (j+1)) (List.replicate (j+1) (.bl true))),q_ (.int ((k+(j+1):Nat):Int))] _ from⟨zaA,by rw[zbU];lia,q_ (.int ((k+(j+1):Nat):Int)),?_⟩)
   rw[C3 (by rw[zbU]),<- List.replicate_succ']
   rfl
  have es:u.cl.length<=j+1:=Nat.not_lt.mp λy=>by
   obtain⟨x,ex,_⟩:=i.blk.row (j+1) _ (zaf y);rw[g]at ex;cases ex;rcases i.u3 _ _ (zaf y) with⟨w,_⟩|⟨Q,B,O⟩
   ·lia
   have e2:shU k x (u.cl[j+1]).up=some p:=ep;rw[O]at e2;cases e2;exact absurd (jx.mpr ⟨by lia,by lia⟩) (zcX z)
  rw[zeI aD,zeI aD]
  exact⟨_,rfl⟩
 rintro _ ⟨a,rfl⟩;rw[G2,zeI aD]
 refine⟨by unfold hdK;rw[zLm,zbM];lia,(List.range u.cl.length).map λj=>((k+j:Nat):Int),by unfold hdK;rw[zbI];rfl,List.pairwise_map.mpr (List.pairwise_lt_range.imp λ{a b} h=>by lia),?_⟩
 have e:((List.range u.cl.length).map λj=>((k+j:Nat):Int)).map D.int=heL k u.cl.length:=by unfold heL;rw[zbI];rfl
 rw[e];exact⟨Fi ..,h⟩
noncomputable def numD(n:Nat):List D:=(List.range n).map λj:Nat=>D.int j
def Jh{k n j:Nat}{d:D}(h:(heL k n)[j]?=some d):j<n/\d=.int ((k+j:Nat):Int):=by
 unfold heL at h;rw[zai]at h;obtain⟨x,ex,rfl⟩:=zar.mp h;have a:=(zag.mp ex).1;rw[zbM]at a;rw[List.getElem?_range a]at ex;cases ex;exact⟨a,rfl⟩
def Jg(k n:Nat):(heL k n).length=n:=by unfold heL;rw[zLm,zbM]
def J4(n:Nat):(numD n).length=n:=by unfold numD;rw[zLm,zbM]
def P8(n:Nat):numD (n+1)=numD n++[.int (n:Int)]:=by
 unfold numD;rw[List.range_succ,zMa];rfl
theorem Us{α:Type}{a k:Key}{d:α}:∀{ks:List Key}{S:List α},ks.length=S.length->u0 (ks++[a]) (S++[d]) k=match u0 ks S k with|some x=>some x|none=>if a=k then some d else none
 |[],[],_=>rfl
 |q::ks,x::S,h=>by
  show(if q=k then some x else u0 (ks++[a]) (S++[d]) k)=match (if q=k then some x else u0 ks S k) with|some x=>some x|none=>if a=k then some d else none
  by_cases e:q=k
  ·rw[zaK e,zaK e]
  rw[zaJ e,zaJ e];exact Us (zfY h)
theorem V2{k p:Nat}:∀{n:Nat},p<n->u0 (hdK k n) (numD n) (Sum.inl ((p+k:Nat):Int))=some (D.int p)
 |n+1,h=>by
  have l:(hdK k n).length=(numD n).length:=by rw[J4];unfold hdK;rw[zLm,zbM]
  rw[Uz,P8,Us l];by_cases z:p<n
  ·rw[V2 z]
  have e:p=n:=by lia
  subst e;rw[(qb l).mpr λm=>by have:=jx.mp m;lia,zaK (by rw[Nat.add_comm])]
def Jb{ks:List Key}{S:List D}{k:Key}{d:D}{M:D->Prop}(e:u0 ks S k=some d)(h:M d):match u0 ks S k with|some d=>M d|none=>False:=by
 rw[e];exact h
def Rm{d t1 t2 t3 a:TD}{U:DE}{M:EV->Prop}{d0 d1 d2 g e:D}(h0:∀ G:EV->Prop,G (dv d0)->d U G)(h1:∀ G:EV->Prop,G (dv d1)->t1 U G)(h2:∀ G:EV->Prop,G (dv d2)->t2 U G)(k:∀ G:EV->Prop,G (dv g)->t3 U G)(j:∀ G:EV->Prop,G (dv e)->a U G)(h:M (dv (.tup [d0,d1,d2,g,e]))):dTup (w6 d (w6 t1 (w6 t2 (w6 t3 (w6 a aNil))))) U M:=h0 _ (h1 _ (h2 _ (k _ (j _ ⟨rfl,rfl,h⟩))))
noncomputable def stF(k n:Nat):D->Option D:=λd=>match d with
 |.tup [.int i,.str z]=>if (k:Int)<=i/\i<((k+n:Nat):Int) then some (.tup [.int (i-k),.str z]) else none
 |_=>none
def Q0{k n:Nat}:∀{l:List (Nat×Str)},(∀p∈l,¬ (k<=p.1/\p.1<k+n))->(l.map λp:Nat×Str=>stp p.1 p.2).filterMap (stF k n)=[]:=λh=>List.filterMap_eq_nil_iff.mpr λd e=>by
 obtain⟨p,a,rfl⟩:=zah.mp e;exact zaJ (by have:=h p a;lia)
theorem Kj{k n:Nat}:∀{l:List (Nat×Str)},(∀p∈l,p.1<n)->((l.map (sh k)).map λp:Nat×Str=>stp p.1 p.2).filterMap (stF k n)=l.map λp:Nat×Str=>stp p.1 p.2
 |[],_=>rfl
 |p::l,h=>by
  have d:=h p zao;rw[zaB,zaB,zbE,show stF k n (stp ((sh k p).1:Nat) (sh k p).2)=some (stp p.1 p.2) from(zaK (by show(k:Int)<=((p.1+k:Nat):Int)/\((p.1+k:Nat):Int)<((k+n:Nat):Int);lia)).trans (by show some (D.tup [.int (((p.1+k:Nat):Int)-k),.str p.2])=_;rw[show((p.1+k:Nat):Int)-k=p.1 by lia];rfl)]
  dsimp only
  rw[Kj λq a=>h q (zal _ a),zaB]
def D8{t u:Sx}{k:Nat}(h:Blk t k u)(us:∀ p∈u.st,p.1<u.cl.length):(t.st.map λp:Nat×Str=>stp p.1 p.2).filterMap (stF k u.cl.length)=u.st.map λp:Nat×Str=>stp p.1 p.2:=by
 obtain⟨a,z,e,g⟩:=h.st;rw[e,zMa,zMa,zfG,zfG,Q0 λp d=>g p (zaF _ d),Q0 λp d=>g p (zaD _ d),Kj us,List.nil_append,zaX]
def El{a t1:TD}{U:DE}{M:EV->Prop}{d0 d1:D}(h0:∀ G:EV->Prop,G (dv d0)->a U G)(h1:∀ G:EV->Prop,G (dv d1)->t1 U G)(h:M (dv (.tup [d0,d1]))):dTup (w6 a (w6 t1 aNil)) U M:=h0 _ (h1 _ ⟨rfl,rfl,h⟩)
def Ha{a t1 t2 t3:TD}{U:DE}{M:EV->Prop}{d0 d1 d2 d:D}(h0:∀ G:EV->Prop,G (dv d0)->a U G)(h1:∀ G:EV->Prop,G (dv d1)->t1 U G)(h2:∀ G:EV->Prop,G (dv d2)->t2 U G)(e:∀ G:EV->Prop,G (dv d)->t3 U G)(h:M (dv (.tup [d0,d1,d2,d]))):dTup (w6 a (w6 t1 (w6 t2 (w6 t3 aNil)))) U M:=h0 _ (h1 _ (h2 _ (e _ ⟨rfl,rfl,h⟩)))
def tDue:FT:=λS M=>∃t b k u,S=[rsD t b,.int (k:Nat)]/\InT t k u/\M (dv (rsD u false))
noncomputable def qeT(t:Sx)(b:Bool)(k:Nat)(l:DE):DE:=q_ (rsD t b)::q_ (.int (k:Nat))::q_ (.lst (t.cl.map Rw.d))::l
noncomputable def qeF(t:Sx)(b:Bool)(k:Nat)(u:Sx)(l:DE):DE:=qeT t b k (q_ (.lst (heL k u.cl.length))::Q_ (.dk (hdK k u.cl.length) (numD u.cl.length))::l)
def Sr(X:AX K mg C):FO P w K mg base 2 "_law_due" ["_law_found","_law_k"] tDue:=by
 obtain⟨f,fd,F,m⟩:=X.f "_law_due" 35 aB
 have ds:zo ["_law_found","_law_k","_law_calls","_law_held","_law_number_here","_law_at","_law_rows","_law_up","_law_steps"] ["_law_found","_law_k"] (zd (top 35)):=by walk_at "f"
 refine z1u F ds (F.binds (by walk_at "3")) m λqZ A outer s H xs S M hr hl hT=>?_
 have hu:=hr.units;refine⟨_,(ze (zw 2 ds.nd (zf hu (z9 0) zc))
   (ze (zw 3 ds.nd (zy (bh X) (hr.e rfl) (za (z9 2) (za (z9 1) zb))))
   (ze (zw 4 ds.nd Lx)
   (ze (vj 3 (uu (xo (z9 3)) (zn (i:=5) ds.nd rfl aG) (ym 5) (zm (Q4 4 hu (z9 5) (E4 X.T.len (za (z9 4) zb))))))
   (ze (zw 6 ds.nd (x5 zb))
   (ze (vj 3 (uu (xo (z9 3)) (zn (i:=5) ds.nd rfl aG) (ym 5) (ze (zw 7 ds.nd uk)
    (ze (xn (Yn hu (z9 5) (z9 1)) (zm (zw 7 ds.nd (zf hu (z9 4) (zf hu (zf hu (z9 2) (z9 5)) zc)))) yr)
    (zm (wv 6 (zh (za (zf hu (zf hu (z9 2) (z9 5)) zc) (za (zf hu (zf hu (z9 2) (z9 5)) zc) (za (z9 7) (za (zf hu (zf hu (z9 2) (z9 5)) zc) (za (zf hu (zf hu (z9 2) (z9 5)) zc) zb))))))))))))
   (ze (vj 4 (rn (T:=["_law_step"]) (F:=["_law_number_here"]) (js:=[4]) 8 ds.nd (xo (zf hu (z9 0) zc)) (show y0 (zd (top 35)) _ _ _ from by walk_at "c") (.cons rfl .nil) aB (by walk_at "t") (yi aB) (ym 0) (λcl C fp s H=>(k9 (Lr hu (zf hu (z9 0) zc) (z9 1)))) (λcl C fp s H=>(zh (za (zf hu (z9 1) (zf hu (z9 0) zc)) (za (zf hu (z9 0) zc) zb))))))
   (zm (vj 8 (vj 6 (yb (zh (za wy (za (zf hu (zf hu (z9 2) (z9 1)) zc) (za (z9 6) (za (z9 8) zb)))))))))))))))),?_⟩
 obtain⟨t,b,k,u,rfl,i,h⟩:=hT;have Y:=i.blk.len;refine yy ⟨zaA,?_⟩;refine wq (ρ':=(qeT t b k [none,none,none,none,none,none])) (by rfl) (yy ⟨rfl,t,k,u,rfl,i,zaA,?_⟩)
 refine wq (ρ':=(qeT t b k [Q_ (.lst (heL k u.cl.length)),none,none,none,none,none])) (by rfl) (yy ⟨zaA,?_⟩)
 refine wq (ρ':=(qeT t b k [Q_ (.lst (heL k u.cl.length)),Q_ (.dk [] []),none,none,none,none])) (by rfl) (yk (show sFor _ _ _ (qeT t b k [q_ (.lst (heL k u.cl.length)),Q_ (.dk [] []),none,none,none,none]) _ from ?_))
 refine vd (heL k u.cl.length) (λG g=>⟨zaA,g⟩) (λj U=>∃a,U=(qeT t b k [q_ (.lst (heL k u.cl.length)),Q_ (.dk (hdK k j) (numD j)),a,none,none,none])) ⟨none,rfl⟩ ?_ ?_
 ·rintro j d _ D ⟨a,rfl⟩;obtain⟨Q,rfl⟩:=Jh D;refine cg (show X7 _ _ _ (qeT t b k [q_ (.lst (heL k u.cl.length)),Q_ (.dk (hdK k j) (numD j)),q_ (.int ((k+j:Nat):Int)),none,none,none]) _ from ?_);have B:(numD j).length=j:=J4 j;refine⟨zaA,by rw[B];have:=i.cl;lia,q_ (.int ((k+j:Nat):Int)),?_⟩
  dsimp only
  rw[show((hdK k j).length:Int)=(j:Int) by unfold hdK;rw[zLm,zbM],C3 B,<- P8]
  rfl
 rintro _ ⟨a,rfl⟩;rw[Jg]
 dsimp only
 refine yy ⟨rfl,rfl,zaA,?_⟩;refine wq (ρ':=(qeF t b k u [a,Q_ (.lst []),none,none])) (by rfl) (yk ?_)
 refine vd (heL k u.cl.length) (λG g=>⟨zaA,g⟩) (λj U=>∃a c,U=(qeF t b k u [a,Q_ (.lst ((u.cl.take j).map Rw.d)),c,none])) ⟨a,none,rfl⟩ ?_ ?_
 ·rintro j d _ D ⟨a,L,rfl⟩;obtain⟨Q,rfl⟩:=Jh D;refine cg (show sSeq _ _ (qeF t b k u [q_ (.int ((k+j:Nat):Int)),Q_ (.lst ((u.cl.take j).map Rw.d)),L,none]) _ from yy ⟨zaA,?_⟩);refine wq (ρ':=(qeF t b k u [q_ (.int ((k+j:Nat):Int)),Q_ (.lst ((u.cl.take j).map Rw.d)),q_ .non,none])) (by rfl) (yk ?_)
  have es:=zaf Q;generalize u.cl[j]=r at es;obtain⟨x,ex,_⟩:=i.blk.row j r es;have l:atI (t.cl.map Rw.d) ((k+j:Nat):Int)=some (shR k x r).d:=wz (zeY _) (by rw[zbD,zai,ex];rfl)
  have I:((u.cl.take (j+1)).map Rw.d)=((u.cl.take j).map Rw.d)++[r.d]:=by rw[zcU,es,zMa];rfl
  have O:((u.cl.take j).map Rw.d).length<=100000:=by rw[zLm,zaZ];have:=i.cl;lia
  cases j with
  |zero =>
   have e0:r.up=none:=by
    rcases i.u3 0 r es with⟨_,z⟩|⟨p,R,_⟩
    ·exact z
    lia
   refine uo false (λG h=>⟨zaI (ye ..),zaI (ye ..),(show G (!eqD (.int (k:Int)) (.int (k:Int))) by rw[T8];exact h)⟩) nofun λ_=>t9 ?_
   dsimp only
   refine tj rfl (Rm (d2:=.non) (λG h=>yz (M:=λr=>sIxx r.d (.int 0) G) l h) (λG h=>yz (M:=λr=>sIxx r.d (.int 1) G) l h) aA (λG h=>yz (M:=λr=>sIxx r.d (.int 3) G) l h) (λG h=>yz (M:=λr=>sIxx r.d (.int 4) G) l h) ⟨zaA,O,q_ (.int ((k+0:Nat):Int)),q_ .non,?_⟩);rw[I,show r.d=.tup [.str r.nm,.tup r.as,r.up.elim .non λn=>.int n,.bl r.en.isSome,r.en.getD .non] from rfl,e0];rfl
  |succ j =>
   obtain⟨p,R,ep⟩:∃p,p<j+1/\r.up=some p:=by
    rcases i.u3 _ r es with⟨z,_⟩|z
    ·lia
    exact z
   have N:(shR k x r).up=some (p+k):=by
    show shU k x r.up=_;rw[ep];rfl
   refine uo true (λG h=>⟨zaI (ye ..),zaI (ye ..),(show G (!eqD (.int ((k+(j+1):Nat):Int)) (.int (k:Int))) by rw[g0,zbA.mpr aD];exact h)⟩) (λ_=>?_) nofun
   refine(show sSet 7 _ (qeF t b k u [q_ (.int ((k+(j+1):Nat):Int)),Q_ (.lst ((u.cl.take (j+1)).map Rw.d)),q_ .non,none]) _ from kq (K3 (dO (.dk (hdK k u.cl.length) (numD u.cl.length))) (dv (.int ((p+k:Nat):Int))) aA (λG h=>yz (M:=λr=>sIxx r.d (.int 2) G) l (Ei N h)) (Jb (V2 (p:=p) aD) ⟨zaA,?_⟩)))
   dsimp only
   refine(show sApp _ _ (qeF t b k u [q_ (.int ((k+(j+1):Nat):Int)),Q_ (.lst ((u.cl.take (j+1)).map Rw.d)),q_ (.int p),none]) _ from tj rfl (Rm (d2:=.int p) (λG h=>yz (M:=λr=>sIxx r.d (.int 0) G) l h) (λG h=>yz (M:=λr=>sIxx r.d (.int 1) G) l h) aA (λG h=>yz (M:=λr=>sIxx r.d (.int 3) G) l h) (λG h=>yz (M:=λr=>sIxx r.d (.int 4) G) l h) ⟨zaA,O,q_ (.int ((k+(j+1):Nat):Int)),q_ (.int p),?_⟩));rw[I,show r.d=.tup [.str r.nm,.tup r.as,r.up.elim .non λn=>.int n,.bl r.en.isSome,r.en.getD .non] from rfl,ep];rfl
 rintro _ ⟨a,L,rfl⟩;rw[Jg,zdS]
 dsimp only
 refine yk (show sSet 8 _ (qeT t b k [q_ (.lst (heL k u.cl.length)),q_ (.dk (hdK k u.cl.length) (numD u.cl.length)),a,Q_ (.lst (u.cl.map Rw.d)),L,none]) _ from kq (xx (t.st.map λp:Nat×Str=>stp p.1 p.2) (λG g=>⟨zaA,g⟩) (stF k u.cl.length) (by rw[zLm];have:=i.st;lia) (λd D=>?_) ⟨zaA,?_⟩))
 ·obtain⟨p,Z,rfl⟩:=zah.mp D;refine Bs (kd:=.val) (p:=p.1) (ks:=hdK k u.cl.length) (S:=numD u.cl.length) aA aA _ ⟨λz=>?_,λz=>?_⟩
  ·have z:=jx.mp (zbN z);obtain⟨n,w⟩:=p;obtain⟨m,rfl⟩:∃m,n=m+k:=⟨n-k,by lia⟩
   refine El (d0:=.int m) (d1:=.str w) (λG h=>K3 (dv (.dk (hdK k u.cl.length) (numD u.cl.length))) (dv (.int ((m+k:Nat):Int))) aA aA (Jb (V2 aD) h)) aA ⟨zaA,(zaK aD).trans ?_⟩
   rw[show((m+k:Nat):Int)-k=m by lia]
  exact zaJ λy=>absurd (jx.mpr ⟨by lia,by lia⟩) (zcX z)
 obtain⟨q,v,rs,e1,e2,W⟩:=i.blk.en;obtain⟨x,ex,_⟩:=i.blk.row 0 q e1;have l:atI (t.cl.map Rw.d) (k:Int)=some (shR k x q).d:=wz (zeY _) (by rw[zbD,zai,show t.cl[k]?=_ from ex];rfl)
 rw[D8 i.blk i.us]
 dsimp only
 refine(show sRet _ (qeT t b k [q_ (.lst (heL k u.cl.length)),q_ (.dk (hdK k u.cl.length) (numD u.cl.length)),a,q_ (.lst (u.cl.map Rw.d)),L,q_ (.lst (u.st.map λp:Nat×Str=>stp p.1 p.2))]) _ from Ha (d1:=v) aA (λG h=>yz (M:=λr=>sIxx r.d (.int 4) G) l (show sIxx (.tup [.str q.nm,.tup q.as,(shR k x q).up.elim .non λn=>.int n,.bl q.en.isSome,q.en.getD .non]) (.int 4) G from qo (by rw[e2];rfl) h)) aA aA ?_)
 have V:rsD u false=.tup [.bl true,v,.lst (u.cl.map Rw.d),.lst (u.st.map λp:Nat×Str=>stp p.1 p.2)]:=by
  unfold rsD endV;rw[W];rfl
 rw[V]at h;exact h
def Zc{n:Nat}{S:List D}(h:∀ d∈S,okD n d):okD (n+1) (.tup S):=h
def J1{n:Nat}{S:List D}(h:∀ d∈S,okD n d):okD (n+1) (.lst S):=h
def Ct(n:Nat)(b:Bool):okD n (.bl b):=zaI J2
def Gy(n:Nat)(z:Str):okD n (.str z):=zaI yt
def Cs(n:Nat)(i:Int):okD n (.int i):=zaI (ye ..)
def Mn(n:Nat):okD n .non:=zaI P5
def mem4{P:D->Prop}{a b c d:D}(h1:P a)(h2:P b)(g:P c)(e:P d):∀x∈[a,b,c,d],P x:=λx m=>by
 simp only[zam,zaW,zdN]at m;rcases m with rfl|rfl|rfl|rfl <;> assumption
def mem5{P:D->Prop}{a b c d e:D}(h1:P a)(h2:P b)(k:P c)(j:P d)(g:P e):∀x∈[a,b,c,d,e],P x:=λx m=>by
 simp only[zam,zaW,zdN]at m;rcases m with rfl|rfl|rfl|rfl|rfl <;> assumption
def Mm(l:List (Nat×Str)):okD 40 (.lst (l.map λp:Nat×Str=>stp p.1 p.2)):=J1 (n:=39) λd a=>by
 obtain⟨p,_,rfl⟩:=zah.mp a;refine Zc (n:=38) λx m=>?_;simp only[zam,zaW,zdN]at m;rcases m with rfl|rfl
 ·exact Cs ..
 exact Gy ..
def z1f{t:Sx}{b:Bool}(i:In4 t)(e:okD 101 (endV t b)):okD 150 (rsD t b):=Zc (n:=149) (mem4 (Ct ..) (ku aB e) (J1 (n:=148) λd j=>by
 obtain⟨q,a,rfl⟩:=zah.mp j;refine Zc (n:=147) (mem5 (Gy ..) (Zc (n:=146) λv g=>ku aB ((i q a).1 v g)) ?_ (Ct ..) ?_)
 ·cases q.up with
  |none=>exact Mn _
  |some p=>exact Cs ..
 cases h:q.en with
 |none=>exact Mn _
 | some v=>exact ku aB ((i q a).2 v h)) (ku aB (Mm t.st)))
structure Az(t:Sx)(b:Bool):Prop where
 pl:PlOk t
 ok:okD 150 (rsD t b)
def Km{gs:List Gd}{d:List Hd}{g:Gd}{j:List D}(o:GOk d g)(u:RsT (g.1.ps.map Prod.snd) j){m:Nat}(k:1<=m)(y:m<=1000){t:Sx}{b:Bool}(R:Rn (v8 gs) (sg1 d) m (st01 g j) t b):Az t b/\t.st.length<=m:=by
 obtain⟨x,i2,q,l⟩:=dg o u;have few:=R.few (by exact k)
 have e:=R.end_ok.1;have a:=R.in3 q;have cs:=e.cs;refine⟨⟨⟨a.up,a.sl,by lia,by lia⟩,z1f (R.in4 l) ?_⟩,few⟩
 obtain⟨_,_,_,_,_,_,_,rs⟩:=e.ex;unfold endV;cases b with
 |true=>exact Mn _
 |false =>
  cases hr:t.rs with
  |nil=>exact Mn _
  |cons v r=>exact rs.ok v (by rw[hr];exact zao)
def Bv{a b c d e:D}{U:DE}{G:DE->Prop}(h:G (setS (setS (setS (setS (setS U 4 (dv a)) 5 (dv b)) 6 (dv c)) 7 (dv d)) 8 (dv e))):gT5 4 5 6 7 8 (.tup [a,b,c,d,e]) U G:=h
theorem RsT.vt:∀{ss:List Str}{l:List D},RsT ss l->∀v∈l,∃s,Vt s v
 |[],_,h,v,m=>by cases (show _=[] from h);cases m
 |s::_,_,⟨w,q,rfl,hw,h⟩,v,m=>by
  rcases zam.mp m with rfl|m
  ·exact⟨s,hw⟩
  exact h.vt v m
def kh{gs:List Gd}{n:Nat}:(gs.drop n++gs.take n).Perm gs:=List.perm_append_comm.trans (by rw[zfL])
def ki{gs:List Gd}{n:Nat}{g:Gd}:g∈gs.drop n++gs.take n ↔ g∈gs:=kh.mem_iff
def Qp{gs:List Gd}{a:List Hd}(p:PG1 gs a)(n:Nat):PG1 (gs.drop n++gs.take n) a where
 nd:=((kh (gs:=gs) (n:=n)).map _).nodup_iff.mpr p.nd
 mem:=λh d=>let ⟨b,m⟩:=p.mem h d;⟨b,ki.mpr m⟩
 hnd:=p.hnd
 ok:=λg m=>p.ok g (ki.mp m)
 n1:=λz=>p.n1 (List.Perm.nil_eq (z▸kh (gs:=gs) (n:=n))).symm
 ln:=(kh (gs:=gs) (n:=n)).length_eq▸p.ln
theorem Qg:∀{gs:List Gd}{f:Str}{d:D},rowG (v8 gs) f=some d->∃g∈gs,g.1.nm=f/\d=gD g
 |h::gs,f,d,e=>by
  have e:(if h.1.nm=f then some (gD h) else rowG (v8 gs) f)=some d:=e
  split at e
  ·rename_i z;cases e;exact⟨h,zao,z,rfl⟩
  obtain⟨g,m,q⟩:=Qg e;exact⟨g,zal _ m,q⟩
def Ny{gs:List Gd}{j:List Hd}(p:PG1 gs j)(n:Nat)(f:Str):rowG (v8 (gs.drop n++gs.take n)) f=rowG (v8 gs) f:=by
 have a:=(Qp p n).nd;cases e:rowG (v8 gs) f with
 |some d =>
  obtain⟨g,m,rfl,rfl⟩:=Qg e;exact Z0 a (ki.mpr m)
 |none =>
  cases e2:rowG (v8 (gs.drop n++gs.take n)) f with
  |none=>rfl
  |some d =>
   obtain⟨g,m,rfl,rfl⟩:=Qg e2;rw[Z0 p.nd (ki.mp m)]at e;cases e
def Ea{ta tb:TD}{U:DE}{M:EV->Prop}{p q:List D}(h1:∀ M:EV->Prop,M (dv (.tup p))->ta U M)(h2:∀ M:EV->Prop,M (dv (.tup q))->tb U M)(d:zu p)(a:zu q)(l:p.length+q.length<=sizeLine)(h:M ⟨.new,.tup (p++q)⟩):E6 ta tb U M:=h1 _ (h2 _ ⟨d,a,l,h⟩)
structure z0b(gs:List Gd)(hs:List Hd)(t:Sx)(k:Nat)(q:Rw)(g:Gd)(as:List D)(u:Sx):Prop where
 mem:g∈gs
 rst:RsT (g.1.ps.map Prod.snd) as
 nm:q.nm=g.1.nm
 arg:q.as=as
 inT:InT t k u
 run:∀m',u.st.length<=m'->Rn (v8 gs) (sg1 hs) m' (st01 g as) u false
 st:u.st.length<=1000
 st1:1<=u.st.length
 ok:Az u false
def tBy:FT:=λS M=>∃(gs:List Gd)(hs:List Hd)(t:Sx)(b:Bool)(k tu:Nat)(q:Rw),S=[.tup (gs.map gD),rsD t b,.int k,.int tu]/\PG1 gs hs/\t.cl[k]?=some q/\(q.en.isSome=true->∃g as u,z0b gs hs t k q g as u)/\M (dv (.bl true))
noncomputable def byE(gs:List Gd)(t:Sx)(b:Bool)(k a:Nat)(q:Rw)(l:DE):DE:=q_ (.tup (gs.map gD))::q_ (rsD t b)::q_ (.int k)::q_ (.int a)::q_ (.str q.nm)::q_ (.tup q.as)::q_ (q.up.elim .non λn=>.int n)::l
noncomputable def byF(gs:List Gd)(t:Sx)(b:Bool)(k a:Nat)(q:Rw)(l:DE):DE:=byE gs t b k a q (q_ (.bl true)::q_ (q.en.getD .non)::l)
def gq(X:AX K mg C)(y:FDV P w K mg base 10 "trace" ["program","name","args","most"] 1000 (kn C RT FzT))(x:FD P w K mg base 10 "trace" pB (kn C RT FzT)):FD P w K mg base 11 "_law_by_itself" pC tBy:=by
 obtain⟨f,fd,F,m⟩:=X.f "_law_by_itself" 36 aB
 have ds:zo ["_law_program_here","_law_found","_law_k","_law_turn","_law_name","_law_args_here","_law_up","_law_done","_law_value","_law_due_here","_law_own","_law_turned"] pC (zd (top 36)):=by walk_at "f"
 walk_at "b";refine⟨_,(ze (Nr (zf hu (zf hu (z9 1) zc) (z9 2)) (se (K0:=K) (n:=5) (by rfl) (by rfl) (yd (zn (i:=4) ds.nd rfl aG) (yd (zn (i:=5) ds.nd rfl aG) (yd (zn (i:=6) ds.nd rfl aG) (yd (zn (i:=7) ds.nd rfl aG) (yd (zn (i:=8) ds.nd rfl aG) ud)))))) (Fj 4 5 6 7 8))
   (ze (xn (EW.et (ua (xu (x4 (z9 7))) (uj (Sy (yo X.T.len (za (jk (T:=["_law_thing"]) (F:=[]) (js:=[]) (xo (z9 5)) (show y0 (zd (top 36)) _ _ _ from by walk_at "c") .nil aB (by walk_at "t") (yi aB) (ym 0) (λcl C fp s H=>(k9 (xu (x4 (zy (W3 X) (hr.e rfl) (za (z9 0) zb)))))) (λcl C fp s H=>(z9 0))) zb)) zc)))) (zm (yb wy)) yr)
   (ze (Hu 9 ds.nd (Sr X) (hr.e rfl) (za (z9 1) (za (z9 2) zb)))
   (ze (zw 10 ds.nd (Ly y (hr.e rfl) (za (z9 0) (za (z9 4) (za (jj X.T.list (za (z9 5) zb)) zb)))))
   (ze (xn (EW.et (ua (xu (x4 (zy (gm X) (hr.e rfl) (za (z9 10) zb)))) (uj (Jj (Room.far hr) (z9 10) (z9 9))))) (zm (yb wy)) yr)
   (ze (zw 11 ds.nd (Om (W7 (z9 0) (yg (z9 3)) xk) (W7 (z9 0) xk (yg (z9 3)))))
   (zm (yb (Aj (Room.far hr) (zy x (hr.e rfl) (za (z9 11) (za (z9 4) (za (jj X.T.list (za (z9 5) zb)) (za (yo X.T.len (za (zf hu (z9 9) zc) zb)) zb))))) (z9 9)))))))))),?_⟩
 obtain⟨gs,V,t,b,k,a,q,rfl,v,N,al,h⟩:=hT;have L:atI (t.cl.map Rw.d) (k:Int)=some q.d:=wz (zeY _) (by rw[zbD,zai,N];rfl)
 refine yk (show d2 sIxx (d2 sIxx (u4 1) (dC (.int 2))) (u4 2) _ _ from K3 (dv (.lst (t.cl.map Rw.d))) (dv (.int k)) aA aA (yz L ⟨zaA,Bv ?_⟩))
 dsimp only
 refine(show sSeq _ _ (byE gs t b k a q [q_ (.bl q.en.isSome),q_ (q.en.getD .non),none,none,none]) _ from yk ?_);cases hen:q.en.isSome with
 |false=>exact uo true (λG k=>⟨λ_=>k,nofun⟩) (λ_=>⟨zaA,h⟩) nofun
 |true =>
  obtain⟨g,as,u,al⟩:=al hen;refine Wu (Q:=True) (λG r=>⟨nofun,λ_=>?_⟩) (λ_=>⟨zaA,h⟩) (t9 ?_)
  ·refine(show dCB sLen _ _ _ from Ut (wl q.as (λG r=>⟨zaA,r⟩) (λ_ _=>True) (by rw[al.arg];have l:=al.rst.len;rw[zLm]at l;have:=(v.ok _ al.mem).n3;lia) trivial ?_ ?_))
   ·intro i d J j hl _;obtain⟨s,vt⟩:=al.rst.vt d (by rw[<- al.arg];exact zan j)
    exact⟨rfl,s,d,rfl,vt,λb=>⟨λ_=>⟨zaA,zaA⟩,λ_=>trivial⟩⟩
   intro J _;exact r _ λ_=>trivial
  have B:∀M:EV->Prop,M ⟨.new,rsD u false⟩->kn C RT FzT [.tup (gs.map gD),.str q.nm,.lst q.as,.int 1000] M:=λM h=>by
   rw[al.nm,al.arg];exact Hc v al.mem al.rst (m:=1000) (zaj _) (.inr ⟨by decide,al.run 1000 al.st⟩) h
  have z:∀M:EV->Prop,M ⟨.new,rsD u false⟩->kn C RT FzT [.tup ((gs.drop a++gs.take a).map gD),.str q.nm,.lst q.as,.int ((u.st.map λp:Nat×Str=>stp p.1 p.2).length:Nat)] M:=λM h=>by
   rw[al.nm,al.arg,zLm];have D:=Qp v a;exact Hc D (ki.mpr al.mem) al.rst (m:=u.st.length) al.st (.inr ⟨al.st1,(al.run _ (zaj _)).congr λf=>Ny v a f⟩) h
  dsimp only
  refine yk (show Dd _ _ _ _ (byF gs t b k a q [none,none,none]) _ from⟨⟨zaA,zaA,zaA,zaA,zaA,zaA,zaA,zaA,zaA,zaA⟩,rfl,t,b,k,u,rfl,al.inT,?_⟩)
  dsimp only
  refine wq (ρ':=(byF gs t b k a q [q_ (rsD u false),none,none])) (by rfl) (yk (kq ⟨rfl,B _ ⟨zaA,?_⟩⟩))
  dsimp only
  refine(show sSeq _ _ (byF gs t b k a q [q_ (rsD u false),q_ (rsD u false),none]) _ from yk (uo false (λG k=>vq (λG k=>⟨rfl,u,false,rfl,al.ok.pl,k⟩) (λG k=>⟨al.ok.ok,al.ok.ok,(show G (!eqD _ _) by rw[fg 150 _ al.ok.ok];exact k)⟩) k) nofun λ_=>t9 ?_))
  dsimp only
  refine wq (ρ':=(byF gs t b k a q [q_ (rsD u false),q_ (rsD u false),none])) (by rfl) (yy ?_)
  have R:ZZ.cutD (gs.map gD) (some (a:Int)) none=(gs.drop a).map gD:=jn gD gs a;have O:ZZ.cutD (gs.map gD) none (some (a:Int))=(gs.take a).map gD:=Vs gD gs a;have I:zu (gs.map gD):=y8.mpr λd j=>by
   obtain⟨g,es,rfl⟩:=zah.mp j;exact(v.ok g es).pure
  refine Ea (p:=(gs.drop a).map gD) (q:=(gs.take a).map gD) (λM h=>(by rw[<- R]at h;exact h)) (λM h=>(by rw[<- O]at h;exact h)) (y8.mpr λd j=>?_) (y8.mpr λd j=>?_) ?_ ⟨zaA,?_⟩
  rotate_left 3
  ·rw[<- zMa];exact(show sRet _ (byF gs t b k a q [q_ (rsD u false),q_ (rsD u false),q_ (.tup ((gs.drop a++gs.take a).map gD))]) _ from⟨rfl,z _ ⟨al.ok.ok,al.ok.ok,zaA,by rw[fg 150 _ al.ok.ok];exact h⟩⟩)
  ·rw[List.map_drop]at j;exact y8.mp I d (List.mem_of_mem_drop j)
  ·rw[zeW]at j;exact y8.mp I d (List.mem_of_mem_take j)
  rw[zLm,zLm,zcE,zaZ,zbH];have:=v.ln;lia
def Cu{ta tb:TD}{U:DE}{x y:D}(h1:∀ M:EV->Prop,M (dv x)->ta U M)(h2:∀ M:EV->Prop,M (dv y)->tb U M)(ok:okD 150 x)(e:y=x)(G:Bool->Prop)(k:G false):tBo (d2 sNeH ta tb) U G:=h1 _ (h2 _ ⟨ok,e▸ok,(show G (!eqD x y) by rw[e,fg 150 _ ok];exact k)⟩)
def K9{gs:List Gd}{x:List Hd}{g:Gd}{l:List D}(j:PG1 gs x)(I:g∈gs)(es:RsT (g.1.ps.map Prod.snd) l){m:Nat}(z:1<=m)(hm:m<=1000){t:Sx}{b:Bool}(R:Rn (v8 gs) (sg1 x) m (st01 g l) t b){k:Nat}{q:Rw}(e:t.cl[k]?=some q)(en:q.en.isSome=true):∃g l u,z0b gs x t k q g l u:=by
 obtain⟨g',y,u,a,d,Z,Y,B,L,lu⟩:=Bk j I es z R e en;obtain⟨_,i2,V,_⟩:=dg (j.ok g I) es;obtain⟨_,O,N,_⟩:=dg (j.ok g' a) d;have few:=R.few (by exact z)
 have cs:=R.end_ok.1.cs;have v:=L 1000 aD
 have G:=v.in3 N;obtain⟨_,_,Q⟩:=v.later O;have o':=v.end_ok.1;have fr:=o'.nil B.ts;have l1:=B.len.1;refine⟨g',y,u,a,d,Z,Y,⟨B,by lia,by lia,(R.in3 V).up,G.up,G.sl,λr hr=>?_⟩,L,by lia,by have:=o'.cs;lia,(Km (j.ok g' a) d aB (zaj 1000) v).1⟩
 obtain⟨i,W⟩:=zcN hr;exact Q.cv i r W (by rw[fr];exact zaW)
noncomputable def lwE(ns:List Int)(gs:List Gd)(c:Int)(g:Gd)(l:DE):DE:=q_ (.scr ns)::q_ (.tup (gs.map gD))::q_ (.int c)::q_ (gD g)::l
noncomputable def lwF(ns:List Int)(gs:List Gd)(c:Int)(g:Gd)(a:List D)(m:Nat)(t:Sx)(b:Bool)(l:DE):DE:=lwE ns gs c g (Q_ (.lst a)::q_ (.int m)::q_ (rsD t b)::l)
def Cr(X:AX K mg C)(L:FD P w K mg base 10 "trace" pB (kn C RT FzT))(N:FD P w K mg base 11 "_law_by_itself" pC tBy)(F:Fun K "law" "law" (top 37) f fd):FnOk P w K mg base CX0 14 f fd ["_law_script"] (spD K 1 lawT):=by
 have ds:zo ["_law_script","_law_program_here","_law_cell","_law_one","_law_args_here","_law_most","_law_found","_law_some","_law_k"] ["_law_script"] (zd (top 37)):=by walk_at "f"
 refine O2 F ds λqZ A outer s H xs S M hr hl hT=>?_;have hu:=hr.units;refine⟨_,(ze (zw 1 ds.nd (zy (bg X) (hr.e rfl) (za (z9 0) zb)))
   (ze (zw 2 ds.nd (xb (zy (wj X) (hr.e rfl) (za (z9 0) (za zc zb))) (jh zc zc)))
   (ze (zw 3 ds.nd (zf hu (z9 1) (xb (ka (z9 2) zc) (yo X.T.len (za (z9 1) zb)))))
   (ze (zw 4 ds.nd (zy (Vn X) (hr.e rfl) (za (z9 3) (za (x3 (yq (z9 0) (yg zc) xk) (yq (z9 0) (yg zc) (yg zc))) zb))))
   (ze (zw 5 ds.nd (x3 zc (xb (ka (z9 2) zc) zc)))
   (ze (zw 6 ds.nd (zy L (hr.e rfl) (za (z9 1) (za (zf hu (z9 3) zc) (za (jj X.T.list (za (z9 4) zb)) (za (z9 5) zb))))))
   (ze (xn (EW.et (ua (xu (x4 (zy (gm X) (hr.e rfl) (za (z9 6) zb)))) (ua (xy hu (yo X.T.len (za (zf hu (z9 6) zc) zb)) zc) (uj (Jj (Room.far hr) (yq (zf hu (zf hu (z9 6) zc) zc) xk (yg zc)) (zh (za (zf hu (z9 3) zc) (za (wk X.T.tuple (za (z9 4) zb)) zb)))))))) (zm (yb wy)) yr)
   (ze (zw 7 ds.nd (x5 (za zc zb)))
   (ze (uu (vn X.T.range (za zc zb)) (zn (i:=8) ds.nd rfl aG) (ym 8) (zm (wv 7 (xb (ka (zy (wj X) (hr.e rfl) (za (z9 0) (za (x3 zc (z9 8)) zb))) zc) (yo X.T.len (za (zf hu (z9 6) zc) zb))))))
   (ze (vj 7 (uu (xo (z9 7)) (zn (i:=8) ds.nd rfl aG) (ym 8) (zm (xn (xu (x4 (zy N (hr.e rfl) (za (z9 1) (za (z9 6) (za (z9 8) (za (xb (ka (z9 2) zc) (yo X.T.len (za (z9 1) zb))) zb))))))) (zm (yb wy)) yr))))
   (zm (yb wy)))))))))))),?_⟩
 obtain⟨ns,rfl,nl,h⟩:=hT;refine yy ⟨rfl,ns,rfl,λgs hs q=>⟨zaA,?_⟩⟩;refine wq (ρ':=[q_ (.scr ns),q_ (.tup (gs.map gD)),none,none,none,none,none,none,none]) (by rfl) (yy ⟨rfl,ns,5,rfl,rfl,λc0=>?_⟩)
 refine⟨⟨by decide,by decide,by decide⟩,(show(10 ^ 9:Int)≠0 by decide),zaA,?_⟩
 refine wq (ρ':=[q_ (.scr ns),q_ (.tup (gs.map gD)),q_ (.int (c0.fmod (10 ^ 9))),none,none,none,none,none,none]) (by rfl) ?_
 generalize c0.fmod (10 ^ 9)=c;obtain⟨l0,g,Z,eg⟩:=da (f:=gD) q.n1 (c.fdiv 7);have es:=q.ok g Z;refine yy ⟨fdl,l0,qo eg ⟨zaA,?_⟩⟩;have x1:ZZ.cutD (ns.map D.int) (some 30) none=(ns.drop 30).map D.int:=jn D.int ns 30;have x2:ZZ.cutD (ns.map D.int) (some 2) (some 6)=((ns.drop 2).take 4).map D.int:=by
  rw[zeW,List.map_drop];exact Te (ns.map D.int) 2 6
 have ll:(ZZ.cutD (ns.map D.int) (some 30) none).length+(ZZ.cutD (ns.map D.int) (some 2) (some 6)).length<=sizeLine:=by
  rw[x1,x2,zLm,zLm,zcE,zaZ];exact ww (Nat.ble_eq.mpr aD)
 refine wq (ρ':=(lwE ns gs c g [none,none,none,none,none])) (by rfl) (yy ⟨ll,rfl,g,hs,ns.drop 30++(ns.drop 2).take 4,rfl,es,zbP D.lst (by rw[zMa,<- x1,<- x2]),λas u=>⟨zaA,?_⟩⟩)
 obtain⟨m,Q,Y,em⟩:∃m:Nat,1<=m/\m<=1000/\30+(c.fdiv 35).fmod 100=(m:Int):=by
  have b1:=zbJ (c.fdiv 35) (show(0:Int)<100 by decide)
  have b2:=zdH (c.fdiv 35) (show(0:Int)<100 by decide)
  exact⟨(30+(c.fdiv 35).fmod 100).toNat,by lia,by lia,by lia⟩
 refine wq (ρ':=(lwE ns gs c g [Q_ (.lst as),none,none,none,none])) (by rfl) (yy ⟨fdl,(show(100:Int)≠0 by decide),zaA,?_⟩)
 obtain⟨t,b,R⟩:=Q7 q.fns m (st01 g as) (dg es u).1;obtain⟨rk,few⟩:=Km es u Q Y R;refine wq (ρ':=(lwE ns gs c g [Q_ (.lst as),q_ (.int m),none,none,none])) (by rw[<- em];rfl) (yy ⟨rfl,Hc q Z u Y (.inr ⟨Q,R⟩) ⟨zaA,?_⟩⟩)
 obtain⟨more,Lt,_⟩:=R.later (dg es u).2.1;obtain⟨O,e0,n0,a0,_⟩:=Lt.same 0 ⟨g.1.nm,as,none,none⟩ rfl;have V:0<t.cl.length:=(zag.mp e0).1;have lc:=rk.pl.cl;have W:(t.cl.map Rw.d).length=t.cl.length:=zLm ..;have a4:atI (t.cl.map Rw.d) 0=some O.d:=wz (Int.le_refl _) (by rw[Int.toNat_zero,zai,e0];rfl)
 refine wq (ρ':=(lwF ns gs c g as m t b [none,none])) (by rfl) (yk (uo false (λG k=>vq (λG k=>⟨rfl,t,b,rfl,rk.pl,k⟩) (λG k=>vq (λG k=>Oe (te:=dCB sLen (w6 (d2 sIxx (u4 6) (dC (.int 2))) aNil)) (n:=t.cl.length) (λM h=>(show M (dv (.int ((t.cl.map Rw.d).length:Nat))) by rw[W];exact h)) (show G (eqD (.int (t.cl.length:Int)) (.int 0)) by rw[g0,zbA.mpr aD];exact k)) (Cu (x:=.tup [.str O.nm,.tup O.as]) (y:=.tup [.str g.1.nm,.tup as]) (λM h=>yz (M:=λr=>sSl r.d none (some 2) M) a4 ⟨λz=>absurd z.2 (show ¬ ZZ.sIx 5 5 (some 2)=5 by decide),h⟩) (λM h=>⟨rfl,rfl,h⟩) (by rw[n0,a0];exact Zc (n:=149) λd j=>(zam.mp j).elim (λz=>z▸Gy ..) λj=>zaE.mp j▸Zc (n:=148) λv hv=>ku aB (u.ok v hv)) (by rw[n0,a0])) k) k) nofun λ_=>t9 ?_))
 dsimp only
 refine yy ⟨rfl,rfl,zaA,?_⟩;refine wq (ρ':=(lwF ns gs c g as m t b [Q_ (.lst [.int 0]),none])) (by rfl) (yk ?_)
 refine vd (rngD 0 3) (λG l=>⟨by decide,by decide,l⟩) (λi U=>∃(E:List Nat)(a:Option EV),E.length=i+1/\(∀x∈E,x<t.cl.length)/\U=(lwF ns gs c g as m t b [Q_ (.lst (E.map λx:Nat=>D.int x)),a])) ⟨[0],none,rfl,λx I=>by rw[zaE.mp I];exact V,rfl⟩ ?_ ?_
 ·rintro i d _ j ⟨E,a,lx,I,rfl⟩;obtain⟨hi,rfl⟩:=tw j;refine cg (tj (S:=E.map λx:Nat=>D.int x) rfl ⟨rfl,ns,30+i,rfl,zbP D.int aD,λc1=>?_⟩)
  have lp:(0:Int)<(((t.cl.map Rw.d).length:Nat):Int):=by rw[W];lia
  obtain⟨v,ev⟩:=zeX (zbJ (c1.fdiv 3) lp);have lv:=zdH (c1.fdiv 3) lp;refine⟨fdl,(show(((t.cl.map Rw.d).length:Nat):Int)≠0 by lia),zaA,by rw[zLm];lia,E++[v],q_ (.int (0+(i:Int))),by rw[zLa,lx];rfl,λy B=>?_,?_⟩
  ·rcases zas.mp B with B|B
   ·exact I y B
   cases zaE.mp B
   rw[W]at lv ev;lia
  rw[zMa,List.map_singleton,<- ev];rfl
 rintro _ ⟨E,a,lx,I,rfl⟩
 dsimp only
 refine yk (show sFor _ _ _ (lwF ns gs c g as m t b [q_ (.lst (E.map λx:Nat=>D.int x)),a]) _ from ?_);refine vd (E.map λx:Nat=>D.int x) (λG l=>⟨zaA,l⟩) (λi U=>∃a,U=(lwF ns gs c g as m t b [q_ (.lst (E.map λx:Nat=>D.int x)),a])) ⟨a,rfl⟩ ?_ ?_
 ·rintro i d _ j ⟨a,rfl⟩;rw[zai]at j;obtain⟨k,ek,rfl⟩:=zar.mp j;have hk:=I k (zan ek);obtain⟨tu,et⟩:=zeX (zbJ (c.fdiv 3500) (show(0:Int)<((gs.map gD).length:Int) by lia))
  refine cg (show sIf _ _ _ (lwF ns gs c g as m t b [q_ (.lst (E.map λx:Nat=>D.int x)),q_ (.int k)]) _ from uo false (λG z=>⟨fdl,l0,rfl,gs,hs,t,b,k,tu,t.cl[k],zbP (λz:Int=>[D.tup (gs.map gD),rsD t b,D.int k,D.int z]) et,q,zaf hk,λen=>K9 q Z u Q Y R (zaf hk) en,z⟩) nofun λ_=>t9 ⟨q_ (.int k),rfl⟩)
 rintro _ ⟨a,rfl⟩;exact⟨zaA,h⟩
noncomputable def zN:List Str:=["abs","ValueError","all","bool","dict","enumerate","int","isinstance","len","list","max","min","range","reversed","set","sorted","str","sum","tuple","zip"]
def AL(K:W.Frag):List (Str×Nat)->Prop
 |[]=>True
 |p::l=>(∃f fd,Fun K p.1 p.1 (top p.2) f fd/\W.nsIn K mainGlobals p.1=some (some (.ref f)))/\AL K l
def al_mk{K:W.Frag}{x:Str}{i:Nat}{l:List (Str×Nat)}{f:Addr}{j y:Option Addr}{e:Array (Option Value)}{r kV u g d v:Value}(a:W.nsIn K mainGlobals x=some (some (.ref f)))(q:K.lookup f=some ⟨r,j,.func (W.fnOf x x (vf (top i)) (yu (top i)) (zd (top i)) .none kV u g y d v),e⟩)(c:W.codeIn K d x=true)(k:W.keepIn K (.ref f)=true)(h:AL K l):AL K ((x,i)::l):=⟨⟨_,_,Px q c k,a⟩,h⟩
theorem Ay{K:W.Frag}{h:Heap}{mg:Str->Option Value}(X:K.In h)(G:h.Ns mainGlobals mg):∀{l:List (Str×Nat)},AL K l->∀x i,(x,i)∈l->∃f fd,Fun K x x (top i) f fd/\mg x=some (.ref f)
 |_::_,⟨⟨f,fd,F,a⟩,q⟩,x,i,h=>by
  rcases zam.mp h with h|h
  ·cases h
   exact⟨f,fd,F,W.mg_of X G a⟩
  exact Ay X G q x i h
def Ma(K:W.Frag)(C:Addr):List (Str×Str×Nat)->Prop
 |[]=>True
 |p::l=>(∃f fd,Fun K p.1 p.2.1 (mth p.2.2) f fd/\Meth K C p.1 f)/\Ma K C l
def ma_mk{K:W.Frag}{C:Addr}{x q:Str}{i:Nat}{l:List (Str×Str×Nat)}{f:Addr}{r z:Option Addr}{e:Array (Option Value)}{u kV v g d y:Value}(b:W.findIn K (.ref C) x=some (some (.ref f)))(j:W.isFn K (.ref f)=true)(a:K.lookup f=some ⟨u,r,.func (W.fnOf x q (vf (mth i)) (yu (mth i)) (zd (mth i)) .none kV v g z d y),e⟩)(c:W.codeIn K d q=true)(k:W.keepIn K (.ref f)=true)(h:Ma K C l):Ma K C ((x,q,i)::l):=⟨⟨_,_,Px a c k,b,j,k⟩,h⟩
theorem Cz{K:W.Frag}{C:Addr}:∀{l:List (Str×Str×Nat)},Ma K C l->∀x q i,(x,q,i)∈l->∃f fd,Fun K x q (mth i) f fd/\Meth K C x f
 |_::_,⟨r,q'⟩,x,q,i,h=>by
  rcases zam.mp h with h|h
  ·cases h
   exact r
  exact Cz q' x q i h
def l4{α:Type}{us:List α}(h:us.length=4):∃a b c d,us=[a,b,c,d]:=match us,h with
 |[a,b,c,d],_=>⟨a,b,c,d,rfl⟩
def l3{α:Type}{us:List α}(h:us.length=3):∃a b c,us=[a,b,c]:=match us,h with
 |[a,b,c],_=>⟨a,b,c,rfl⟩
def all_mk{l:W.OpenLaw}{w:World}{K:W.Frag}{h:Heap}{mg:Str->Option Value}{fa:Addr}(u:K.In h)(G:h.Ns mainGlobals mg)(c0:mg "law" = some (.ref fa)){y:Addr}{O r:Option Addr}{es:Array (Option Value)}{R j k g a q:Value}{ft Tt:Addr}{nt:Nat}{d:Tok}{N a4:Option Addr}{I a8:Array (Option Value)}{Q V Y L z Z:Value}{C:Addr}{tq tr:Tok}(c8:W.nsIn K mainGlobals "law" = some (some (.ref y)))(a9:K.lookup y=some ⟨R,O,.func (W.fnOf "law" "law" (vf (top 37)) (yu (top 37)) (zd (top 37)) .none j k g r a q),es⟩)(c3:W.codeIn K a "law" = true)(b0:W.keepIn K (.ref y)=true)(a0:W.nsIn K mainGlobals "trace" = some (some (.ref ft)))(lt:K.lookup ft=some ⟨Q,N,.func (W.fnOf "trace" "trace" (vf (top 15)) (yu (top 15)) (zd (top 15)) (.ref Tt) V Y L a4 z Z),I⟩)(c2:W.codeIn K z "trace" = true)(kt:W.keepIn K (.ref ft)=true)(et:K.lookup Tt=some ⟨.type "tuple",none,.seq #[.int 1000 d] nt,a8⟩)(aC:W.nsIn K mainGlobals "Run" = some (some (.ref C)))(pg:W.plainGet K C Str.empty=true)(hd:W.hasDictIn K C=true)(po:W.plainOver K C=true)(sa:W.findIn K (.ref C) "__setattr__" = some (some (.builtin "object.__setattr__")))(mk:W.makesIn K C=true)(kc:W.keepIn K (.ref C)=true)(bQ:W.nsIn K mainGlobals "MOST_CALLS" = some (some (.int 20 tq)))(bR:W.nsIn K mainGlobals "MOST_SIZE" = some (some (.int 100 tr)))(lA:AL K fL)(mA:Ma K C mL)(nf:∀ x∈fNames,W.findIn K (.ref C) x=some none)(zA:∀ x∈zN,W.nsIn K mainGlobals x=some none) :
  ∃fd:FuncData,(∀(s:Shared)(v:Value),BindsTo s fd ⟨[v],[]⟩ [("_law_script",v)])/\∀base:Heap,K.In base->base.Ns mainGlobals mg->FnOk l.prog w K mg base CX0 14 fa fd ["_law_script"] (spD K 1 lawT):=by
 have e:=c0.symm.trans (W.mg_of u G c8);cases e;have d0:=Px (st:=top 37) a9 c3 b0;refine⟨W.fnOf "law" "law" (vf (top 37)) (yu (top 37)) (zd (top 37)) .none j k g r a q,λs v=>.of_eq rfl,λbase _ _=>?_⟩;have X:AX K mg C:=⟨by constructor <;> exact W.mg_none_of u G (zA _ aB),⟨⟨pg,hd,po,sa⟩,nf⟩,⟨⟨_,.int 20,W.mg_of u G bQ,⟨_,rfl⟩,λ_ _=>rfl⟩,⟨_,.int 100,W.mg_of u G bR,⟨_,rfl⟩,λ_ _=>rfl⟩⟩,Ay u G lA,Cz mA⟩
 have a6:=Su (P:=l.prog) (w:=w) (base:=base) X;have a5:=Fx (P:=l.prog) (w:=w) (base:=base) X;have Ft1:FunV K "trace" "trace" (top 15) ft (.int 1000 d) _:=⟨⟨Tt,_,nt,Q,N,V,Y,L,a4,z,Z,I,rfl,lt,c2,et,rfl⟩,kt⟩;have D:=Lf X (Ym X a5) (z1v X (Lj X (Fp X a6))) mk kc (W.mg_of u G aC) Ft1;have B:FD l.prog w K mg base 10 "trace" ["program","name","args","most"] (kn C RT FzT):=⟨ft,_,D,Ft1.binds (S:=[]) (λT' kV c1 pm an qZ ct us hl=>by rw[zaX]at hl;obtain⟨_,_,_,_,rfl⟩:=l4 hl;exact⟨_,rfl,rfl⟩),kt,W.mg_of u G a0⟩
 have a7:FDV l.prog w K mg base 10 "trace" ["program","name","args","most"] 1000 (kn C RT FzT):=⟨ft,_,d,D,Ft1.binds (S:=[.int 1000 d]) (λT' kV c1 pm an qZ ct us hl=>by obtain⟨_,_,_,rfl⟩:=l3 (show us.length=3 from by rw[zLa]at hl;exact zfY hl);exact⟨_,rfl,rfl⟩),kt,W.mg_of u G a0⟩
 exact Cr X B (gq X a7 B) d0
end ZZ
open PySem PySem.W PyProof.Rows
set_option maxRecDepth 100000 in
set_option maxHeartbeats 0 in
theorem PySem.Challenge.cw_toll_k18_a_call_by_itself_holds : PySem.Challenge.rw_toll_k18_a_call_by_itself.Holds := by
 refine ZZ.opened ?_
 k_fill
 refine ZZ.walkD (l:=PySem.Challenge.rw_toll_k18_a_call_by_itself) (k:=14) (x:="_law_script") rfl rfl ⟨rfl,by decide,by decide⟩ (λw h Y=>PySem.W.kIn_of Y) ?F
 case F =>
  intro w mg g h e G d
  refine' ZZ.all_mk e G d ?a0 ?a1 ?a2 ?a3 ?a4 ?lt ?a5 ?kt ?et ?aC ?pg ?hd ?po ?sa ?mk ?kc ?bQ ?bR ?lA ?mA ?nf ?zA
  case a0 | a4 | aC=>show _=_; k_is
  case lA =>
   repeat refine ZZ.al_mk (by k_is) (by k_is) (by k_is) (by k_is) ?_
   exact zaA
  case mA =>
   repeat refine ZZ.ma_mk (by k_is) (by k_is) (by k_is) (by k_is) (by k_is) ?_
   exact zaA
  case nf =>
   intro x a
   simp only [ZZ.fNames,zam,zaW,zdN] at a
   repeat' rcases a with rfl | a
   all_goals first | k_is | (subst a; k_is)
  case zA =>
   intro x a
   simp only [ZZ.zN,zam,zaW,zdN] at a
   repeat' rcases a with rfl | a
   all_goals first | k_is | (subst a; k_is)
  case a1 | a2 | a3 | lt | a5 | kt | et | pg | hd | po | sa | mk | kc | bQ | bR=>k_is
