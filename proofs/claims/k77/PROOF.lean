import PyProof.Rows.All
import KE.IntBitsLaws
import KE.KDictOf
import KE.KDictSum
import KE.KIsAll
import KE.KNest
import KE.KRevIter
import KE.KSortTup
import PySem.Challenge.RW_toll_k77_prices_times_a_number
noncomputable section
set_option Elab.async false
set_option genInjectivity false
set_option linter.all false
set_option bootstrap.genMatcherCode false
theorem zS0(h:True:=by rfl)(_:True:=by decide)(_:True:=by walk_at "o")(_:True:=by intro _;rfl)(_:True:=by intro _ _;rfl):True:=h
def zSr:=zS0._auto_1
def zSd:=zS0._auto_2
def zSo:=zS0._auto_3
def zSi:=zS0._auto_4
def zSj:=zS0._auto_5
def zaa:=@PySem.wpAny_bind
def zab:=@PySem.wpAny_pure
def zac:=@PySem.Heap.get?_push_of_some
def zad:=@PySem.Heap.get?_push_size
def zae:=@PySem.Heap.lt_size
def zaf:=@List.getElem?_eq_getElem
def zag:=@List.getElem?_eq_some_iff
def zah:=@List.mem_map
def zai:=@List.getElem?_map
def zaj:=@Nat.le_refl
def zak:=@Nat.le_trans
def zal:=@List.mem_cons_of_mem
def zam:=@List.mem_cons
def zan:=@List.mem_of_getElem?
def zao:=@List.mem_cons_self
def zap:=@List.size_toArray
def zar:=@Option.map_eq_some_iff
def zas:=@List.mem_append
def zaA:=@trivial
def zaB:=@List.map_cons
def zaC:=@List.mem_singleton
def zaD:=@Nat.le_of_ble_eq_true
def zaE:=@List.mem_append_right
def zaF:=@List.getElem?_append_right
def zaG:=@List.getElem?_append_left
def zaH:=@List.mem_append_left
def zaI:=@if_neg
def zaJ:=@List.length_reverse
def zaK:=@if_pos
def zaL:=@Nat.ne_of_lt
def zaM:=@List.zip_cons_cons
def zaN:=@List.getElem?_set_ne
def zaO:=@List.nodup_append
def zaP:=@Option.some.inj
def zaQ:=@List.nodup_cons
def zaR:=@of_eq_true
def zaS:=@List.not_mem_nil
def zaT:=@Bool.false_ne_true
def zaU:=@List.getElem?_set_self
def zaV:=@List.map_map
def zaW:=@Nat.lt_of_lt_of_le
def zaX:=@List.length_take
def zaY:=@List.length_set
def zaZ:=@PySem.wpAny_holding
def zbA:=@PySem.wpAny_callSpecial?_slot
def zbB:=@PyProof.Rows.callWith_type1
def zbC:=@PySem.sizeLine_eq
def zbD:=@Int.fmod_nonneg_of_pos
def zbE:=@PySem.wpAny_field
def zbF:=@PySem.wpAny_call_entry
def zbG:=@List.filterMap_cons
def zbH:=@PySem.Heap.SameBut.update
def zbI:=@List.length_zip
def zbJ:=@List.getElem?_of_mem
def zbK:=@PySem.wpAny_newObj_type
def zbL:=@List.take_add_one
def zbM:=@List.getElem?_eq_none
def zbN:=@beq_eq_false_iff_ne
def zbO:=@congrArg
def zbP:=@Nat.lt_succ_self
def zbQ:=@of_decide_eq_true
def zbR:=@PySem.wpAny_Call_Name_kw
def zbS:=@decide_eq_false
def zbT:=@List.append_nil
def zbU:=@List.take_length
def zbV:=@List.map_nil
def zbW:=@Nat.zero_le
def zbX:=@List.filterMap_map
def zbY:=@PySem.Obj.data_mapFields
def zbZ:=@Bool.false_eq_true
def zcA:=@Nat.ne_of_gt
def zcB:=@List.length_replicate
def zcC:=@List.replicate_succ
def zcD:=@List.cons_ne_nil
def zcE:=@List.getElem?_replicate
def zcF:=@Int.toNat_natCast
def zcG:=@List.append_assoc
def zcH:=@PySem.F.plainAttrs_list
def zcI:=@Int.fmod_lt_of_pos
def zcJ:=@List.take_of_length_le
def zcK:=@PySem.wpAny_seqItems
def zcL:=@Bool.and_eq_true
def zcM:=@List.eq_nil_of_length_eq_zero
def zcN:=@PySem.mem_of_lookup
def zcO:=@PySem.Heap.get?_update_self
def zcP:=@PySem.wpAny_pyIter_list
def zcQ:=@PySem.builtinLookup_eq_fast
def zcR:=@PySem.Heap.size_push
def zcS:=@Nat.lt_irrefl
def zcT:=@PySem.Around.under_plainId
def zcU:=@List.lookup_cons
def zcV:=@True.intro
def zcW:=@List.length_range
def zcX:=@List.nodup_nil
def zcY:=@List.mem_filter
def zcZ:=@List.filterMap_eq_map
def zdA:=@PySem.wpAny_setField_rec
def zdB:=@List.zip_nil_right
def zdC:=@List.length_drop
def zdD:=@Nat.le_add_right
def zdE:=@PySem.IntMulOk.of_left
def zdF:=@Nat.lt_or_ge
def zdG:=@PySem.wpAny_truthy_bool
def zdH:=@List.reverse_cons
def zdI:=@PySem.F.slot_zip_next
def zdJ:=@PySem.codeAny_builtin
def zdK:=@or_false
def zdL:=@PySem.F.slot_tuple_iterator_next
def zdM:=@List.getElem_mem
def zdN:=@PySem.wpAny_pyIter_tuple
def zdO:=@PySem.Obj.isFreed_of_fields
def zdP:=@PySem.wpAny_attempt
def zdQ:=@decide_eq_true
def zdR:=@PySem.wpAny_setField
def zdS:=@PySem.wpAny_passesOwn
def zdT:=@List.of_mem_zip
def zdU:=@List.flatten_cons
def zdV:=@PySem.typeLookup_type
def zdW:=@List.any_cons
def zdX:=@PySem.wpAny_of_eq
def zdY:=@PySem.wpAny_isInstance
def zdZ:=@List.mem_range
def zeA:=@PySem.isSubtype_type
def zeB:=@List.drop_of_length_le
def zeC:=@Nat.lt_of_le_of_lt
def zeD:=@of_decide_eq_false
def zeE:=@PySem.W.kia_one
def zeF:=@Array.getElem?_toList
def zeG:=@Nat.eq_of_beq_eq_true
def zeH:=@List.find?_cons
def zeI:=@Nat.sub_self
def zeJ:=@List.concat_eq_append
def zeK:=@List.take_sublist
def zeL:=@List.getD_eq_getElem?_getD
def zeM:=@Nat.mul_le_mul_right
def zeN:=@List.reverse_reverse
def zeO:=@List.getElem?_eq_none_iff
def zeP:=@if_false
def zeQ:=@PySem.wpAny_askSetting
def zeR:=@Sum.inr.inj
def zeS:=@Array.length_toList
def zeT:=@Int.toNat_of_nonneg
def zeU:=@PySem.F.args_tuple_add_2
def zeV:=@PySem.call_meets
def zeW:=@PySem.F.slot_list_extend
def zeX:=@PySem.F.type_list_extend
def zeY:=@PySem.F.entry_tuple_add
def zeZ:=@List.all_cons
def zfA:=@List.forIn_cons
def zfB:=@List.getElem?_cons_succ
def zfC:=@PySem.plainId_quiet
def zfD:=@PySem.wpAny_specialOf
def zfE:=@PyProof.Rows.F.plain_set_update_loop
def zfF:=@PySem.F.slot_tuple_add
def zfG:=@PySem.Calls.callWith_builtin
def zfH:=@Nat.lt_succ_of_lt
def zfI:=@PySem.Obj.cls_mapFields
def zfJ:=@PySem.wpAny_rule
def zfK:=@PySem.F.args_zip_next_1
def zfL:=@List.Pairwise.map
def zfM:=@PySem.boot_len
def zfN:=@List.take_succ
def zfO:=@PySem.codeAny_mono
def zfP:=@PySem.wpAny_typeOf
def zfQ:=@Nat.lt_trans
def zfR:=@Nat.min_self
def zfS:=@PySem.F.slot_str_join
def zfT:=@List.eq_nil_or_concat
def zfU:=@PySem.F.entry_zip_next
def zfV:=@PySem.entryFor_of_tree
def zfW:=@PySem.Paired.length
def zfX:=@PySem.wpAny_execs_nil
def zfY:=@LawfulBEq.eq_of_beq
def zfZ:=@PySem.wpAny_ite_split
def zgA:=@Int.zero_add
set_option maxRecDepth 100000
set_option maxHeartbeats 8000000
set_option exponentiation.threshold 5000
set_option compiler.extract_closed false
set_option bootstrap.genMatcherCode false
def zLa.{u} {α:Type u} {a b:List α}:(a++b).length=a.length+b.length:=List.length_append
def zLc.{u} {α:Type u} {x:α} {a:List α}:(x::a).length=a.length+1:=rfl
def zLn.{u} {α:Type u}:([]:List α).length=0:=rfl
def zLm.{u,v} {α:Type u} {a:Type v} {as:List α} (f:α->a):(as.map f).length=as.length:=List.length_map f
def zMa.{u,v} {α:Type u} {a:Type v} {f:α->a} {l₁ l₂:List α}:(l₁++l₂).map f=l₁.map f++l₂.map f:=List.map_append
set_option hygiene false in
local macro_rules | `(tactic| walk_at "t")=>`(tactic| (intro cl C fp s H; first | exact zj (i:=0) (by show ((_:List Str)++_).Nodup; decide +kernel) rfl (by walk_at "o") | exact ve (K0:=K) (n:=2) (by rfl) (by rfl) (yd (zj (i:=0) (by show ((_:List Str)++_).Nodup; decide +kernel) rfl (by walk_at "o")) (yd (zj (i:=1) (by show ((_:List Str)++_).Nodup; decide +kernel) rfl (by walk_at "o")) wt))))
set_option hygiene false in
local macro_rules|`(tactic| walk_at "b")=>`(tactic|(intro ds f qZ A outer s H xs S Y hr hl hT;have hu:=hr.units))
set_option hygiene false in
local macro_rules|`(tactic| walk_at "y")=>`(tactic|(intro ds f qZ A outer s H xs dZ S Y hr hl hT;have hu:=hr.units))
local macro_rules|`(tactic| walk_at "B")=>`(tactic|exact λ_ _ F=>F.binds (by walk_at "3"))
set_option hygiene false in
local macro_rules | `(tactic| walk_at "p")=>`(tactic| simp only [ρ0,List.map_cons,List.map_nil,List.replicate,List.cons_append,List.nil_append])
local macro_rules | `(tactic| walk_at "o")=>`(tactic| first | exact Or.inl rfl | exact Or.inr rfl | exact Or.inr (Or.inl rfl) | exact Or.inr (Or.inr rfl)|assumption)
local macro_rules | `(tactic| walk_at "f")=>`(tactic| exact ⟨rfl,rfl,rfl,by decide +kernel,rfl,by decide +kernel,by decide +kernel⟩)
local macro_rules | `(tactic| walk_at "m")=>`(tactic| exact ⟨by first | lia | (simp; lia),by repeat first | assumption | exact trivial | refine $(Lean.mkIdent `prs1) ?_ ?_⟩)
set_option hygiene false in
local macro_rules | `(tactic| walk_at "k")=>`(tactic| (delta z_V openEnds topFrom; rw [Fast.te14082659384304107361]; kernel_rfl))
def aA{a:Sort _}{p:a->Prop}(x:a)(h:p x):p x:=h
def aB{p:Prop}(h:autoParam p zSd):p:=h
def aD{p:Prop}(h:p:=by lia):p:=h
def aE{p:Prop}(h:p:=by simp):p:=h
def aF{p:Prop}(h:p:=by decide +kernel):p:=h
def aG{p:Prop}(h:autoParam p zSo):p:=h
def aH{p:Prop}(h:p:=by exact rfl):p:=h
set_option hygiene false in
local macro_rules | `(tactic| walk_at "3")=>`(tactic| (intro _ _ _ _ _ _ us hl; first | (obtain ⟨_,rfl⟩:=kz hl; rfl) | (obtain ⟨_,_,rfl⟩:=t5 hl; rfl) | (obtain ⟨_,_,_,rfl⟩:=g0 hl; rfl) | (obtain ⟨_,_,_,_,rfl⟩:=J5 hl; rfl) | (obtain ⟨_,_,_,_,_,_,rfl⟩:=z4r hl; rfl)))
namespace ZZ
open PySem PySem.Spec PyProof.Rows
abbrev _root_.PySem.Shared.z(s:PySem.Shared):=s.heap.objs.size
noncomputable def vc(s:Stmt):Arguments:=match s with
 |.FunctionDef _ a _ _ _ _ _ _ _ _=>a
 |_=>{posonlyargs:=[],args:=[],vararg:=none,kwonlyargs:=[],kw_defaults:=[],kwarg:=none,defaults:=[]}
noncomputable def yr(s:Stmt):List Stmt:=match s with
 |.FunctionDef _ _ b _ _ _ _ _ _ _=>b
 |_=>[]
noncomputable def zd(s:Stmt):Scope:=match s with
 |.FunctionDef _ _ _ _ _ _ sc _ _ _=>sc
 |_=>{kind:=.function,names:=[],isGenerator:=false,isCoroutine:=false}
noncomputable def Nk(s:Stmt)(j:Nat):Stmt:=match s with
 |.ClassDef _ _ _ body _ _ _ _ _ _ _=>body.getD j (.Pass ⟨0,0,0,0⟩)
 |_=>.Pass ⟨0,0,0,0⟩
noncomputable def top(i:Nat):Stmt:=PySem.Challenge.pw_toll_k77_prices_times_a_number.main.body.getD i (.Pass ⟨0,0,0,0⟩)
section
open PySem.W PySem.PyData
noncomputable def zE(P:Params)(s:Str)(t:Nat)(v:Value):DictEntry:=⟨keyHash P s,.str s t,v⟩
noncomputable def zG(n q:Str)(s:Stmt)(d c m:Value)(k:Nat):Obj:=⟨.type "function",none,.func (fnOf n q (vc s) (yr s) (zd s) d .none c m none (.ref k) .none),#[]⟩
noncomputable def zF(n:Str)(s:Stmt)(m:Str)(i k:Nat):Obj:=⟨.type "function",none,.func (fnOf n n (vc s) (yr s) (zd s) .none .none .none (.str m i) none (.ref k) .none),#[]⟩
noncomputable def zC(n:Str)(a:Nat)(q:Str)(b c:Nat)(d e f:Int)(g:Nat)(h:Int)(i j k l:Nat)(m o:Int)(p:Nat):Obj:=⟨.type "code",none,.fields #[.str n a,.str q b,.str "/claim/cut.py" c,.int d 0,.int e 0,.int 0 0,.int 0 0,.int f 0,.ref g,.bool true,.int h 0,.ref i,.none,.ref j,.ref k,.ref l,.int m 0,.int o 0,.str "/claim/cut.py" p],#[]⟩
noncomputable def zQA(n q:Str)(a:Nat)(d e:Int)(g m:Nat):Obj:=zC n a q (a+1) (a+2) d e 3 g 181 (g+1) (g+2) (g+3) (g+4) m d (m+1)
noncomputable def zQB(n q:Str)(a:Nat)(d e:Int)(g m:Nat):Obj:=⟨.type "code",none,.fields #[.str n a,.str q (a+1),.str "/claim/cut.py" (a+2),.int d 0,.int e 0,.int 0 0,.int 0 0,.int 3 0,.ref g,.bool true,.int 181 0,.ref (g+1),.none,.none,.none,.ref (g+2),.int m 0,.int d 0,.str "/claim/cut.py" (m+1)],#[]⟩
noncomputable def zQC(n q:Str)(i k:Nat):Obj:=zG n q (Nk (top 19) i) .none .none (.str "toll.runs" 324) k
noncomputable def z_t(x:Array Value):Obj:=⟨.type "tuple",none,.seq x 0,#[]⟩
noncomputable def z_w(n:Str)(a:Nat)(d e:Int)(g m:Nat):Obj:=⟨.type "code",none,.fields #[.str n a,.str n (a+1),.str "/claim/cut.py" (a+2),.int d 0,.int e 0,.int 0 0,.int 0 0,.int 3 0,.ref g,.bool true,.int 181 0,.ref (g+1),.none,.none,.none,.ref (g+2),.int m 0,.int d 0,.str "/claim/cut.py" (m+1)],#[]⟩
noncomputable def z_x(n:Str)(a:Nat)(d e:Int)(g m:Nat):Obj:=zC n a n (a+1) (a+2) d e 3 g 181 (g+1) (g+2) (g+3) (g+4) m d (m+1)
noncomputable def z_a(n:Str)(i c:Nat):Obj:=zF n (top i) "law_toll_k77_prices_times_a_number" 640 c
noncomputable def z_b(n:Str)(i c:Nat):Obj:=zF n (top i) "toll.near" 554 c
noncomputable def z_c(n:Str)(i c:Nat):Obj:=zF n (top i) "toll.values" 289 c
noncomputable def z_d(n:Str)(i c:Nat):Obj:=zF n (top i) "toll.tables" 525 c
noncomputable def z_y(P:Params)(n:Str)(a r:Nat):=zE P n a (.ref r)
noncomputable def zK(P:Params):Frag:=(nat_lit 2,⟨.none,none,(.dict #[] 0),#[]⟩)::
(nat_lit 3,⟨(.type "dict"),none,(.dict #[zE P "__name__" 165 (.str "law_toll_k77_prices_times_a_number" 640),zE P "__doc__" 166 .none,zE P "__package__" 167 .none,zE P "__loader__" 168 (.builtin "__main__.__loader__#opaque"),zE P "__spec__" 169 .none,z_y P "__annotations__" 170 6,z_y P "__builtins__" 171 4,zE P "__file__" 173 (.str "/claim/cut.py" 172),zE P "__cached__" 174 .none,z_y P "TollError" 206 24,z_y P "NoFunction" 222 37,z_y P "NoValue" 238 49,z_y P "NoTable" 254 61,z_y P "TooMany" 270 73,z_y P "is_whole" 279 82,z_y P "function_of" 288 89,z_y P "fits" 296 94,z_y P "is_tree" 305 101,z_y P "size_of" 313 108,z_y P "nodes_of" 323 115,zE P "MOST_CALLS" 327 (.int 20 326),zE P "MOST_SIZE" 329 (.int 100 328),z_y P "trace" 341 123,z_y P "check_args" 347 128,z_y P "Run" 524 258,z_y P "WORDS" 534 263,z_y P "is_price" 541 270,z_y P "check_table" 547 275,z_y P "price_of" 553 280,zE P "MOST_INPUTS" 557 (.int 243 556),z_y P "dearest" 574 288,z_y P "shapes_of" 580 293,z_y P "check_inputs" 592 300,z_y P "count_of" 603 307,z_y P "forms_of" 609 312,z_y P "inputs_of" 615 317,z_y P "values_of" 621 322,z_y P "trees_of" 633 329,z_y P "nodes_over" 639 334,z_y P "_law_cell_at" 649 341,z_y P "_law_number" 656 348,z_y P "_law_names" 662 353,z_y P "_law_putting" 678 360,z_y P "_law_planting" 695 367,z_y P "_law_head" 701 372,z_y P "_law_take" 708 379,z_y P "_law_expression" 714 384,z_y P "_law_body" 720 389,z_y P "_law_program" 726 394,z_y P "_law_whole" 733 401,z_y P "_law_table" 745 408,z_y P "_law_turned" 754 415,z_y P "_law_only" 760 420,z_y P "law" 766 425] 54),#[]⟩)::
(nat_lit 81,z_x "is_whole" 273 13 1 76 277)::
(nat_lit 82,zF "is_whole" (top 7) "toll.programs" 271 81)::
(nat_lit 88,z_x "function_of" 280 15 2 83 286)::
(nat_lit 89,zF "function_of" (top 8) "toll.programs" 271 88)::
(nat_lit 93,z_w "fits" 291 21 2 90 294)::
(nat_lit 94,z_c "fits" 10 93)::
(nat_lit 100,z_x "is_tree" 297 27 1 95 303)::
(nat_lit 101,z_c "is_tree" 11 100)::
(nat_lit 107,z_x "size_of" 306 37 2 102 311)::
(nat_lit 108,z_c "size_of" 12 107)::
(nat_lit 114,z_x "nodes_of" 314 43 1 109 321)::
(nat_lit 115,z_c "nodes_of" 13 114)::
(nat_lit 116,z_t #[.int 1000 330])::
(nat_lit 122,z_x "trace" 331 55 4 117 339)::
(nat_lit 123,zG "trace" "trace" (top 17) (.ref 116) .none (.str "toll.runs" 324) 122)::
(nat_lit 127,z_w "check_args" 342 61 2 124 345)::
(nat_lit 128,zF "check_args" (top 18) "toll.runs" 324 127)::
(nat_lit 139,zQB "__init__" "Run.__init__" 360 69 3 136 363)::
(nat_lit 140,zQC "__init__" "Run.__init__" 0 139)::
(nat_lit 146,zQA "told" "Run.told" 366 79 1 141 370)::
(nat_lit 147,zQC "told" "Run.told" 1 146)::
(nat_lit 153,zQA "go" "Run.go" 373 84 1 148 378)::
(nat_lit 154,zQC "go" "Run.go" 2 153)::
(nat_lit 160,zQA "step" "Run.step" 381 100 3 155 387)::
(nat_lit 161,zQC "step" "Run.step" 3 160)::
(nat_lit 167,zQA "own_step" "Run.own_step" 390 107 2 162 395)::
(nat_lit 168,zQC "own_step" "Run.own_step" 4 167)::
(nat_lit 174,zQA "standing" "Run.standing" 398 110 2 169 403)::
(nat_lit 175,zQC "standing" "Run.standing" 5 174)::
(nat_lit 181,zQA "stand" "Run.stand" 406 113 3 176 413)::
(nat_lit 182,zQC "stand" "Run.stand" 6 181)::
(nat_lit 188,zQA "taken" "Run.taken" 416 117 2 183 422)::
(nat_lit 189,zQC "taken" "Run.taken" 7 188)::
(nat_lit 193,zQB "behind" "Run.behind" 425 122 3 190 428)::
(nat_lit 194,zQC "behind" "Run.behind" 8 193)::
(nat_lit 200,zQA "begin_body" "Run.begin_body" 431 126 2 195 437)::
(nat_lit 201,zQC "begin_body" "Run.begin_body" 9 200)::
(nat_lit 207,zQA "follow" "Run.follow" 440 137 3 202 447)::
(nat_lit 208,zQC "follow" "Run.follow" 10 207)::
(nat_lit 214,zQA "bring" "Run.bring" 450 145 2 209 455)::
(nat_lit 215,zQC "bring" "Run.bring" 11 214)::
(nat_lit 221,zQA "choose" "Run.choose" 458 150 2 216 464)::
(nat_lit 222,zQC "choose" "Run.choose" 12 221)::
(nat_lit 228,zQA "begin_value" "Run.begin_value" 467 155 2 223 473)::
(nat_lit 229,zQC "begin_value" "Run.begin_value" 13 228)::
(nat_lit 235,zQA "apply" "Run.apply" 476 170 2 230 483)::
(nat_lit 236,zQC "apply" "Run.apply" 14 235)::
(nat_lit 242,zQA "make" "Run.make" 486 183 3 237 492)::
(nat_lit 243,zQC "make" "Run.make" 15 242)::
(nat_lit 247,zQB "enter" "Run.enter" 495 189 3 244 498)::
(nat_lit 248,zQC "enter" "Run.enter" 16 247)::
(nat_lit 254,zQA "leave" "Run.leave" 501 201 1 249 506)::
(nat_lit 255,zQC "leave" "Run.leave" 17 254)::
(nat_lit 256,z_t #[.str "calls" 509,.str "frames" 510,.str "functions" 511,.str "is_cut" 512,.str "most" 513,.str "ready" 514,.str "steps" 515,.str "tasks" 516])::
(nat_lit 257,⟨(.type "dict"),none,(.dict #[zE P "__module__" 355 (.str "toll.runs" 324),zE P "__firstlineno__" 359 (.int 67 358),z_y P "__init__" 365 140,z_y P "told" 372 147,z_y P "go" 380 154,z_y P "step" 389 161,z_y P "own_step" 397 168,z_y P "standing" 405 175,z_y P "stand" 415 182,z_y P "taken" 424 189,z_y P "behind" 430 194,z_y P "begin_body" 439 201,z_y P "follow" 449 208,z_y P "bring" 457 215,z_y P "choose" 466 222,z_y P "begin_value" 475 229,z_y P "apply" 485 236,z_y P "make" 494 243,z_y P "enter" 500 248,z_y P "leave" 508 255,z_y P "__static_attributes__" 517 256,z_y P "__dict__" 519 259,z_y P "__weakref__" 521 260,zE P "__doc__" 522 .none] 4),#[]⟩)::
(nat_lit 258,⟨(.type "type"),none,(.cls ⟨"Run",[(.type "object")],[(.ref 258),(.type "object")],257,"Run",true,[],[],false,none,false⟩),#[none,none,(some (.str "Run" 348)),(some (.str "Run" 356)),(some (.builtin "object.__new__")),(some (.bool true))]⟩)::
(nat_lit 259,⟨(.type "getset_descriptor"),none,(.fields #[(.str "__dict__" 518),(.ref 258),(.builtin "function.__dict__"),(.builtin "function.__dict__#set")]),#[]⟩)::
(nat_lit 260,⟨(.type "getset_descriptor"),none,(.fields #[(.str "__weakref__" 520),(.ref 258),(.builtin "ExceptionGroup.__weakref__"),.none]),#[]⟩)::
(nat_lit 263,z_t #[.str "call" 527,.str "make" 528,.str "sum" 529,.str "let" 530,.str "less" 531,.str "open" 532,.str "hold" 533])::
(nat_lit 269,z_x "is_price" 535 206 1 264 539)::
(nat_lit 270,z_d "is_price" 22 269)::
(nat_lit 274,z_w "check_table" 542 208 1 271 545)::
(nat_lit 275,z_d "check_table" 23 274)::
(nat_lit 279,z_w "price_of" 548 213 2 276 551)::
(nat_lit 280,z_d "price_of" 24 279)::
(nat_lit 281,z_t #[.int 1000 558])::
(nat_lit 287,z_x "dearest" 559 218 6 282 572)::
(nat_lit 288,zG "dearest" "dearest" (top 27) (.ref 281) .none (.str "toll.near" 554) 287)::
(nat_lit 292,z_w "shapes_of" 575 228 2 289 578)::
(nat_lit 293,z_b "shapes_of" 28 292)::
(nat_lit 299,z_x "check_inputs" 581 230 3 294 590)::
(nat_lit 300,z_b "check_inputs" 29 299)::
(nat_lit 306,z_x "count_of" 593 236 3 301 601)::
(nat_lit 307,z_b "count_of" 30 306)::
(nat_lit 311,z_w "forms_of" 604 243 1 308 607)::
(nat_lit 312,z_b "forms_of" 31 311)::
(nat_lit 316,z_w "inputs_of" 610 248 3 313 613)::
(nat_lit 317,z_b "inputs_of" 32 316)::
(nat_lit 321,z_w "values_of" 616 256 3 318 619)::
(nat_lit 322,z_b "values_of" 33 321)::
(nat_lit 328,z_x "trees_of" 622 268 2 323 631)::
(nat_lit 329,z_b "trees_of" 34 328)::
(nat_lit 333,z_w "nodes_over" 634 276 3 330 637)::
(nat_lit 334,z_b "nodes_over" 35 333)::
(nat_lit 340,z_x "_law_cell_at" 642 283 2 335 647)::
(nat_lit 341,z_a "_law_cell_at" 37 340)::
(nat_lit 347,z_x "_law_number" 650 287 1 342 654)::
(nat_lit 348,z_a "_law_number" 38 347)::
(nat_lit 352,z_w "_law_names" 657 289 2 349 660)::
(nat_lit 353,z_a "_law_names" 39 352)::
(nat_lit 359,z_x "_law_putting" 663 300 2 354 676)::
(nat_lit 360,z_a "_law_putting" 40 359)::
(nat_lit 366,z_x "_law_planting" 679 307 2 361 693)::
(nat_lit 367,z_a "_law_planting" 41 366)::
(nat_lit 371,z_w "_law_head" 696 314 3 368 699)::
(nat_lit 372,z_a "_law_head" 42 371)::
(nat_lit 378,z_x "_law_take" 702 326 1 373 706)::
(nat_lit 379,z_a "_law_take" 43 378)::
(nat_lit 383,z_w "_law_expression" 709 331 4 380 712)::
(nat_lit 384,z_a "_law_expression" 44 383)::
(nat_lit 388,z_w "_law_body" 715 349 4 385 718)::
(nat_lit 389,z_a "_law_body" 45 388)::
(nat_lit 393,z_w "_law_program" 721 372 1 390 724)::
(nat_lit 394,z_a "_law_program" 46 393)::
(nat_lit 400,z_x "_law_whole" 727 382 1 395 731)::
(nat_lit 401,z_a "_law_whole" 47 400)::
(nat_lit 407,z_x "_law_table" 734 384 2 402 743)::
(nat_lit 408,z_a "_law_table" 48 407)::
(nat_lit 414,z_x "_law_turned" 746 390 1 409 752)::
(nat_lit 415,z_a "_law_turned" 49 414)::
(nat_lit 419,z_w "_law_only" 755 395 6 416 758)::
(nat_lit 420,z_a "_law_only" 50 419)::
(nat_lit 424,z_w "law" 761 407 1 421 764)::
(nat_lit 425,z_a "law" 51 424)::[]
noncomputable def zA:List Addr:=2::3::81::82::88::89::93::94::100::101::107::108::114::115::116::122::123::127::128::139::140::146::147::153::154::160::161::167::168::174::175::181::182::188::189::193::194::200::201::207::208::214::215::221::222::228::229::235::236::242::243::247::248::254::255::256::257::258::259::260::263::269::270::274::275::279::280::281::287::288::292::293::299::300::306::307::311::312::316::317::321::322::328::329::333::334::340::341::347::348::352::353::359::360::366::367::371::372::378::379::383::384::388::389::393::394::400::401::407::408::414::415::419::420::424::425::[]
def zAK(P:Params):zA=(zK P).map (·.1):=by kernel_rfl
noncomputable def zq:Program:={PySem.Challenge.pw_toll_k77_prices_times_a_number with main:={PySem.Challenge.pw_toll_k77_prices_times_a_number.main with body:=[1,2,3,4,5,7,8,10,11,12,13,15,16,18,19,21,22,23,24,26,28,29,30,31,32,33,34,35,37,38,39,40,41,42,43,44,45,46,47,48,49,50,51].filterMap λi=>PySem.Challenge.pw_toll_k77_prices_times_a_number.main.body[i]?}}
abbrev zX(s:Shared):Bool:=xlAt zq [] s&&recOk (RowW.records PySem.Challenge.rw_toll_k77_prices_times_a_number.row.toRowW) s
abbrev z_O(s:Shared):=Fast.tw4187177175401517315 zq ["trace","dearest"] (Fast.tw5923862056798008813 PySem.Challenge.pw_toll_k77_prices_times_a_number.main.body) zX true s
abbrev z_G:=openGood zq ["trace","dearest"]
abbrev z_V{β:Type}(p:Shared->β)(b:β)(w:World):Prop:=Option.map p (openEnds Fast.tw14364793385576792824 PySem.Challenge.pw_toll_k77_prices_times_a_number w 6026)=some b
abbrev zP(w:World):Prop:=z_V (λs=>(z_O s,zA.map s.heap.get?)) (z_G,(zK w.params).map λp=>some p.2) w
theorem o_m{α β γ:Type}{X:Option α}{f:α->β}{g:α->γ}{a:β}{b:γ}(h:X.map f=some a)(k:X.map g=some b):X.map (λs=>(f s,g s))=some (a,b):=by cases X <;> simp_all
theorem z_0(w:World):z_V (λs=>(z_O s).1) z_G.1 w:=by walk_at "k"
theorem z_1(w:World):z_V (λs=>(z_O s).2) z_G.2 w:=by walk_at "k"
theorem z_4(w:World):z_V (λs=>zA.map s.heap.get?) ((zK w.params).map λp=>some p.2) w:=by walk_at "k"
theorem hl0(w:World):zP w:=o_m (o_m (z_0 w) (z_1 w)) (z_4 w)
def hl1:LeftO PySem.Challenge.pw_toll_k77_prices_times_a_number zq ["trace","dearest"] zX (Hook.obs (kHook zK zA zAK)) (Hook.val (kHook zK zA zAK)) 6026:=by
 intro w;rw[Fast.te4187177175401517315,Fast.te5923862056798008813,Fast.te14364793385576792824];exact hl0 w
def said:PySem.Challenge.rw_toll_k77_prices_times_a_number.wellSaid=true:=by kernel_rfl
noncomputable def zD:DefRec:=match top 51 with|.FunctionDef n a b _ _ _ c _ _ p=>⟨n,a,b,c,p⟩|_=>⟨"",⟨[],[],none,[],[],none,[]⟩,[],⟨.function,[],false,false,[]⟩,⟨0,0,0,0⟩⟩
def opened(g:WalkO zq ["trace","dearest"] (XL zq []) (Hook.says (kHook zK zA zAK)) PySem.Challenge.rw_toll_k77_prices_times_a_number.row.toRowW zD [] (λf vs=>PySem.call f vs)):PySem.Challenge.rw_toll_k77_prices_times_a_number.Holds:=by
 refine holds_law said λa=>holds_open (q:=zq) (loose:=["trace","dearest"]) (Xt:=zX) (XP:=XL zq []) (d:=zD) (kwd:=[]) (Yf:=Hook.obs (kHook zK zA zAK)) (Ya:=Hook.val (kHook zK zA zAK)) (YP:=Hook.says (kHook zK zA zAK)) (N:=6026) hl1 (Hook.of (kHook zK zA zAK)) (Hook.keeps (kHook zK zA zAK)) (λs e=>xl_of s (Bool.and_eq_true_iff.mp e).1) XL.keeps (by kernel_rfl) (by kernel_rfl) (by kernel_rfl) (λs e=>recFacts_of (Bool.and_eq_true_iff.mp e).2) (by kernel_rfl) a (by kernel_rfl) ⟨rfl,rfl,rfl,rfl,rfl,by decide +kernel⟩ ?hw g
 case hw=>w_witness2
end
abbrev Key:=Sum Int Str
noncomputable def U6:Key->Value->Bool
 |.inl k,v=>Value.isInt k v
 |.inr x,v=>Value.isStrOf x v
noncomputable def keyH(w:World):Key->Int
 |.inl k=>hashInt k
 |.inr x=>hashStr w x
def xb:∀{k:Key}{v:Value},U6 k v=true->(∃i t,k=Sum.inl i/\v=Value.int i t)\/(∃x t,k=Sum.inr x/\v=Value.str x t)
 |.inl i,v,h=>by
  obtain⟨t,e⟩:=Value.isInt_shape (k:=i) (v:=v) h;exact .inl ⟨i,t,rfl,e⟩
 |.inr x,v,h=>by
  obtain⟨t,e⟩:=Value.isStrOf_shape (x:=x) (v:=v) h;exact .inr ⟨x,t,rfl,e⟩
def Nf(i:Int)(t:Tok):U6 (.inl i) (.int i t)=true:=by simp[U6,Value.isInt]
def Nd(x:Str)(t:Tok):U6 (.inr x) (.str x t)=true:=by simp[U6,Value.isStrOf]
def z1r(a b:Int):decide ((Sum.inl a:Key)=Sum.inl b)=(a==b):=by
 by_cases e:a=b
 .subst e;simp
 have h:¬ (Sum.inl a:Key)=Sum.inl b:=λq=>e (Sum.inl.inj q);rw[zbS h];exact(zbN.mpr e).symm
def z1o(a b:Str):decide ((Sum.inr a:Key)=Sum.inr b)=decide (a=b):=by
 by_cases e:a=b
 .subst e;simp
 have h:¬ (Sum.inr a:Key)=Sum.inr b:=λq=>e (zeR q);rw[zbS h,zbS e]
def z1q(a:Int)(b:Str):decide ((Sum.inl a:Key)=Sum.inr b)=false:=zbS (λq=>nomatch q)
def z1p(a:Str)(b:Int):decide ((Sum.inr a:Key)=Sum.inl b)=false:=zbS (λq=>nomatch q)
noncomputable def yq(prog:Program)(w:World):PySem.KeyKind prog w Key where
 is:=U6
 hash:=keyH w
 inj:=λv a b l g=>by
  rcases xb l with⟨i,t,rfl,rfl⟩|⟨x,t,rfl,rfl⟩
  .rcases xb g with⟨j,u,rfl,e⟩|⟨y,u,rfl,e⟩
   .injection e with e1 _;rw[e1]
   exact nomatch e
  rcases xb g with⟨j,u,rfl,e⟩|⟨y,u,rfl,e⟩
  .exact nomatch e
  injection e with e1 _;rw[e1]
 byValue:=λk v h=>by
  rcases xb h with⟨i,t,rfl,rfl⟩|⟨x,t,rfl,rfl⟩ <;> rfl
 pyHash:=λd h=>by
  rcases xb d with⟨i,t,rfl,rfl⟩|⟨x,t,rfl,rfl⟩
  .exact wpAny_pyHash_int h
  exact wpAny_pyHash_str h
 eqBool:=λhu d h=>by
  rcases xb hu with⟨i,t,rfl,rfl⟩|⟨x,t,rfl,rfl⟩
  .rcases xb d with⟨j,u,rfl,rfl⟩|⟨y,u,rfl,rfl⟩
   .rw[z1r]at h;exact wpAny_eqBool_int h
   rw[z1q]at h;exact SeqAt.EqAt.int_str i t y u _ _ _ _ h
  rcases xb d with⟨j,u,rfl,rfl⟩|⟨y,u,rfl,rfl⟩
  .rw[z1p]at h;exact SeqAt.EqAt.str_int x t j u _ _ _ _ h
  rw[z1o]at h;exact wpAny_eqBool_str h
 «strs»:=λk x t v h=>by
  rcases xb h with⟨i,u,rfl,e⟩|⟨y,u,rfl,e⟩
  .exact nomatch e
  injection e with e1 _
  subst e1;cases v <;> rfl
def U5(prog:Program)(w:World)(i:Int)(t:Tok):(yq prog w).is (.inl i) (.int i t)=true:=Nf i t
def ci(prog:Program)(w:World)(x:Str)(t:Tok):(yq prog w).is (.inr x) (.str x t)=true:=Nd x t
inductive V where
 |non|bl (b:Bool)|int (i:Int)|str (x:Str)|byt (b:Array UInt8)|flt (b:UInt64)|ref (a:Addr)|ty (n:String)
 deriving DecidableEq
def RelV:V->Value->Prop
 |.non,u=>u=Value.none
 |.bl b,u=>u=Value.bool b
 |.int i,u=>∃t,u=Value.int i t
 |.str x,u=>∃t,u=Value.str x t
 |.byt b,u=>∃t,u=Value.bytes b t
 |.flt b,u=>∃t,u=Value.float b t
 |.ref a,u=>u=Value.ref a
 |.ty n,u=>u=Value.type n
abbrev Vals:List V->List Value->Prop:=Paired RelV
theorem Vals.length(r:Vals E us):E.length=us.length:=zfW r
theorem Vals.get:∀{E:List V}{us:List Value}{i:Nat}{x:V},Vals E us->E[i]?=some x->∃u,us[i]?=some u/\RelV x u
 |_,_,_,_,.nil,e=>by simp at e
 |_,_,0,_,.cons r _,e=>by simp at e;subst e;exact⟨_,rfl,r⟩
 |_,_,i+1,x,.cons _ t,e=>by
  obtain⟨u,h1,h2⟩:=Vals.get (i:=i) (x:=x) t (by simpa using e)
  exact⟨u,by simpa using h1,h2⟩
theorem Vals.set(r:RelV x u):∀{E:List V}{us:List Value}(i:Nat),Vals E us->Vals (E.set i x) (us.set i u)
 |_,_,_,.nil=>.nil
 |_,_,0,.cons _ t=>.cons r t
 |_,_,i+1,.cons q t=>.cons q (Vals.set r i t)
theorem Vals.append{xs ys:List V}{us ws:List Value}(h:Vals xs us)(s:Vals ys ws):Vals (xs++ys) (us++ws):=by
 induction h with
 |nil=>exact s
 |cons r _ ih=>exact .cons r ih
theorem Vals.take:∀{E:List V}{us:List Value}(n:Nat),Vals E us->Vals (E.take n) (us.take n)
 |_,_,0,_=>.nil
 |_,_,_+1,.nil=>.nil
 |_,_,n+1,.cons r t=>.cons r (Vals.take n t)
theorem Vals.drop:∀{E:List V}{us:List Value}(n:Nat),Vals E us->Vals (E.drop n) (us.drop n)
 |_,_,0,r=>r
 |_,_,_+1,.nil=>.nil
 |_,_,n+1,.cons _ t=>Vals.drop n t
def Vals.none_of:∀{E:List V}{us:List Value}{i:Nat},Vals E us->E[i]?=none->us[i]?=none:=λ{E us i} r e=>by
 have h1:=r.length;have h2:E.length<=i:=zeO.mp e;exact zeO.mpr aD
def RelO:Option V->Option Value->Prop
 |some v,some u=>RelV v u
 |none,none=>True
 |_,_=>False
def KV{κ:Type}:List (κ×V)->List (κ×Value)->Prop:=Paired λ(p:κ×V)(q:κ×Value)=>p.1=q.1/\RelV p.2 q.2
noncomputable def kV:Key->V
 |.inl i=>.int i
 |.inr x=>.str x
inductive HO where
  |lst (E:List V)
  |tup (E:List V)
  |dK (kvs:List (Key×V))|dT (kvs:List (List Key×V))
  |set (ds:Int->Bool) (n:Nat)
  |ins (C dx:Addr) (fs:List (Str×V))
  |own (x:Addr)
  |xd (fs:List (Str×V))
  |met (f x:Addr)
  |rng (lo hi:Int)
  |frz (o:Obj) (u:HO)
  |tbl (ps:Array Value)
  |ext (Y:Heap->Prop)
abbrev Hp:=Addr->Option HO
noncomputable def upd(H:Hp)(a:Addr)(o:HO):Hp:=λb=>if b=a then some o else H b
def zu:upd H a o a=some o:=by unfold upd;rw[zaK rfl]
def y0(h:b≠a):upd H a o b=H b:=by unfold upd;rw[zaI h]
def Pe:upd (upd H a o) a u=upd H a u:=by
 funext b;unfold upd;split <;> rfl
def z4l{H:Hp}{o u:HO}(h:H a=some o)(h':H b=some u)(d:o≠u):a≠b:=by
 intro e;subst e;rw[h]at h';exact d (zaP h')
def zk{H:Hp}{o:HO}(h:H a=some o)(h':H b=none):a≠b:=by
 intro e;subst e;rw[h]at h';cases h'
section
variable(P:Program)(w:World)
def wk(H:Hp)(h:Heap)(a:Addr):HO->Prop
 |.lst E=>E.length<=sizeLine/\∃(its:List Value)(n:Nat),Vals E its/\h.get? a=some {cls:=.type "list",data:=.seq its.toArray n}
 |.tup E=>E.length<=sizeLine/\∃its:List Value,Vals E its/\IsTup h a its.toArray/\∃o,h.get? a=some o/\o.dict=none
 |.dK kvs=>kvs.length<=sizeLine/\(a==sysModules)=false/\∃vs,KV kvs vs/\h.DictOf (yq P w) a vs
 |.dT kvs=>kvs.length<=sizeLine/\(a==sysModules)=false/\∃E:List (List Key×Addr×Value),
   Paired (λ(p:List Key×V)(q:List Key×Addr×Value)=>p.1=q.1/\H q.2.1=some (.tup (p.1.map kV))/\RelV p.2 q.2.2) kvs E /\
   ∃o es ep,h.get? a=some o/\o.ExactDict/\o.data=.dict es ep/\es.toList=E.map (entryOfKey (tupleKind (yq P w)))/\(E.map (·.1)).Nodup
 |.set ds n=>h.SetOf (intKind P w) a ds n
 |.ins C dx fs=>H dx=some (.own a)/\fs.length<=1000/\dx≠a/\h.get? a=some (W.instObj C dx) /\
   ∃mA,h.Ns1 dx mA/\(∀f,RelO (fs.lookup f) (mA f))/\PySem.Within mA (fs.map (·.1))
 |.own _=>∃o,h.get? a=some o
 |.xd fs=>∃mA,h.Ns1 a mA/\∀f,RelO (fs.lookup f) (mA f)
 |.rng lo hi=>∃t u v,h.get? a=some {cls:=.type "range",data:=.fields #[.int lo t,.int hi u,.int 1 v]}
 |.frz o u=>h.get? a=some o/\wk H h a u
 | .tbl ps=>∃qs,h.get? a=some (W.tabObj qs)/\(qs=#[]\/∃(l c:Int)(q:Str)(u1 u2 u3:Tok)(c':Addr)(oc:Obj)(vs:Array Value)(t:Tok),ps=#[.int l u1,.int c u2,.str q u3]/\qs=#[.int l 0,.int c 0,.ref c'] /\
   H c'=some (.own a)/\h.get? c'=some oc/\oc.data=.fields vs/\vs[1]?=some (.str q t))
 |.met f x=>h.get? a=some (W.methodObj (.ref f) (.ref x))
 |.ext Y=>Y h/\(∃o,h.get? a=some o)/\∀h1 h2:Heap,Y h1->(∀o,h1.get? a=some o->h2.get? a=some o)->Y h2
def HOk(H:Hp)(h:Heap):Prop:=∀a o,H a=some o->wk P w H h a o
end
variable{P:Program}{w:World}{H H':Hp}{h h':Heap}{a:Addr}{o:HO}
theorem wk.lt(x:wk P w H h a o):a<h.objs.size:=by
 cases o with
 |lst E=>obtain⟨_,_,_,_,e⟩:=x;exact zae e
 |tup E=>obtain⟨_,_,_,p⟩:=x;exact p.1.lt
 |dK kvs=>obtain⟨_,_,_,_,o,_,_,e,_⟩:=x;exact zae e
 |dT kvs=>obtain⟨_,_,_,_,o,_,_,e,_⟩:=x;exact zae e
 |set ds n=>obtain⟨o,_,_,_,e,_⟩:=x;exact zae e
 |ins C dx fs=>obtain⟨_,_,_,e,_⟩:=x;exact zae e
 |own y=>obtain⟨_,e⟩:=x;exact zae e
 |xd fs=>obtain⟨_,⟨_,_,_,e,_⟩,_⟩:=x;exact zae e
 |rng lo hi=>obtain⟨_,_,_,e⟩:=x;exact zae e
 |frz ob u=>obtain⟨e,_⟩:=x;exact zae e
 |tbl ps=>obtain⟨_,e,_⟩:=x;exact zae e
 |met f y=>exact zae (show h.get? a=some _ from x)
 |ext Y=>obtain⟨_,⟨_,e⟩,_⟩:=x;exact zae e
theorem Paired.mapP{α β:Type}{F G:α->β->Prop}{l:List α}{r:List β}(h:Paired F l r)(f:∀a b,F a b->G a b):Paired G l r:=by
 induction h with
 |nil=>exact .nil
 |cons r _ ih=>exact .cons (f _ _ r) ih
def wk.stay(x:wk P w H h a o)(k:∀ b u,(b=a\/H b=some (.own a))->h.get? b=some u->h'.get? b=some u)(ho:∀ b,H b=some (.own a)->H' b=some (.own a))(I:∀ b E,H b=some (.tup E)->H' b=some (.tup E)):wk P w H' h' a o:=by
 induction o with
 |lst E=>obtain⟨z,its,n,r,e⟩:=x;exact⟨z,its,n,r,k _ _ (.inl rfl) e⟩
 |tup E=>obtain⟨z,its,r,⟨g,e,c⟩,j,J,O⟩:=x;exact⟨z,its,r,⟨g,k _ _ (.inl rfl) e,c⟩,j,k _ _ (.inl rfl) J,O⟩
 |dK kvs=>obtain⟨z,y,vs,r,g,es,ep,e,c⟩:=x;exact⟨z,y,vs,r,g,es,ep,k _ _ (.inl rfl) e,c⟩
 |dT kvs =>
  obtain⟨z,y,E,r,g,es,ep,e,c⟩:=x;exact⟨z,y,E,Paired.mapP r λp q z=>⟨z.1,I _ _ z.2.1,z.2.2⟩,g,es,ep,k _ _ (.inl rfl) e,c⟩
 |set ds n=>obtain⟨g,es,ep,t,e,c⟩:=x;exact⟨g,es,ep,t,k _ _ (.inl rfl) e,c⟩
 |ins C dx fs =>
  obtain⟨d,z,ne,e,mA,⟨j,es,ep,e2,c⟩,r⟩:=x;exact⟨ho _ d,z,ne,k _ _ (.inl rfl) e,mA,⟨j,es,ep,k _ _ (.inr d) e2,c⟩,r⟩
 |own y=>obtain⟨g,e⟩:=x;exact⟨g,k _ _ (.inl rfl) e⟩
 |xd fs=>obtain⟨mA,⟨j,es,ep,e,c⟩,r⟩:=x;exact⟨mA,⟨j,es,ep,k _ _ (.inl rfl) e,c⟩,r⟩
 |rng lo hi=>obtain⟨t,u,v,e⟩:=x;exact⟨t,u,v,k _ _ (.inl rfl) e⟩
 |frz g u ih=>obtain⟨e,q⟩:=x;exact⟨k _ _ (.inl rfl) e,ih q⟩
 |tbl ps =>
  obtain⟨D,e,r⟩:=x;refine⟨D,k a _ (.inl rfl) e,r.imp id ?_⟩;rintro⟨l,c,q,u1,u2,u3,Q,G,vs,t,e1,e2,B,N,M,L⟩;exact⟨l,c,q,u1,u2,u3,Q,G,vs,t,e1,e2,ho _ B,k _ _ (.inr B) N,M,L⟩
 |met f y =>
  have e:h.get? a=some (W.methodObj (.ref f) (.ref y)):=x;show h'.get? a=some (W.methodObj (.ref f) (.ref y));exact k a _ (.inl rfl) e
 |ext Y=>obtain⟨p,⟨o,e⟩,st⟩:=x;exact⟨st _ _ p λo q=>k _ _ (.inl rfl) q,⟨o,k _ _ (.inl rfl) e⟩,st⟩
theorem HOk.lt(x:HOk P w H h)(e:H a=some o):a<h.objs.size:=(x a o e).lt
def HOk.fresh(x:HOk P w H h)(e:h.objs.size<=a):H a=none:=by
 cases q:H a with
 |none=>rfl
 |some u=>exact absurd (zaW (x.lt q) e) (zcS _)
def HOk.kept(x:HOk P w H h)(k:∀ b u,h.get? b=some u->h'.get? b=some u):HOk P w H h':=λa o e =>
 (x a o e).stay (λb u _ q=>k b u q) aA λ_ _ q=>q
def HOk.laid(x:HOk P w H h)(k:∀ b u,h.get? b=some u->h'.get? b=some u)(j:h.objs.size<=a)(d:wk P w (upd H a o) h' a o):HOk P w (upd H a o) h':=λb u e=>by
 have g:=x.fresh j;by_cases hb:b=a
 .subst hb;rw[zu]at e;cases e;exact d
 rw[y0 hb]at e;exact(x b u e).stay (λc v _ q=>k c v q) (λc q=>by rw[y0 (zk q g)];exact q) λc E q=>by rw[y0 (zk q g)];exact q
def Rd(H:Hp)(a:Addr)(u:HO):Prop:=H a=some u\/∃o,H a=some (.frz o u)
def Rd.ok(r:Rd H a u)(x:HOk P w H h):wk P w H h a u:=by
 rcases r with r|⟨o,r⟩
 .exact x a u r
 obtain⟨_,q⟩:=x a _ r;exact q
def Mut:Option HO->Prop
 |some (.lst _)=>True
 |some (.dK _)=>True
 |some (.dT _)=>True
 |some (.set _ _)=>True
 |some (.ins _ _ _)=>True
 |some (.ext _)=>True
 |_=>False
section
variable{x e:Addr}{o':HO}
def HOk.write(ok:HOk P w H h)(g:Mut (H x))(G:e=x\/H e=some (.own x))(k:∀ b u,b≠e->h.get? b=some u->h'.get? b=some u)(B:∃ u,h'.get? e=some u)(l:wk P w (upd H x o') h' x o'):HOk P w (upd H x o') h':=λb u q=>by
 have a:∀c y,H c=some (.own y)->c≠x:=λc y r z=>by subst z;rw[r]at g;exact g
 have d:∀c E,H c=some (.tup E)->c≠x:=λc E r z=>by subst z;rw[r]at g;exact g
 by_cases hb:b=x
 .subst hb;rw[zu]at q;cases q;exact l
 rw[y0 hb]at q;by_cases hbe:b=e
 .have D:H b=some (.own x):=by
   rcases G with z|z
   .exact absurd (hbe.trans z) hb
   rw[hbe];exact z
  rw[q]at D;cases D;obtain⟨v,I⟩:=B;exact⟨v,by rw[hbe];exact I⟩
 refine(ok b u q).stay (λc v j r=>k c v ?_ r) (λc r=>by rw[y0 (a c b r)];exact r) λc E r=>by rw[y0 (d c E r)];exact r
 rcases j with rfl|j
 .exact hbe
 rintro rfl;rcases G with z|z
 .exact a c b j z
 rw[j]at z;cases z;exact hb rfl
end
structure Un(fs ex:List Addr)(H H':Hp)(h h':Heap):Prop where
 keep:∀b o,h.get? b=some o->H b=none->b∉fs->b∉ex->h'.get? b=some o
 slot:∀b o,h.get? b=some o->H b=none->b∈fs->b∉ex->∃sl,h'.get? b=some {o with slots:=sl}
 free:∀b o,h.get? b=some o->H b=none->b∉ex->H' b=none
 there:∀b o,h.get? b=some o->b∉ex->∃o',h'.get? b=some o'
 tups:∀b E,H b=some (.tup E)->H' b=some (.tup E)
 frzs:∀b o u,H b=some (.frz o u)->H' b=some (.frz o u)
 tbls:∀b ps,H b=some (.tbl ps)->∃more,H' b=some (.tbl (ps++more))
section
variable{fs ex:List Addr}{H1 H2:Hp}{h1 h2:Heap}{x e:Addr}
def Un.any(u:Un fs ex H H1 h h1)(q:h.get? b=some ob)(n:H b=none)(a:b∉ex):∃sl,h1.get? b=some {ob with slots:=sl}:=by
 by_cases hb:b∈fs
 .exact u.slot b ob q n hb a
 exact⟨ob.slots,u.keep b ob q n hb a⟩
def Un.trans(a:Un fs ex H H1 h h1)(b:Un fs ex H1 H2 h1 h2):Un fs ex H H2 h h2 where
 keep:=λc d q n g e=>b.keep c d (a.keep c d q n g e) (a.free c d q n e) g e
 slot:=λc d q n g e=>by
  obtain⟨r,e1⟩:=a.slot c d q n g e;obtain⟨j,e2⟩:=b.slot c _ e1 (a.free c d q n e) g e;exact⟨j,e2⟩
 free:=λc d q n e=>by
  obtain⟨o',e1⟩:=a.there c d q e;exact b.free c o' e1 (a.free c d q n e) e
 there:=λc d q e=>by
  obtain⟨o',e1⟩:=a.there c d q e;exact b.there c o' e1 e
 tups:=λc E q=>b.tups c E (a.tups c E q)
 frzs:=λc d E q=>b.frzs c d E (a.frzs c d E q)
 tbls:=λc ps q=>by
  obtain⟨l,e1⟩:=a.tbls c ps q;obtain⟨k,e2⟩:=b.tbls c _ e1;exact⟨l++k,by rw[e2,Array.append_assoc]⟩
def Un.kept(k:∀ b u,h.get? b=some u->h'.get? b=some u):Un fs ex H H h h' :=
 ⟨λb a q _ _ _=>k b a q,λb a q _ _ _=>⟨a.slots,k b a q⟩,λ_ _ _ n _=>n,λb a q _=>⟨a,k b a q⟩,λ_ _ q=>q,λ_ _ _ q=>q,λ_ ps q=>⟨#[],by rw[q];simp⟩⟩
def Un.refl:Un fs ex H H h h:=Un.kept λ_ _ q=>q
def Un.laid(k:∀ b u,h.get? b=some u->h'.get? b=some u)(e:h.objs.size<=a)(d:H a=none):Un fs ex H (upd H a o) h h' where
 keep:=λb u q _ _ _=>k b u q
 slot:=λb u q _ _ _=>⟨u.slots,k b u q⟩
 free:=λb u q n _=>by rw[y0 (zaL (zaW (zae q) e))];exact n
 there:=λb u q _=>⟨u,k b u q⟩
 tups:=λb E q=>by rw[y0 (zk q d)];exact q
 frzs:=λb u E q=>by rw[y0 (zk q d)];exact q
 tbls:=λb ps q=>⟨#[],by rw[y0 (zk q d),q];simp⟩
def Un.write(a:Mut (H x))(y:e=x\/H e=some (.own x))(k:∀ b u,b≠e->h.get? b=some u->h'.get? b=some u)(g:∃ u,h'.get? e=some u):Un fs ex H (upd H x o) h h':=by
 have j:∀b,H b=none->b≠x:=λb n z=>by subst z;rw[n]at a;exact a
 have l:∀b,H b=none->b≠e:=λb n z=>by
  subst z;rcases y with r|r
  .exact j b n r
  rw[n]at r;cases r
 have d:∀b u,H b=some u->¬ Mut (some u)->b≠x:=λb u q v z=>by subst z;rw[q]at a;exact v a
 refine⟨λb u q n _ _=>k b u (l b n) q,λb u q n _ _=>⟨u.slots,k b u (l b n) q⟩,λb u q n _=>by rw[y0 (j b n)];exact n,λb u q _=>?_,
  λb E q=>by rw[y0 (d b _ q λz=>z)];exact q,λb u E q=>by rw[y0 (d b _ q λz=>z)];exact q,λb ps q=>⟨#[],by rw[y0 (d b _ q λz=>z),q];simp⟩⟩
 by_cases hbe:b=e
 .subst hbe;exact g
 exact⟨u,k b u hbe q⟩
end
noncomputable def trk(h:Heap)(H:Hp):List Addr:=(List.range h.objs.size).filter λa=>(H a).isSome
noncomputable def hidT(h:Heap)(H:Hp):Heap:=W.hideAll h (trk h H)
def Nn(h:Heap)(H:Hp):(hidT h H).objs.size=h.objs.size:=W.hideAll_size _ _
def Jf{o:Obj}(e:h.get? b=some o)(n:H b=none):(hidT h H).get? b=some o :=
 W.hideAll_get _ e λa=>by
  have q:(H b).isSome=true:=(zcY.mp a).2;rw[n]at q;simp at q
def Dh{o:Obj}(e:(hidT h H).get? b=some o):h.get? b=some o/\H b=none:=by
 have a:h.get? b=some o:=W.of_hideAll (trk h H) e;refine⟨a,?_⟩;cases q:H b with
 |none=>rfl
 |some x =>
  have d:b∈trk h H:=zcY.mpr ⟨zdZ.mpr (zae a),by simp[q]⟩
  have z:(hidT h H).get? b=none:=W.hideAll_none (trk h H) d;rw[z]at e;cases e
structure Mod(K:W.Frag)(mg:Str->Option Value)(base:Heap):Prop where
 kin:K.In base
 glob:base.Ns mainGlobals mg
 blt:∃mb,base.Ns builtinsNs mb/\∀x:Str,x≠"__name__"->mb x=bootBuiltins x
 nolimit:base.NoLimit
structure Cx where
 prog:Program
 w:World
 K:W.Frag
 mg:Str->Option Value
 base:Heap
 A:Around
 N:List Str
 s₀:Shared
 H_:Hp
 env:Env
 outer:List Env
 stack:List Env
 ex:List Addr
 fn:Str->Bool
 calm:Bool
 pn:List (Addr×Obj)
 xe:Value->Shared->Prop
noncomputable abbrev Cx.mo(X:Cx):=model X.prog X.w
noncomputable def frs(l:List Env):List Addr:=l.filterMap (·.frame)
noncomputable abbrev Cx.fs(X:Cx):List Addr:=frs X.outer
def Vis(a:Scope)(x:Str):Prop:=a.names.lookup x=some .local\/a.names.lookup x=some .cell\/a.names.lookup x=some .free
def Loc(a:Scope)(x:Str):Prop:=a.names.lookup x=some .local\/a.names.lookup x=some .cell
def Look(env:Env)(h:Heap)(m:Str->Option Value)(x:Str)(u:Value):Prop :=
 (env.kindOf x=some .local/\m x=some u)\/((env.kindOf x=some .cell\/env.kindOf x=some .free)/\∃c,env.cells.lookup x=some c/\h.IsCell c (some u))
structure Cx.Ok(X:Cx):Prop where
 mod:Mod X.K X.mg X.base
 kind:X.env.scope.kind=.function
 glob:X.env.globals=mainGlobals
 blt:X.env.builtins=builtinsNs
 above:X.s₀.heap.objs.size<=X.env.locals
 inj:∀x y c,X.env.cells.lookup x=some c->X.env.cells.lookup y=some c->x=y
 has:∀x,(X.env.kindOf x=some .cell\/X.env.kindOf x=some .free)->∃c,X.env.cells.lookup x=some c
 cab:∀x c,X.fn x=true->X.env.cells.lookup x=some c->X.s₀.heap.objs.size<=c
 hd:X.calm=true->X.A.handled=none
 frames:X.A.frames=some X.stack
 stk:X.stack=X.outer\/(X.stack=X.env::X.outer/\X.env.frame=some X.env.locals)
 exf:∀b∈X.ex,b≠X.env.locals/\∀x c,X.env.cells.lookup x=some c->c≠b
 bs:∀b o,X.base.get? b=some o->X.s₀.heap.get? b=some o/\X.H_ b=none
 bsz:X.base.objs.size<=X.s₀.heap.objs.size
 noex:∀b o,X.base.get? b=some o->b∉X.ex
 exfs:∀b∈X.ex,b∉X.fs
 funs:X.s₀.heap.FunFrames X.base X.outer
 frf:∀b∈X.fs,X.H_ b=none
structure Inv(X:Cx)(pn:List (Addr×Obj))(G:List (Option V))(H:Hp)(s:Shared):Prop where
 ok:X.Ok
 os:s.os=X.s₀.os
 bare:AllBare s.gens
 base:Un X.fs X.ex X.H_ H X.s₀.heap s.heap
 loc:∃m,s.heap.Ns X.env.locals m/\∀(i:Nat)(x:Str)(v:V),X.N[i]?=some x->G[i]?=some (some v)->Vis X.env.scope x->∃u,RelV v u/\Look X.env s.heap m x u
 cell:∀x c,X.env.cells.lookup x=some c->∃v,s.heap.IsCell c v
 free:H X.env.locals=none
 freeC:∀x c,X.env.cells.lookup x=some c->H c=none
 pin:∀p∈X.pn++pn,s.heap.get? p.1=some p.2/\H p.1=none/\p.1≠X.env.locals/\p.1∉X.fs/\∀v,p.2.data≠.cell v
 hok:HOk X.prog X.w H s.heap
 len:G.length=X.N.length
variable{X:Cx}{pn:List (Addr×Obj)}{G:List (Option V)}{s:Shared}
def Cx.Ok.nofr(ok:X.Ok){o:Obj}(e:X.base.get? b=some o):b∉X.fs:=λa=>by
 have:=(ok.funs.mem a).1;rw[e]at this;cases this
theorem Inv.bs(I:Inv X pn G H s):∀b o,X.base.get? b=some o->s.heap.get? b=some o/\H b=none:=λb o e =>
 ⟨I.base.keep b o (I.ok.bs b o e).1 (I.ok.bs b o e).2 (I.ok.nofr e) (I.ok.noex b o e),I.base.free b o (I.ok.bs b o e).1 (I.ok.bs b o e).2 (I.ok.noex b o e)⟩
def Inv.bk(I:Inv X pn G H s):∀b o,X.base.get? b=some o->s.heap.get? b=some o:=λb o e=>(I.bs b o e).1
theorem Inv.mod(I:Inv X pn G H s):Mod X.K X.mg X.base:=I.ok.mod
def Inv.kIn(I:Inv X pn G H s):X.K.In s.heap:=I.ok.mod.kin.keeps I.bk
def Inv.fr(I:Inv X pn G H s):∃m,Fr X.base X.env.locals s.heap m :=
 let ⟨m,hn,_⟩:=I.loc
 ⟨m,hn,I.bk,zak I.ok.bsz I.ok.above⟩
theorem Inv.lt(I:Inv X pn G H s):X.env.locals<s.z:=by obtain⟨_,hn,_⟩:=I.loc;exact hn.lt
def Inv.sz(I:Inv X pn G H s):X.s₀.heap.objs.size<=s.z:=zak I.ok.above (Nat.le_of_lt I.lt)
def Inv.nofs(I:Inv X pn G H s)(h:s.z<=a):a∉X.fs:=λd=>by
 obtain⟨_,o,ho,_⟩:=I.ok.funs.mem d;exact absurd (zaW (zae ho) (zak I.sz h)) (zcS _)
def Inv.cne(I:Inv X pn G H s):∀x c,X.env.cells.lookup x=some c->c≠X.env.locals:=λx c e z=>by
 obtain⟨v,o,ho,g⟩:=I.cell x c e;obtain⟨m,⟨o',es,ep,a,d,_⟩,_⟩:=I.loc;rw[z,a]at ho;cases ho;rw[d]at g;cases g
theorem Inv.funs(I:Inv X pn G H s):s.heap.FunFrames X.base X.outer:=by
 have all:∀(l:List Env),(∀b∈frs l,b∈X.fs)->X.s₀.heap.FunFrames X.base l->s.heap.FunFrames X.base l:=by
  intro l
  induction l with
  |nil=>intro _ _;trivial
  |cons env r ih =>
   intro j hl;obtain⟨q,⟨L,o,a,k,ho,u⟩,hr⟩:=hl;have g:L∈X.fs:=j L (by unfold frs;rw[zbG,a];exact zao)
   obtain⟨v,e⟩:=I.base.slot L o ho (I.ok.frf L g) g λz=>I.ok.exfs L z g;exact⟨q,⟨L,_,a,k,e,u⟩,ih (λb d=>j b (by unfold frs;rw[zbG,a];exact zal _ d)) hr⟩
 exact all X.outer aA I.ok.funs
theorem Inv.stack(I:Inv X pn G H s):s.heap.FunFrames X.base X.stack:=by
 rcases I.ok.stk with e|⟨e,hf⟩
 .rw[e];exact I.funs
 rw[e];obtain⟨m,a,_⟩:=I.loc;refine .cons (by rw[I.ok.kind];decide) hf a ?_ I.funs
 exact Heap.get?_none_of_le (zak I.ok.bsz I.ok.above)
def Inv.stkSub(I:Inv X pn G H s):∀b∈frs X.stack,b∈X.env.locals::X.fs:=λb a=>by
 rcases I.ok.stk with e|⟨e,hf⟩
 .rw[e]at a;exact zal _ a
 rw[e]at a;unfold frs at a;rw[zbG,hf]at a;exact a
def Inv.stkFree(I:Inv X pn G H s):∀b∈frs X.stack,H b=none:=λb a=>by
 rcases zam.mp (I.stkSub b a) with e|a
 .rw[e];exact I.free
 obtain⟨_,o,ho,_⟩:=I.ok.funs.mem a;exact I.base.free b o ho (I.ok.frf b a) λz=>I.ok.exfs b z a
def Inv.step{t':Nat}{d':Drawn}{ch:List Addr}(I:Inv X pn G H s)(j:∀ b∈ch,(b∈X.ex\/X.s₀.heap.objs.size<=b)/\b≠X.env.locals/\(∀ x c,X.env.cells.lookup x=some c->c≠b)/\∀ p∈X.pn++pn,p.1≠b)(keep:∀ b o,b≠X.env.locals->b∉X.fs->b∉ch->s.heap.get? b=some o->H b=none->h'.get? b=some o)(slot:∀ b o,b≠X.env.locals->b∈X.fs->b∉ch->s.heap.get? b=some o->H b=none->∃ M,h'.get? b=some {o with slots:=M})(free:∀ b o,b∉ch->s.heap.get? b=some o->H b=none->H' b=none)(there:∀ b o,b∉ch->s.heap.get? b=some o->∃ o',h'.get? b=some o')(tups:∀ b E,H b=some (.tup E)->H' b=some (.tup E))(frzs:∀ b o u,H b=some (.frz o u)->H' b=some (.frz o u))(tbls:∀ b ps,H b=some (.tbl ps)->∃ more,H' b=some (.tbl (ps++more)))(ns:∀ m,s.heap.Ns X.env.locals m->h'.Ns X.env.locals m)(N:HOk X.prog X.w H' h')(hg:AllBare g') :
  Inv X pn G H' {s with heap:=h',gens:=g',drawn:=d',toks:=t'}:=by
 have J:∀b o,X.s₀.heap.get? b=some o->b≠X.env.locals:=λb o e=>zaL (zaW (zae e) I.ok.above);have B:∀b o,X.s₀.heap.get? b=some o->b∉X.ex->b∉ch:=λb o e a D=>by
  rcases(j b D).1 with z|z
  .exact a z
  exact absurd (zaW (zae e) z) (zcS _)
 have y:∀x c,X.env.cells.lookup x=some c->∀v,s.heap.IsCell c v->h'.IsCell c v:=λx c e v Zh=>by
  obtain⟨o,ho,O⟩:=Zh;have g:c∉ch:=λz=>(j c z).2.2.1 x c e rfl;by_cases hc:c∈X.fs
  .obtain⟨M,q⟩:=slot c o (I.cne x c e) hc g ho (I.freeC x c e);exact⟨_,q,O⟩
  exact⟨o,keep c o (I.cne x c e) hc g ho (I.freeC x c e),O⟩
 refine⟨I.ok,I.os,hg,⟨λb o e n D a=>?_,λb o e n D a=>?_,λb o e n a=>?_,λb o e a=>?_,λb E e=>tups b E (I.base.tups b E e),λb o E e=>frzs b o E (I.base.frzs b o E e),λb ps e=>?_⟩,?_,λx c e=>?_,?_,λx c e=>?_,λp R=>?_,N,I.len⟩
 .exact keep b o (J b o e) D (B b o e a) (I.base.keep b o e n D a) (I.base.free b o e n a)
 .obtain⟨M,e1⟩:=I.base.slot b o e n D a;obtain⟨L,e2⟩:=slot b _ (J b o e) D (B b o e a) e1 (I.base.free b o e n a);exact⟨L,e2⟩
 .obtain⟨o',e1⟩:=I.base.there b o e a;exact free b o' (B b o e a) e1 (I.base.free b o e n a)
 .obtain⟨o',e1⟩:=I.base.there b o e a;exact there b o' (B b o e a) e1
 .obtain⟨W,e1⟩:=I.base.tbls b ps e;obtain⟨V,e2⟩:=tbls b _ e1;exact⟨W++V,by rw[e2,Array.append_assoc]⟩
 .obtain⟨m,Z,hl⟩:=I.loc;refine⟨m,ns m Z,λi x v e1 e2 e3=>?_⟩;obtain⟨u,r,l⟩:=hl i x v e1 e2 e3;refine⟨u,r,?_⟩;rcases l with l|⟨k,c,e,z⟩
  .exact .inl l
  exact .inr ⟨k,c,e,y x c e _ z⟩
 .obtain⟨v,z⟩:=I.cell x c e;exact⟨v,y x c e v z⟩
 .obtain⟨m,⟨o,_,_,ho,_⟩,_⟩:=I.loc;exact free _ o (λz=>(j _ z).2.1 rfl) ho I.free
 .obtain⟨v,o,ho,O⟩:=I.cell x c e;exact free c o (λz=>(j c z).2.2.1 x c e rfl) ho (I.freeC x c e)
 obtain⟨e,n,ne,Q,d⟩:=I.pin p R;have g:p.1∉ch:=λz=>(j p.1 z).2.2.2 p R rfl;exact⟨keep p.1 p.2 ne Q g e n,free p.1 p.2 g e n,ne,Q,d⟩
def Inv.un{t':Nat}(I:Inv X pn G H s)(u:Un X.fs [] H H' s.heap h')(d:HOk X.prog X.w H' h'):Inv X pn G H' {s with heap:=h',toks:=t'}:=by
 obtain⟨m,⟨o,es,ep,ho,r⟩,_⟩:=id I.loc;obtain⟨x,v⟩:=u.any ho I.free aE
 exact I.step (g':=s.gens) (d':=s.drawn) (ch:=[]) (λ_ z=>nomatch z) (λb o _ g _ e n=>u.keep b o e n g aE) (λb o _ g _ e n=>u.slot b o e n g aE) (λb o _ e n=>u.free b o e n aE) (λb o _ e=>u.there b o e aE) u.tups u.frzs u.tbls (λy q=>by
  obtain⟨o',j,k,a,l⟩:=q;rw[ho]at a;cases a;exact⟨_,j,k,v,l⟩) d I.bare
def Inv.call{t':Nat}{d':Drawn}(I:Inv X pn G H s)(u:Un (frs X.stack) ch H H' s.heap h')(j:HOk X.prog X.w H' h')(B:AllBare g')(g:∀ b∈ch,(b∈X.ex\/X.s₀.heap.objs.size<=b)/\b≠X.env.locals/\(∀ x c,X.env.cells.lookup x=some c->c≠b)/\∀ p∈X.pn++pn,p.1≠b) :
  Inv X pn G H' {s with heap:=h',gens:=g',drawn:=d',toks:=t'}:=by
 obtain⟨m,⟨o,es,ep,ho,r⟩,_⟩:=id I.loc;obtain⟨J,k⟩:=u.any ho I.free λz=>(g _ z).2.1 rfl;exact I.step (ch:=ch) g (λb o k D a e n=>u.keep b o e n (λz=>(zam.mp (I.stkSub b z)).elim k D) a) (λb o _ _ a e n=>u.any e n a) (λb o a e n=>u.free b o e n a) (λb o a e=>u.there b o e a) u.tups u.frzs u.tbls (λL y=>by
  obtain⟨o',l,q,d,v⟩:=y;rw[ho]at d;cases d;exact⟨_,l,q,k,v⟩) j B
def Inv.turned{t':Nat}{it:Addr}(I:Inv X pn G H s)(k:∀ b o,b≠it->s.heap.get? b=some o->h'.get? b=some o)(j:H it=none)(g:it≠X.env.locals)(h1:it∈X.ex\/X.s₀.heap.objs.size<=it)(h2:∀ x c,X.env.cells.lookup x=some c->c≠it)(B:∀ p∈X.pn++pn,p.1≠it):Inv X pn G H {s with heap:=h',toks:=t'}:=by
 have d:∀b u,H b=some u->b≠it:=λb u e z=>by rw[z,j]at e;cases e
 refine I.step (g':=s.gens) (d':=s.drawn) (ch:=[it]) (λb y=>?_) (λb o _ _ a e _=>k b o (λz=>a (by simp[z])) e) (λb o _ _ a e _=>⟨o.slots,k b o (λz=>a (by simp[z])) e⟩) (λ_ _ _ _ n=>n)
  (λb o a e=>⟨o,k b o (λz=>a (by simp[z])) e⟩) (λ_ _ e=>e) (λ_ _ _ e=>e) (λb ps e=>⟨#[],by rw[e];simp⟩) (λm l=>?_) (λb u e=>?_) I.bare
 .have e:b=it:=by simpa using y
  subst e;exact⟨h1,g,h2,B⟩
 .obtain⟨o,es,ep,ho,r⟩:=l;exact⟨o,es,ep,k _ o (Ne.symm g) ho,r⟩
 refine(I.hok b u e).stay (λc v a q=>k c v ?_ q) aA λ_ _ q=>q;rcases a with z|z
 .rw[z];exact d b u e
 exact d c _ z
def Inv.tok(I:Inv X pn G H s)(t:Nat):Inv X pn G H {s with toks:=t}:=I.un (h':=s.heap) (t':=t) Un.refl I.hok
theorem Inv.kept(I:Inv X pn G H s)(k:∀ b u,s.heap.get? b=some u->h'.get? b=some u):Inv X pn G H {s with heap:=h',toks:=t'}:=I.un (Un.kept k) (I.hok.kept k)
theorem Inv.laid(I:Inv X pn G H s)(k:∀ b u,s.heap.get? b=some u->h'.get? b=some u)(e:s.z<=a)(d:wk X.prog X.w (upd H a o) h' a o) :
  Inv X pn G (upd H a o) {s with heap:=h',toks:=t'}:=I.un (Un.laid k e (I.hok.fresh e)) (I.hok.laid k e d)
theorem Inv.write(I:Inv X pn G H s)(g:Mut (H x))(j:e=x\/H e=some (.own x))(k:∀ b u,b≠e->s.heap.get? b=some u->h'.get? b=some u)(a:∃ u,h'.get? e=some u)(d:wk X.prog X.w (upd H x o) h' x o):Inv X pn G (upd H x o) {s with heap:=h',toks:=t'}:=I.un (Un.write g j k a) (I.hok.write g j k a d)
def Inv.weak(I:Inv X pn G H s)(hl:σ'.length=G.length)(w:∀ (i:Nat) v,σ'[i]?=some (some v)->G[i]?=some (some v)):Inv X pn σ' H s :=
 ⟨I.ok,I.os,I.bare,I.base,let ⟨m,hn,hl'⟩:=I.loc;⟨m,hn,λi x v e1 e2 a=>hl' i x v e1 (w i v e2) a⟩,I.cell,I.free,I.freeC,I.pin,I.hok,hl.trans I.len⟩
def Inv.pins_of(I:Inv X pn G H s)(h:∀ p∈pins',s.heap.get? p.1=some p.2/\H p.1=none/\p.1≠X.env.locals/\p.1∉X.fs/\∀ v,p.2.data≠.cell v):Inv X pins' G H s :=
 ⟨I.ok,I.os,I.bare,I.base,I.loc,I.cell,I.free,I.freeC,λp a=>(zas.mp a).elim (λz=>I.pin p (zaH _ z)) (h p),I.hok,I.len⟩
def Su{N:List Str}(d:N.Nodup){i j:Nat}{x:Str}(a:N[i]?=some x)(b:N[j]?=some x):i=j:=by
 obtain⟨h1,e1⟩:=zag.mp a;obtain⟨h2,e2⟩:=zag.mp b;exact(List.getElem_inj d).mp (e1.trans e2.symm)
def Xy(I:Inv X pn G H s)(hN:X.N.Nodup)(hi:X.N[i]?=some x)(D:Loc X.env.scope x)(r:RelV v u)(h:∀ s',Inv X pn (G.set i (some v)) H s'->(∃ a,Heap.SameBut a s.heap s'.heap/\(a=X.env.locals\/X.env.cells.lookup x=some a))->Q () s')(hf:autoParam (X.fn x=true\/X.env.scope.names.lookup x=some .local) zSo):wpAny M A (storeName X.env x u) Q xs s:=by
 obtain⟨m,hn,hl⟩:=id I.loc;have O:(X.env.scope.kind==.class || (X.env.scope.kind==.module&&X.env.locals != X.env.globals))=false:=by rw[I.ok.kind];rfl
 have B:i<G.length:=by rw[I.len];exact(zag.mp hi).1
 have cne:=I.cne;have W:∀{a:Addr}{h':Heap}{t':Nat},Heap.SameBut a s.heap h'->X.s₀.heap.objs.size<=a->H a=none->(∀p∈X.pn++pn,p.1≠a)->(a=X.env.locals\/X.env.cells.lookup x=some a) ->
   (∃m,h'.Ns X.env.locals m/\∀(j:Nat)(y:Str)(J:V),X.N[j]?=some y->(G.set i (some v))[j]?=some (some J)->Vis X.env.scope y->∃u,RelV J u/\Look X.env h' m y u)->(∀y c,X.env.cells.lookup y=some c->∃w,h'.IsCell c w)->Q () {s with heap:=h',toks:=t'}:=λ{a h' t'} g ab hf hp ha lc cl=>by
  have k:∀b o,X.s₀.heap.get? b=some o->b≠a:=λb o e=>zaL (zaW (zae e) ab);refine h _ ⟨I.ok,I.os,I.bare,⟨λb o e n hb D=>(g.2 b (k b o e)).trans (I.base.keep b o e n hb D),λb o e n hb D=>?_,I.base.free,λb o e D=>?_,I.base.tups,I.base.frzs,I.base.tbls⟩,lc,cl,I.free,I.freeC,λp q=>?_,λb ob e=>?_,by simpa using I.len⟩ ⟨_,g,ha⟩
  .obtain⟨sl,e1⟩:=I.base.slot b o e n hb D;exact⟨sl,(g.2 b (k b o e)).trans e1⟩
  .obtain⟨o',e1⟩:=I.base.there b o e D;exact⟨o',(g.2 b (k b o e)).trans e1⟩
  .obtain⟨e,n,ne,nf,d⟩:=I.pin p q;exact⟨(g.2 p.1 (hp p q)).trans e,n,ne,nf,d⟩
  refine(I.hok b ob e).stay (λc Z l q=>(g.2 c ?_).trans q) aA λ_ _ q=>q;rintro rfl;rcases l with rfl|l
  .rw[hf]at e;cases e
  rw[hf]at l;cases l
 rcases D with hk|hk
 .refine wpAny_storeName_local hk hn (λh' a4 g=>W g I.ok.above I.free (λp q=>(I.pin p q).2.2.1) (.inl rfl) ⟨_,a4,λj y J e1 e2 e3=>?_⟩ λy c e=>?_) O
  .by_cases hj:j=i
   .subst hj;rw[hi]at e1;cases e1;rw[zaU B]at e2;cases e2;exact⟨u,r,.inl ⟨hk,by simp⟩⟩
   rw[zaN (Ne.symm hj)]at e2;obtain⟨u',r',q⟩:=hl j y J e1 e2 e3;refine⟨u',r',?_⟩;rcases q with⟨k,e⟩|⟨k,c,e,z⟩
   .refine .inl ⟨k,?_⟩;have:y≠x:=λe=>hj (Su hN e1 (e▸hi));simp[this,e]
   exact .inr ⟨k,c,e,z.sameBut g (cne y c e)⟩
  obtain⟨Z,z⟩:=I.cell y c e;exact⟨Z,z.sameBut g (cne y c e)⟩
 have a5:X.fn x=true:=by
  rcases hf with z|z
  .exact z
  rw[z]at hk;cases hk
 obtain⟨c,l⟩:=I.ok.has x (.inl hk);obtain⟨Z,z⟩:=I.cell x c l;obtain⟨oc,a0,L⟩:=id z;refine wpAny_storeName_cell I.ok.kind hk l z (λh' R g=>W g (I.ok.cab x c a5 l) (I.freeC x c l) (λp q e=>?_) (.inr l) ⟨m,hn.sameBut g (Ne.symm (cne x c l)),λj y J e1 e2 e3=>?_⟩ λy c' e=>?_)
 .obtain⟨e',_,_,_,d⟩:=I.pin p q;rw[e,a0]at e';exact d Z (by rw[<- zaP e'];exact L)
 .by_cases hj:j=i
  .subst hj;rw[hi]at e1;cases e1;rw[zaU B]at e2;cases e2;exact⟨u,r,.inr ⟨.inl hk,c,l,R⟩⟩
  rw[zaN (Ne.symm hj)]at e2;obtain⟨u',r',q⟩:=hl j y J e1 e2 e3;refine⟨u',r',?_⟩;rcases q with q|⟨k,c',e,z'⟩
  .exact .inl q
  refine .inr ⟨k,c',e,z'.sameBut g ?_⟩;rintro rfl;exact hj (Su hN e1 (I.ok.inj _ _ _ e l▸hi))
 by_cases hcc:c'=c
 .subst hcc;exact⟨_,R⟩
 obtain⟨w2,z2⟩:=I.cell y c' e;exact⟨w2,z2.sameBut g hcc⟩
def Yc(I:Inv X pn G H s)(e:X.N.Nodup)(hi:X.N[i]?=some x)(a:Loc X.env.scope x)(r:RelV v u)(h:∀ s',Inv X pn (G.set i (some v)) H s'->Q () s')(d:autoParam (X.fn x=true\/X.env.scope.names.lookup x=some .local) zSo):wpAny M A (storeName X.env x u) Q xs s :=
 Xy I e hi a r (λs' g _=>h s' g) d
def Inv.call'(I:Inv X pn G H s)(ho:s'.os=s.os)(u:Un (frs X.stack) ch H H' s.heap s'.heap)(a:HOk X.prog X.w H' s'.heap)(g:AllBare s'.gens)(d:∀ b∈ch,(b∈X.ex\/X.s₀.heap.objs.size<=b)/\b≠X.env.locals/\(∀ x c,X.env.cells.lookup x=some c->c≠b)/\∀ p∈X.pn++pn,p.1≠b):Inv X pn G H' s':=by
 obtain⟨h',g',d',t',o'⟩:=s';have e:o'=s.os:=ho;subst e;exact I.call (g':=g') (t':=t') (d':=d') u a g d
abbrev XK:=Value->Option Addr->Hp->Prop
abbrev St:=List (Option V)
abbrev VK:=V->Hp->Prop
abbrev TE:=St->Hp->VK->Prop
abbrev TT:=St->Hp->(Bool->Hp->Prop)->Prop
abbrev TA:=St->Hp->(List V->Hp->Prop)->Prop
structure Ends where
 nx:St->Hp->Prop
 rt:VK
 bk:St->Hp->Prop:=λ_ _=>False
 ct:St->Hp->Prop:=λ_ _=>False
abbrev TS:=Ends->St->Hp->Prop
def EP(X:Cx)(pn:List (Addr×Obj))(G:St)(Q:VK)(u:Value)(s':Shared):Prop:=∃v H',Inv X pn G H' s'/\RelV v u/\Q v H'
def TP(X:Cx)(pn:List (Addr×Obj))(G:St)(Q:Bool->Hp->Prop)(b:Bool)(s':Shared):Prop:=∃H',Inv X pn G H' s'/\Q b H'
def AP(X:Cx)(pn:List (Addr×Obj))(G:St)(Q:List V->Hp->Prop)(us:List Value)(s':Shared):Prop:=∃vs H',Inv X pn G H' s'/\Vals vs us/\Q vs H'
def SP(X:Cx)(pn:List (Addr×Obj))(D:Ends)(f:Flow)(s':Shared):Prop :=
 match f with
 |.next=>∃σ' H',Inv X pn σ' H' s'/\D.nx σ' H'
 |.brk=>∃σ' H',Inv X pn σ' H' s'/\D.bk σ' H'
 |.cont=>∃σ' H',Inv X pn σ' H' s'/\D.ct σ' H'
 |.ret u=>∃v σ' H',Inv X pn σ' H' s'/\RelV v u/\D.rt v H'
def PE(X:Cx)(e:Expr)(t:TE):Prop :=
 ∀(pn:List (Addr×Obj))(s:Shared)(G:St)(H:Hp)(Q:VK),Inv X pn G H s->t G H Q->wpAny X.mo X.A (eval e X.env) (EP X pn G Q) X.xe s
def PT(X:Cx)(e:Expr)(t:TT):Prop :=
 ∀(pn:List (Addr×Obj))(s:Shared)(G:St)(H:Hp)(Q:Bool->Hp->Prop),Inv X pn G H s->t G H Q->wpAny X.mo X.A (isTrue e X.env (eval e X.env)) (TP X pn G Q) X.xe s
def PW(X:Cx)(e:Expr)(t:TT):Prop :=
 ∀(whole:Sem Value)(pn:List (Addr×Obj))(s:Shared)(G:St)(H:Hp)(Q:Bool->Hp->Prop),Inv X pn G H s->t G H Q->wpAny X.mo X.A (isTrue e X.env whole) (TP X pn G Q) X.xe s
def PW.pt(h:PW X e t):PT X e t:=h _
def PA(X:Cx)(es:List Expr)(t:TA):Prop :=
 ∀(pos:Pos)(pn:List (Addr×Obj))(s:Shared)(G:St)(H:Hp)(Q:List V->Hp->Prop),Inv X pn G H s->t G H Q->wpAny X.mo X.A (spliced (backTo pos (starEach es X.env))) (AP X pn G Q) X.xe s
def PS(X:Cx)(st:Stmt)(t:TS):Prop :=
 ∀(pn:List (Addr×Obj))(s:Shared)(G:St)(H:Hp)(D:Ends),Inv X pn G H s->t D G H->wpAny X.mo X.A (exec st X.env) (SP X pn D) X.xe s
def PSs(X:Cx)(st:List Stmt)(t:TS):Prop :=
 ∀(pn:List (Addr×Obj))(s:Shared)(G:St)(H:Hp)(D:Ends),Inv X pn G H s->t D G H->wpAny X.mo X.A (execs st X.env) (SP X pn D) X.xe s
def thn{α:Type}{t:Sem α}{Q d:α->Shared->Prop}{xs:Value->Shared->Prop}(h:wpAny M A t Q xs s)(e:∀ a s,Q a s->d a s):wpAny M A t d xs s:=wpAny_mono h e λ_ _ x=>x
def tVar(i:Nat):TE:=λG H Q=>∃v,G[i]?=some (some v)/\Q v H
def tC(v:V):TE:=λ_ H Q=>Q v H
abbrev D_(x:Str):Prop:=(x==("__debug__" : Str))=false
def uq(D:X.N[i]?=some x)(y:Vis X.env.scope x)(j:autoParam (D_ x) zSd)(k:autoParam ((x==("__classdict__" : Str))=false) zSd):PE X (.Name x pos) (tVar i):=by
 intro pn s G H Q I h;obtain⟨v,e,h⟩:=h;obtain⟨m,z,hl⟩:=I.loc;obtain⟨u,r,l⟩:=hl i x v D e y;have g:EP X pn G Q u s:=⟨v,H,I,r,h⟩;rcases l with⟨d,B⟩|⟨d,c,q,a⟩
 .exact wpAny_Name (wpAny_loadName_local I.ok.kind d z B g) j
 rcases d with d|d
 .exact wpAny_Name (wpAny_loadName_cell I.ok.kind d q a g) j
 exact wpAny_Name (wpAny_loadName_free I.ok.kind d q a g k) j
def uy {i j pos}:PE X (.Constant (.int i) j pos) (tC (.int i)):=λ_ _ _ H _ I h=>wpAny_Constant_int ⟨.int i,H,I.tok _,⟨_,rfl⟩,h⟩
def z4j {b j pos}:PE X (.Constant (.bool b) j pos) (tC (.bl b)):=λ_ _ _ H _ I h=>Constant_bool ⟨.bl b,H,I,rfl,h⟩
def z0n {j pos}:PE X (.Constant .none j pos) (tC .non):=λ_ _ _ H _ I h=>Constant_none ⟨.non,H,I,rfl,h⟩
def z0k {x j pos}:PE X (.Constant (.str x) j pos) (tC (.str x)):=λ_ _ _ H _ I h=>Calls.Constant_str ⟨.str x,H,I.tok _,⟨_,rfl⟩,h⟩
def Gl(X:Cx)(x:Str):Prop:=X.env.kindOf x=some .globalImplicit
def Yt{G:St}(I:Inv X pn G H s)(d:Gl X x)(a:X.mg x=some u)(h:Q u s)(e:autoParam (D_ x) zSd):wpAny X.mo X.A (eval (.Name x pos) X.env) Q xs s :=
 Calls.Name_function_global I.ok.kind d (Calls.loadGlobal_global (by rw[I.ok.glob];exact I.mod.glob.keeps I.bk) a h) e
def sw{G:St}(I:Inv X pn G H s)(g:Gl X x)(e:X.mg x=none)(a:bootBuiltins x=some u)(h:Q u s)(d:autoParam (x≠"__name__") zSd)(j:autoParam (D_ x) zSd):wpAny X.mo X.A (eval (.Name x pos) X.env) Q xs s:=by
 obtain⟨k,h1,h2⟩:=I.mod.blt;exact Calls.Name_function_global I.ok.kind g (Calls.loadGlobal_builtin (by rw[I.ok.glob];exact I.mod.glob.keeps I.bk) e (by rw[I.ok.blt];exact h1.keeps I.bk) ((h2 x d).trans a) h) j
def D4(d:Gl X x)(a:X.mg x=some u)(r:RelV v u)(e:autoParam (D_ x) zSd):PE X (.Name x pos) (tC v) :=
 λ_ _ _ H _ I h=>Yt I d a ⟨v,H,I,r,h⟩ e
def D8(g:Gl X x)(e:X.mg x=none)(a:bootBuiltins x=some u)(r:RelV v u)(d:autoParam (x≠"__name__") zSd)(j:autoParam (D_ x) zSd):PE X (.Name x pos) (tC v) :=
 λ_ _ _ H _ I h=>sw I g e a ⟨v,H,I,r,h⟩ d j
section
variable{a b:Expr}{ta tb:TE}{pos:Pos}
def tB(t:TE):TT:=λG H Q=>t G H λx H1=>∃c,x=.bl c/\Q c H1
def z0b{t:TE}(h:PE X e t)(k:autoParam (∀ whole,isTrue e X.env whole=(do let v <- whole;standAt e.pos;holding [v] (truthy v))) zSi):PT X e (tB t):=by
 intro pn s G H Q I j;refine isTrue_plain (thn (h pn s G H _ I j) λv s1 Zh=>?_) (k _);obtain⟨x,H1,l,a,g⟩:=Zh;obtain⟨d,rfl,q⟩:=g;cases a;exact zdG ⟨H1,l,q⟩
variable{tA tB':TT}{rest:List Expr}
def tAnd(t u:TT):TT:=λG H Q=>t G H λc H1=>if c=true then u G H1 Q else Q false H1
def tOr(t u:TT):TT:=λG H Q=>t G H λc H1=>if c=true then Q true H1 else u G H1 Q
def tNot(t:TT):TT:=λG H Q=>t G H λc H1=>Q (!c) H1
def El(d:PT X a tA):PW X (.BoolOp .And [a] pos) tA:=by
 intro g pn s G H Q I h;refine isTrue_and (thn (d pn s G H Q I h) λc s1 e=>?_);cases c with
 |true=>exact isTrue_and_nil e
 |false=>exact e
def Ax(d:PT X a tA):PW X (.BoolOp .Or [a] pos) tA:=by
 intro g pn s G H Q I h;refine isTrue_or (thn (d pn s G H Q I h) λc s1 e=>?_);cases c with
 |false=>exact isTrue_or_nil e
 |true=>exact e
def Ay(k:PT X a tA)(j:PW X (.BoolOp .And (b::rest) pos) tB'):PW X (.BoolOp .And (a::b::rest) pos) (tAnd tA tB'):=by
 intro g pn s G H Q I h;refine isTrue_and (thn (k pn s G H _ I h) λc s1 Zh=>?_);obtain⟨H1,e,d⟩:=Zh;cases c with
 |true=>exact j g pn s1 G H1 Q e d
 |false=>exact⟨H1,e,d⟩
def z4e(k:PT X a tA)(j:PW X (.BoolOp .Or (b::rest) pos) tB'):PW X (.BoolOp .Or (a::b::rest) pos) (tOr tA tB'):=by
 intro g pn s G H Q I h;refine isTrue_or (thn (k pn s G H _ I h) λc s1 Zh=>?_);obtain⟨H1,e,d⟩:=Zh;cases c with
 |true=>exact⟨H1,e,d⟩
 |false=>exact j g pn s1 G H1 Q e d
def z0c(d:PT X a tA):PT X (.UnaryOp .Not a pos) (tNot tA):=by
 intro pn s G H Q I h;exact isTrue_not (d pn s G H (λc H1=>Q (!c) H1) I h)
def z3w(ta tb:TE):TE:=λG H Q=>ta G H λx H1=>∃c,x=.bl c/\if c=true then tb G H1 Q else Q (.bl false) H1
def tOrV(ta tb:TE):TE:=λG H Q=>ta G H λx H1=>∃c,x=.bl c/\if c=true then Q (.bl true) H1 else tb G H1 Q
def z3r(ta:TE):TE:=λG H Q=>ta G H λx H1=>∃c,x=.bl c/\Q (.bl (!c)) H1
def z0l {op} (h:PE X a t):PE X (.BoolOp op [a] pos) t:=λpn s G H Q I d=>BoolOp_one (h pn s G H Q I d)
def z0o(k:PE X a ta)(j:PE X (.BoolOp .And (b::rest) pos) tb):PE X (.BoolOp .And (a::b::rest) pos) (z3w ta tb):=by
 intro pn s G H Q I h;refine BoolOp_and (thn (k pn s G H _ I h) λv s1 Zh=>?_);obtain⟨x,H1,e,g,d⟩:=Zh;obtain⟨c,rfl,d⟩:=d;cases g;refine zdG ?_;cases c with
 |true=>exact j pn s1 G H1 Q e d
 |false=>exact⟨.bl false,H1,e,rfl,d⟩
def z4i(k:PE X a ta)(j:PE X (.BoolOp .Or (b::rest) pos) tb):PE X (.BoolOp .Or (a::b::rest) pos) (tOrV ta tb):=by
 intro pn s G H Q I h;refine BoolOp_or (thn (k pn s G H _ I h) λv s1 Zh=>?_);obtain⟨x,H1,e,g,d⟩:=Zh;obtain⟨c,rfl,d⟩:=d;cases g;refine zdG ?_;cases c with
 |false=>exact j pn s1 G H1 Q e d
 |true=>exact⟨.bl true,H1,e,rfl,d⟩
def z0m(g:PE X a ta):PE X (.UnaryOp .Not a pos) (z3r ta):=by
 intro pn s G H Q I h;refine UnaryOp_ (thn (g pn s G H _ I h) λv s1 Zh=>?_);obtain⟨x,H1,j,e,d⟩:=Zh;obtain⟨c,rfl,d⟩:=d;cases e;exact not_of (zdG ⟨.bl (!c),H1,j,rfl,d⟩)
def tIf(t:TT)(ta tb:TE):TE:=λG H Q=>t G H λc H1=>if c=true then ta G H1 Q else tb G H1 Q
def Kn(j:PT X c tA)(l:PE X a ta)(k:PE X b tb):PE X (.IfExp c a b pos) (tIf tA ta tb):=by
 intro pn s G H Q I h;refine wpAny_IfExp (thn (j pn s G H _ I h) λd s1 Zh=>?_);obtain⟨H1,g,e⟩:=Zh;cases d with
 |true=>exact l pn s1 G H1 Q g e
 |false=>exact k pn s1 G H1 Q g e
end
def SqL(K:W.Frag)(H:Hp)(a:Addr)(E:List V):Prop :=
 Rd H a (.lst E) \/
  ∃(o:Obj)(its:Array Value)(n:Nat),K.lookup a=some o/\o.cls=.type "list"/\o.dict=none/\o.data=.seq its n/\its.size<=sizeLine/\Vals E its.toList
def SqT(K:W.Frag)(H:Hp)(a:Addr)(E:List V):Prop :=
 Rd H a (.tup E) \/
  ∃(o:Obj)(its:Array Value)(n:Nat),K.lookup a=some o/\o.cls=.type "tuple"/\o.data=.seq its n/\its.size<=sizeLine/\Vals E its.toList
noncomputable def absV:Value->Option V
 |.none=>some .non
 |.bool b=>some (.bl b)
 |.int i _=>some (.int i)
 |.str x _=>some (.str x)
 |.bytes b _=>some (.byt b)
 |.float b _=>some (.flt b)
 |.ref a=>some (.ref a)
 |.type n=>some (.ty n)
 |_=>none
def RelV.abs(r:RelV x u):absV u=some x:=by
 cases x with
 |non=>cases r;rfl
 |bl _=>cases r;rfl
 |int _=>obtain⟨t,rfl⟩:=r;rfl
 |str _=>obtain⟨t,rfl⟩:=r;rfl
 |byt _=>obtain⟨t,rfl⟩:=r;rfl
 |flt _=>obtain⟨t,rfl⟩:=r;rfl
 |ref _=>cases r;rfl
 |ty _=>cases r;rfl
theorem RelV.inj(r:RelV x u)(q:RelV y u):x=y:=zaP (r.abs.symm.trans q.abs)
theorem Vals.inj{xs ys:List V}{us:List Value}(h:Vals xs us)(g:Vals ys us):xs=ys:=by
 induction h generalizing ys with
 |nil=>cases g;rfl
 |cons r t ih=>
  cases g with
  |cons a b=>rw[r.inj a,ih b]
variable{G:St}{E ys:List V}
def SqL.of{K:W.Frag}(h:H a=some (.lst E)):SqL K H a E:=.inl (.inl h)
def SqT.of{K:W.Frag}(h:H a=some (.tup E)):SqT K H a E:=.inl (.inl h)
def Inv.list(I:Inv X pn G H s)(h:SqL X.K H a E):∃its:List Value,Vals E its/\PlainL s.heap a its.toArray/\E.length<=sizeLine:=by
 rcases h with h|⟨o,its,n,hk,hc,hd,hs,hz,r⟩
 .obtain⟨z,its,n,r,e⟩:=h.ok I.hok;exact⟨its,r,⟨_,n,e,rfl,rfl,rfl⟩,z⟩
 refine⟨its.toList,r,⟨o,n,I.kIn a o hk,hc,hd,by simpa using hs⟩,?_⟩
 have e:=r.length;simp only[zeS]at e;lia
def Inv.tuple(I:Inv X pn G H s)(h:SqT X.K H a E):∃its:List Value,Vals E its/\IsTup s.heap a its.toArray/\E.length<=sizeLine:=by
 rcases h with h|⟨o,its,n,hk,hc,hs,hz,r⟩
 .obtain⟨z,its,r,p⟩:=h.ok I.hok;exact⟨its,r,p.1,z⟩
 refine⟨its.toList,r,⟨o,I.kIn a o hk,hc,n,by simpa using hs⟩,?_⟩
 have e:=r.length;simp only[zeS]at e;lia
def Inv.list_inj(I:Inv X pn G H s)(h:SqL X.K H a E)(h':SqL X.K H a ys):E=ys:=by
 obtain⟨its,r,⟨o,n,e,_,_,d⟩,_⟩:=I.list h;obtain⟨its',j,⟨o',k,g,_,_,d'⟩,_⟩:=I.list h';rw[e]at g;cases g;rw[d]at d'
 injection d' with d1 _
 have:its=its':=by simpa using zbO Array.toList d1
 subst this;exact r.inj j
def Inv.tuple_inj(I:Inv X pn G H s)(h:SqT X.K H a E)(h':SqT X.K H a ys):E=ys:=by
 obtain⟨its,r,⟨o,e,_,n,d⟩,_⟩:=I.tuple h;obtain⟨its',j,⟨o',g,_,k,d'⟩,_⟩:=I.tuple h';rw[e]at g;cases g;rw[d]at d'
 injection d' with d1 _
 have:its=its':=by simpa using zbO Array.toList d1
 subst this;exact r.inj j
noncomputable abbrev Cx.wish(X:Cx)(xs:Value->Shared->Prop):Cx:={X with xe:=xs}
noncomputable abbrev Cx.nox(X:Cx):Cx:=X.wish λ_ _=>False
theorem Cx.Ok.wish{X:Cx}(ok:X.Ok)(xs:Value->Shared->Prop):(X.wish xs).Ok :=
 ⟨ok.mod,ok.kind,ok.glob,ok.blt,ok.above,ok.inj,ok.has,ok.cab,ok.hd,ok.frames,ok.stk,ok.exf,ok.bs,ok.bsz,ok.noex,ok.exfs,ok.funs,ok.frf⟩
def Cx.Ok.unwish{X:Cx}{xs:Value->Shared->Prop}(ok:(X.wish xs).Ok):X.Ok :=
 ⟨ok.mod,ok.kind,ok.glob,ok.blt,ok.above,ok.inj,ok.has,ok.cab,ok.hd,ok.frames,ok.stk,ok.exf,ok.bs,ok.bsz,ok.noex,ok.exfs,ok.funs,ok.frf⟩
variable{xs:Value->Shared->Prop}
theorem Inv.wish(I:Inv X pn G H s)(xs:Value->Shared->Prop):Inv (X.wish xs) pn G H s:=⟨I.ok.wish xs,I.os,I.bare,I.base,I.loc,I.cell,I.free,I.freeC,I.pin,I.hok,I.len⟩
theorem Inv.unwish(I:Inv (X.wish xs) pn G H s):Inv X pn G H s:=⟨I.ok.unwish,I.os,I.bare,I.base,I.loc,I.cell,I.free,I.freeC,I.pin,I.hok,I.len⟩
theorem SP.unwish{D:Ends}(h:SP (X.wish xs) pn D f s'):SP X pn D f s':=by
 cases f with
 |next=>obtain⟨a,H',I,q⟩:=h;exact⟨a,H',I.unwish,q⟩
 |brk=>obtain⟨a,H',I,q⟩:=h;exact⟨a,H',I.unwish,q⟩
 |cont=>obtain⟨a,H',I,q⟩:=h;exact⟨a,H',I.unwish,q⟩
 |ret u=>obtain⟨v,a,H',I,r,q⟩:=h;exact⟨v,a,H',I.unwish,r,q⟩
theorem PSs.nox{st:List Stmt}{t:TS}(h:PSs X.nox st t):PSs X st t:=λpn s G H D I a =>
 wpAny_mono (h pn s G H D (I.wish _) a) (λ_ _ q=>q.unwish) λ_ _ z=>False.elim z
section
variable{st:Stmt}{rest:List Stmt}{t u:TS}{e:Expr}{te:TE}{pos:Pos}
def z3s:TS:=λD G H=>D.nx G H
def tSeq(t u:TS):TS:=λD G H=>t {D with nx:=u D} G H
def Yn:PSs X [] z3s:=λ_ _ G H _ I h=>zfX ⟨G,H,I,h⟩
def vj(h1:PS X st t)(h2:PSs X rest u):PSs X (st::rest) (tSeq t u):=by
 intro pn s G H D I h;refine wpAny_execs_cons (thn (h1 pn s G H {D with nx:=u D} I h) λf s1 q=>?_);cases f with
 |next =>
  obtain⟨a,H',d,q⟩:=q;exact h2 pn s1 a H' D d q
 |ret v=>exact q
 |brk=>exact q
 |cont=>exact q
def qy(h1:PS X st t):PSs X [st] t:=by
 intro pn s G H D I h;refine wpAny_execs_cons (thn (h1 pn s G H D I h) λf s1 q=>?_);cases f with
 |next=>exact zfX q
 |ret v=>exact q
 |brk=>exact q
 |cont=>exact q
def z3v:TS:=λD G H=>D.ct G H
def U1:PS X (.Continue pos) z3v:=λ_ _ G H _ I h=>wpAny_Continue ⟨G,H,I,h⟩
def Inv.quiet(I:Inv X pn G H s):interactive X.env=false:=by simp[interactive,I.ok.kind]
def Vu(te:TE):TS:=λD G H=>te G H λ_ H1=>D.nx G H1
def sv(g:PE X e te)(d:autoParam (swapsWith e none pos.line X.env=pure false) zSr):PS X (.Expr e pos) (Vu te):=by
 intro pn s G H D I h;exact wpAny_Expr_any (thn (g pn s G H _ I h) λv s1 ⟨x,H1,j,k,a⟩=>⟨G,H1,j,a⟩) I.quiet d
def tRet(te:TE):TS:=λD G H=>te G H D.rt
def Zm(g:PE X e te):PS X (.Return (some e) pos) (tRet te):=by
 intro pn s G H D I h;exact wpAny_Return_some (thn (g pn s G H _ I h) λv s1 ⟨x,H1,j,a,d⟩=>⟨x,G,H1,j,a,d⟩)
def z3n:TS:=λD _ H=>D.rt .non H
def En:PS X (.Return none pos) z3n:=λ_ _ G H _ I h=>wpAny_Return_none ⟨.non,G,H,I,rfl,h⟩
def tIfS(c:TT)(t u:TS):TS:=λD G H=>c G H λb H1=>if b=true then t D G H1 else u D G H1
def Kf{a b:List Stmt}{tc:TT}(j:PT X c tc)(l:PSs X a t)(k:PSs X b u):PS X (.If c a b pos) (tIfS tc t u):=by
 intro pn s G H D I h;refine wpAny_If (thn (j pn s G H _ I h) λd s1 Zh=>?_);obtain⟨H1,g,e⟩:=Zh;cases d with
 |true=>exact l pn s1 G H1 D g e
 |false=>exact k pn s1 G H1 D g e
def Bj:TS:=λ_ _ _=>False
def Ke:PS X st Bj:=λ_ _ _ _ _ _ h=>h.elim
end
abbrev TG:=V->St->Hp->(St->Hp->Prop)->Prop
abbrev TGs:=List V->St->Hp->(St->Hp->Prop)->Prop
def PG(X:Cx)(a:Expr)(t:TG):Prop :=
 ∀(pn:List (Addr×Obj))(s:Shared)(G:St)(H:Hp)(v:V)(u:Value)(Q:St->Hp->Prop),Inv X pn G H s->RelV v u->t v G H Q ->
  wpAny X.mo X.A (assign a X.env u) (λ_ s'=>∃σ' H',Inv X pn σ' H' s'/\Q σ' H') X.xe s
def PGs(X:Cx)(ts:List Expr)(t:TGs):Prop :=
 ∀(pn:List (Addr×Obj))(s:Shared)(G:St)(H:Hp)(vs:List V)(us:List Value)(Q:St->Hp->Prop),Inv X pn G H s->Vals vs us->t vs G H Q ->
  wpAny X.mo X.A (assignInOrder ((assignEach ts X.env).map (·.2)) us) (λ_ s'=>∃σ' H',Inv X pn σ' H' s'/\Q σ' H') X.xe s
abbrev TSet:=V->V->V->Hp->(Hp->Prop)->Prop
def PSet(X:Cx)(t:TSet):Prop :=
 ∀(pn:List (Addr×Obj))(s:Shared)(G:St)(H:Hp)(o i v:V)(ov iv u:Value)(Q:Hp->Prop),Inv X pn G H s->RelV o ov->RelV i iv->RelV v u->t o i v H Q ->
  wpAny X.mo X.A (setItem ov iv u) (λ_ s'=>∃H',Inv X pn G H' s'/\Q H') X.xe s
abbrev TIp:=V->V->Hp->VK->Prop
def PIp(X:Cx)(a:Operator)(t:TIp):Prop :=
 ∀(pn:List (Addr×Obj))(s:Shared)(G:St)(H:Hp)(x y:V)(v u:Value)(Q:VK),Inv X pn G H s->RelV x v->RelV y u->t x y H Q ->
  wpAny X.mo X.A (inplaceOp a v u) (EP X pn G Q) X.xe s
section
variable{pos:Pos}
def se(i:Nat):TG:=λv G H Q=>Q (G.set i (some v)) H
def zj(e:X.N.Nodup)(hi:X.N[i]?=some x)(a:Loc X.env.scope x)(d:autoParam (X.fn x=true\/X.env.scope.names.lookup x=some .local) zSo):PG X (.Name x pos) (se i):=by
 intro pn s G H v u Q I r h;exact wpAny_assign_Name (Yc I e hi a r (λs' g=>⟨_,H,g,h⟩) d)
def gNil:TGs:=λvs G H Q=>vs=[]/\Q G H
def k8(t:TG)(u:TGs):TGs:=λvs G H Q=>∃v r,vs=v::r/\t v G H λa H'=>u r a H' Q
def wt:PGs X [] gNil:=by
 intro pn s G H vs us Q I r h;obtain⟨e,h⟩:=h;subst e;cases r;exact assignInOrder_nil ⟨G,H,I,h⟩
def yd(h1:PG X e t)(h2:PGs X es u)(g:autoParam ((assignEach (e::es) X.env).map (·.2)=assign e X.env::(assignEach es X.env).map (·.2)) zSr):PGs X (e::es) (k8 t u):=by
 intro pn s G H vs us Q I r h;obtain⟨v,vr,e1,h⟩:=h;subst e1;cases r with
 |cons r rr =>
  rw[g];refine assignInOrder_cons (thn (h1 pn s G H _ _ _ I r h) λ_ s1 Zh=>?_);obtain⟨a,H1,j,d⟩:=Zh;exact h2 pn s1 a H1 _ _ Q j rr d
def gTup(K:W.Frag)(n:Nat)(t:TGs):TG:=λv G H Q=>∃a E,v=.ref a/\SqT K H a E/\E.length=n/\t E G H Q
def z0j(z:X.calm=true)(h:PGs X es t)(y:autoParam ((assignEach es X.env).length=n) zSr)(g:autoParam ((assignEach es X.env).findIdx? (·.1)=none) zSr):PG X (.Tuple es k pos) (gTup X.K n t):=by
 intro pn s G H v u Q I r d;obtain⟨a,E,e1,x,hl,d⟩:=d;subst e1;cases r;obtain⟨its,j,q,D⟩:=I.tuple x;refine assign_Tuple_tuple (I.ok.hd z) q (by simp[y,<- hl,j.length]) g λh' l=>?_
 have B:Inv X pn G H {s with heap:=h'}:=I.kept (t':=s.toks) λb o e=>l b o (zaL (zae e)) e;exact h pn _ G H E _ Q B (by simpa using j) d
def gSub(to ti:TE)(t:TSet):TG:=λv G H Q=>to G H λo H1=>ti G H1 λi H2=>t o i v H2 λa=>Q G a
def Oi{o i:Expr}{to ti:TE}(ho:PE X o to)(hi:PE X i ti)(l:PSet X t)(q:autoParam (∀ v,assign (.Subscript o i pos) X.env v=(do
   let a <- holding [v] (eval o X.env)
   let d <- holding [v,a] (eval i X.env)
   standAt pos
   holding [v,a,d] (setItem a d v)
   release [v,a,d] [])) zSi):PG X (.Subscript o i pos) (gSub to ti t):=by
 intro pn s G H v u Q I r h;rw[q];refine zaa (zaZ (thn (ho pn s G H _ I h) λa s1 Zh=>?_));obtain⟨x,H1,D,e,k⟩:=Zh;refine zaa (zaZ (thn (hi pn s1 G H1 _ D k) λd s2 Zh=>?_));obtain⟨y,H2,B,r2,j⟩:=Zh;refine zaa (wpAny_standAt (zaa (zaZ (thn (l pn s2 G H2 x y v a d u _ B e r2 r j) λ_ L Zh=>?_))));obtain⟨J,z,g⟩:=Zh;exact wpAny_release ⟨G,J,z,g⟩
def tAsg(te:TE)(g:TG):TS:=λD G H=>te G H λx H1=>g x G H1 D.nx
def W6{tg e:Expr}{te:TE}(r:PE X e te)(l:PG X tg g)(k:autoParam (swapsWithSole [tg] e pos.line X.env=pure false) zSr)(j:autoParam (swappedStores [tg] e X.env=pure none) zSr)(h1:autoParam ((assignEach [tg] X.env).map (·.2)=[assign tg X.env]) zSr):PS X (.Assign [tg] e pos) (tAsg te g):=by
 intro pn s G H D I h;refine wpAny_Assign_stores (thn (r pn s G H _ I h) λv s1 Zh=>?_) k j;obtain⟨x,H1,u,a,d⟩:=Zh;rw[h1];exact thn (l pn s1 G H1 x v _ u a d) λ_ s2 q=>q
def dw{i:Nat}{x:Str}{te:TE}(q:X.N.Nodup)(hi:X.N[i]?=some x)(g:Loc X.env.scope x)(l:PE X e te)(j:autoParam (swapsWith e (some (.Name x pos')) pos.line X.env=pure false) zSr)(k:autoParam (X.fn x=true\/X.env.scope.names.lookup x=some .local) zSo) :
  PS X (.Assign [.Name x pos'] e pos) (tAsg te (se i)):=by
 intro pn s G H D I h;refine wpAny_Assign_Name (thn (l pn s G H _ I h) λv s1 Zh=>?_) j;obtain⟨y,H1,u,a,d⟩:=Zh;exact Yc u q hi g a (λs2 r=>⟨_,H1,r,d⟩) k
def tAug(i:Nat)(te:TE)(ti:TIp):TS:=λD G H=>∃x,G[i]?=some (some x)/\te G H λy H1=>ti x y H1 λz H2=>D.nx (G.set i (some z)) H2
def G7{i:Nat}{x:Str}{te:TE}(Z:X.N.Nodup)(hi:X.N[i]?=some x)(B:Loc X.env.scope x)(V:PE X e te)(ho:PIp X op ti)(R:autoParam (X.fn x=true\/X.env.scope.names.lookup x=some .local) zSo) :
  PS X (.AugAssign (.Name x pos') op e pos) (tAug i te ti):=by
 intro pn s G H D I h;obtain⟨v,e1,h⟩:=h;obtain⟨m,O,hl⟩:=I.loc;have q:Vis X.env.scope x:=by rcases B with k|k;exact .inl k;exact .inr (.inl k)
 obtain⟨u,r,l⟩:=hl i x v hi e1 q;refine wpAny_AugAssign_Name ?_;have go:wpAny X.mo X.A (eval e X.env) (λw j=>wpAny X.mo X.A (inplaceOp op u w) (λr g=>wpAny X.mo X.A (storeName X.env x r) (λ_=>SP X pn D .next) X.xe g) X.xe j) X.xe s:=by
  refine thn (V pn s G H _ I h) λw s1 Zh=>?_;obtain⟨y,H1,I1,J,M⟩:=Zh;refine thn (ho pn s1 G H1 v y u w _ I1 r J M) λz s2 Zh=>?_;obtain⟨zv,H2,I2,r2,L⟩:=Zh;exact Yc I2 Z hi B r2 (λs3 I3=>⟨_,H2,I3,L⟩) R
 rcases l with⟨a,Q⟩|⟨a,c,W,d⟩
 .exact wpAny_loadName_local I.ok.kind a O Q go
 rcases a with a|a
 .exact wpAny_loadName_cell I.ok.kind a W d go
 rcases B with k|k
 .have:X.env.scope.names.lookup x=some .free:=a;rw[k]at this;cases this
 have:X.env.scope.names.lookup x=some .free:=a;rw[k]at this;cases this
def ipI(f:Int->Int->Int):TIp:=λx y H Q=>∃i j,x=.int i/\y=.int j/\Q (.int (f i j)) H
def z2c:PIp X .Add (ipI λi j=>i+j):=by
 intro pn s G H x y v u Q I a r2 h;obtain⟨i,j,e1,e2,q⟩:=h;subst e1;subst e2;obtain⟨t,rfl⟩:=a;obtain⟨t',rfl⟩:=r2;exact iadd_int ⟨.int _,H,I.tok _,⟨_,rfl⟩,q⟩
def B9(c:TT)(tb:TS):TS:=λD G H=>∃W:Nat->St->Hp->Prop,(∃m,W m G H)/\∀m G H,W m G H ->
 c G H λb H1=>if b=true then ∃N:St->Hp->Prop,(∀σ' H',N σ' H'->∃m',m'<m/\W m' σ' H')/\tb {D with nx:=N,ct:=N,bk:=D.nx} G H1 else D.nx G H1
def Sn{tc:TT}{tb:TS}(y:PassesOwn X.mo X.A X.env X.xe)(M:PT X c tc)(O:PSs X body tb):PS X (.While c body [] pos) (B9 tc tb):=by
 intro pn s G H D I h;obtain⟨W,⟨L,J⟩,e⟩:=h;refine wpAny_While (codeAny_whileLoop (λn s'=>∃σ' H',Inv X pn σ' H' s'/\W n σ' H') ?_ L ⟨G,H,I,J⟩);rintro n s1 ⟨d,H1,Q,w1⟩;refine zdS y (thn (M pn s1 d H1 _ Q (e n d H1 w1)) λb s2 Zh=>?_);obtain⟨H2,B,k⟩:=Zh;cases b with
 |true =>
  obtain⟨N,z,k⟩:=k;rw[zaK rfl];refine zdS y (thn (O pn s2 d H2 _ B k) λf R j=>?_);cases f with
  |next =>
   obtain⟨a,g,x,q⟩:=j;obtain⟨r,u,l⟩:=z a g q;exact⟨r,u,a,g,x,l⟩
  |cont =>
   obtain⟨a,g,x,q⟩:=j;obtain⟨r,u,l⟩:=z a g q;exact⟨r,u,a,g,x,l⟩
  |brk=>exact j
  |ret v=>exact j
 |false =>
  rw[zaI zaT];exact zfX ⟨d,H2,B,k⟩
end
structure It where
 go:Nat->Hp->Prop
 yld:Nat->Hp->V->Hp->Prop
 stop:Nat->Hp->Prop
def FpOk(X:Cx)(pn:List (Addr×Obj))(H:Hp)(b:Addr):Prop :=
 H b=none/\b≠X.env.locals/\b∉X.fs/\(b∈X.ex\/X.s₀.heap.objs.size<=b)/\(∀x c,X.env.cells.lookup x=some c->c≠b)/\∀p∈X.pn++pn,p.1≠b
def Inv.fpOk(I:Inv X pn G H s)(a:s.z<=b)(g:H' b=none):FpOk X pn H' b:=by
 refine⟨g,zcA (zaW I.lt a),I.nofs a,.inr (zak I.sz a),λx c e z=>?_,λp d z=>?_⟩
 .obtain⟨v,q⟩:=I.cell x c e;exact absurd (zaW q.lt (by rw[z];exact a)) (zcS _)
 exact absurd (zaW (zae (I.pin p d).1) (by rw[z];exact a)) (zcS _)
structure Turn(P:Program)(w:World)(K:W.Frag)(tg:Expr)(J:It)(fp:List Addr)(it:Addr)(tn:Nat->Heap->Prop):Prop where
 mem:it∈fp
 obj:∀i h,tn i h->∀b∈fp,∃o,h.get? b=some o/\∀v,o.data≠.cell v
 keep:∀i h h',tn i h->(∀b∈fp,∀o,h.get? b=some o->h'.get? b=some o)->tn i h'
 item:∀(X:Cx),X.prog=P->X.w=w->X.K=K->X.calm=true->∀(i:Nat)(pn:List (Addr×Obj))(s:Shared)(G:St)(H:Hp)(xs:Value->Shared->Prop),Inv X pn G H s->(∀b∈fp,FpOk X pn H b)->tn i s.heap->J.go i H ->
  wpAny (model P w) X.A (pyNext (.ref it)) (λr s1=>∃u,r=some u /\
   wpAny (model P w) X.A (letOwnedTupleGo tg (.ref it) u) (λ_ s2=>∃x H',Inv X pn G H' s2/\RelV x u/\J.yld i H x H'/\tn (i+1) s2.heap/\∀b∈fp,H' b=none) xs s1) xs s
 done:∀(X:Cx),X.prog=P->X.w=w->X.K=K->X.calm=true->∀(i:Nat)(pn:List (Addr×Obj))(s:Shared)(G:St)(H:Hp)(xs:Value->Shared->Prop),Inv X pn G H s->(∀b∈fp,FpOk X pn H b)->tn i s.heap->J.stop i H ->
  wpAny (model P w) X.A (pyNext (.ref it)) (λr s1=>r=none/\Inv X pn G H s1) xs s
 self:∀(A:Around)(i:Nat)(s:Shared)(Q:Value->Shared->Prop)(xs:Value->Shared->Prop),tn i s.heap->Q (.ref it) s->wpAny (model P w) A (pyIter (.ref it)) Q xs s
abbrev TI:=St->Hp->(It->Hp->Prop)->Prop
def PIE(X:Cx)(pn:List (Addr×Obj))(G:St)(tg:Expr)(R:It->Hp->Prop)(a:Value)(s2:Shared):Prop :=
 ∃(it:Addr)(fp:List Addr)(tn:Nat->Heap->Prop)(J:It)(H':Hp),a=.ref it/\Inv X pn G H' s2/\Turn X.prog X.w X.K tg J fp it tn/\tn 0 s2.heap/\(∀b∈fp,FpOk X pn H' b)/\R J H'
def PI(X:Cx)(tg iter:Expr)(a:TI):Prop :=
 ∀(pn:List (Addr×Obj))(s:Shared)(G:St)(H:Hp)(R:It->Hp->Prop),Inv X pn G H s->a G H R ->
  wpAny X.mo X.A (eval iter X.env) (λv s1=>wpAny X.mo X.A (pyIter v) (PIE X pn G tg R) X.xe s1) X.xe s
def Qp{tg:Expr}{o:Obj}(ho:s.heap.get? it=some o)(g:o.cls=.type n)(e:o.data=.fields vs)(d:["enumerate","zip","dict_itemiterator","dict_reverseitemiterator","odict_iterator","itertools.zip_longest","itertools.pairwise"].contains n=false)(a:Q () s):wpAny M A (letOwnedTupleGo tg (.ref it) u) Q xs s:=by
 unfold letOwnedTupleGo;cases tg <;> first
  |exact zab a
  | (cases u <;> first
    |exact zab a
    | (refine zaa (wpAny_load ho ?_)
       rw[g,e];show wpAny M A (if (["enumerate","zip","dict_itemiterator","dict_reverseitemiterator","odict_iterator","itertools.zip_longest","itertools.pairwise"].contains n&&vs[0]?==some (rawInt _))=true then _ else _) Q xs s
       rw[zaI (by intro h;rw[d,Bool.false_and]at h;cases h)]
       exact zab a))
noncomputable def Itl(K:W.Frag)(a:Addr):It :=
 ⟨λi H=>∃E x,SqL K H a E/\E[i]?=some x,λi H x H'=>H'=H/\∀E,SqL K H a E->E[i]?=some x,λi H=>∃E,SqL K H a E/\E.length<=i⟩
noncomputable def Itt(K:W.Frag)(a:Addr):It :=
 ⟨λi H=>∃E x,SqT K H a E/\E[i]?=some x,λi H x H'=>H'=H/\∀E,SqT K H a E->E[i]?=some x,λi H=>∃E,SqT K H a E/\E.length<=i⟩
noncomputable def Itr(lo:Int)(n:Nat):It:=⟨λi _=>i<n,λi H x H'=>H'=H/\x=.int (lo+i),λi _=>n<=i⟩
def Pg{P:Program}{w:World}{K:W.Frag}{tg:Expr}(a it:Addr):Turn P w K tg (Itl K a) [it] it (λi h=>h.IsListIter it a i) where
 mem:=by simp
 obj:=λi h st b g=>by
  have e:b=it:=by simpa using g
  subst e;obtain⟨o,e,c,d⟩:=st;exact⟨o,e,λv z=>by rw[d]at z;cases z⟩
 keep:=λi h h' st k=>st.at λo e=>k it aE o e
 item:=by
  intro X J B L V i pn s G H xs I q st D;subst J B L;obtain⟨E,x,l,y⟩:=D;obtain⟨its,r,p,hz⟩:=I.list l;obtain⟨u,hu,ru⟩:=r.get y;obtain⟨R,Q,f2,O,N,M⟩:=q it aE
  refine wpAny_pyNext_list_item st p.isList (x:=u) (by simpa using hu) λh' j Z=>?_
  have I1:Inv X pn G H {s with heap:=h'}:=I.turned (t':=s.toks) (λb o g e=>(Z.2 b g).trans e) R Q O N M;obtain⟨o,e,c,d⟩:=id j;exact⟨u,rfl,Qp (s:={s with heap:=h'}) e c d aB ⟨x,H,I1,ru,⟨rfl,λys hy=>by rw[I.list_inj hy l];exact y⟩,j,λb g=>(q b g).1⟩⟩
 done:=by
  intro X J B L V i pn s G H xs I q st D;subst J B L;obtain⟨E,l,y⟩:=D;obtain⟨its,r,p,hz⟩:=I.list l;obtain⟨R,Q,f2,O,N,M⟩:=q it aE
  have hl:=r.length;exact wpAny_pyNext_list_end (I.ok.hd V) st p.isList (by simp;lia) λh' eb=>⟨rfl,I.turned (t':=s.toks) (λb o g e=>eb b o g e) R Q O N M⟩
 self:=λ_ _ _ _ _ st h=>wpAny_pyIter_listiter st h
def Rz{P:Program}{w:World}{K:W.Frag}{tg:Expr}(a it:Addr):Turn P w K tg (Itt K a) [it] it (λi h=>h.IsTupleIter it a i) where
 mem:=by simp
 obj:=λi h st b g=>by
  have e:b=it:=by simpa using g
  subst e;obtain⟨o,e,c,d⟩:=st;exact⟨o,e,λv z=>by rw[d]at z;cases z⟩
 keep:=λi h h' st k=>st.at λo e=>k it aE o e
 item:=by
  intro X J B L V i pn s G H xs I q st D;subst J B L;obtain⟨E,x,l,y⟩:=D;obtain⟨its,r,p,hz⟩:=I.tuple l;obtain⟨u,hu,ru⟩:=r.get y;obtain⟨R,Q,f2,O,N,M⟩:=q it aE
  refine wpAny_pyNext_tuple_item st (show s.heap.IsTuple a its.toArray from p) (x:=u) (by simpa using hu) λh' j Z=>?_
  have I1:Inv X pn G H {s with heap:=h'}:=I.turned (t':=s.toks) (λb o g e=>(Z.2 b g).trans e) R Q O N M;obtain⟨o,e,c,d⟩:=id j;exact⟨u,rfl,Qp (s:={s with heap:=h'}) e c d aB ⟨x,H,I1,ru,⟨rfl,λys hy=>by rw[I.tuple_inj hy l];exact y⟩,j,λb g=>(q b g).1⟩⟩
 done:=by
  intro X J B L V i pn s G H xs I q st D;subst J B L;obtain⟨E,l,y⟩:=D;obtain⟨its,r,p,hz⟩:=I.tuple l;obtain⟨R,Q,f2,O,N,M⟩:=q it aE
  have hl:=r.length;exact wpAny_pyNext_tuple_end (I.ok.hd V) st (show s.heap.IsTuple a its.toArray from p) (by simp;lia) λh' eb=>⟨rfl,I.turned (t':=s.toks) (λb o g e=>eb b o g e) R Q O N M⟩
 self:=λ_ _ _ _ _ st h=>wpAny_pyIter_tupleiter st h
def Q0{P:Program}{w:World}{K:W.Frag}{tg:Expr}(it:Addr)(lo:Int)(n:Nat):Turn P w K tg (Itr lo n) [it] it (λi h=>IsRangeIter h it (lo+(i:Nat)*1) ((n:Int)-(i:Nat)) 1) where
 mem:=by simp
 obj:=λi h st b a=>by
  have e:b=it:=by simpa using a
  subst e;exact⟨_,st,λv z=>by
   have L:Data.fields _=Data.cell v:=z;cases L⟩
 keep:=λi h h' st k=>k it aE _ st
 item:=by
  intro X r j u q i pn s G H xs I g st l;subst r j u;obtain⟨J,D,O,B,y,x⟩:=g it aE
  have W:=Walks.range (prog:=X.prog) (w:=X.w) (I.ok.hd q) it lo 1 n;refine W.item i s _ _ l st λv h' tk N d M=>?_;obtain⟨t,rfl⟩:=N;have R:Inv X pn G H {s with heap:=h',toks:=tk}:=I.turned (λb o a e=>M b o (by simpa using a) e) J D B y x
  refine⟨_,rfl,Qp (s:={s with heap:=h',toks:=tk}) (n:="range_iterator") d rfl rfl aB ⟨.int (lo+i),H,R,⟨t,?_⟩,⟨rfl,rfl⟩,d,λb a=>(g b a).1⟩⟩
  rw[Int.mul_one]
 done:=by
  intro X r j u q i pn s G H xs I g st l;subst r j u;obtain⟨J,D,O,B,y,x⟩:=g it aE
  exact wpAny_pyNext_range_end (I.ok.hd q) st (by have:n<=i:=l;lia) λh' Q=>⟨rfl,I.turned (t':=s.toks) (λb o a e=>Q b o a e) J D B y x⟩
 self:=λ_ _ _ _ _ st h=>wpAny_pyIter_rangeiter st h
section
variable{tg:Expr}
def Sf{H:Hp}{R:It->Hp->Prop}{xs:Value->Shared->Prop}{lo hi:Int}{tk:Nat}(I:Inv X pn G H s)(h1:-(2 ^ 62)<=lo)(h2:lo<2 ^ 62)(j:-(2 ^ 62)<=hi)(g:hi<2 ^ 62)(q:R (Itr lo (hi-lo).toNat) H):wpAny X.mo X.A (pyIter (.ref s.z)) (PIE X pn G tg R) xs {s with heap:=s.heap.push {cls:=.type "range",data:=.fields #[.int lo t,.int hi u,.int 1 v]},toks:=tk}:=by
 refine wpAny_pyIter_range (IsRange.new ..) (small_one h1 h2 j g) ?_;have a:Inv X pn G H {s with heap:=s.heap.push {cls:=.type "range",data:=.fields #[.int lo t,.int hi u,.int 1 v]},toks:=tk}:=I.kept λb o e=>zac _ e;refine⟨(s.heap.push {cls:=.type "range",data:=.fields #[.int lo t,.int hi u,.int 1 v]}).objs.size,[(s.heap.push {cls:=.type "range",data:=.fields #[.int lo t,.int hi u,.int 1 v]}).objs.size],_,_,H,rfl,
  a.kept (t':=tk) λb o e=>zac _ e,Q0 _ lo (hi-lo).toNat,?_,λb d=>?_,q⟩
 .have e1:lo+((0:Nat):Int)*1=lo:=by simp
  have e2:(((hi-lo).toNat:Nat):Int)-((0:Nat):Int)=Builtin.Range.rangeSize lo hi 1:=by rw[rangeSize_one];split <;> lia
  show IsRangeIter _ _ (lo+((0:Nat):Int)*1) ((((hi-lo).toNat:Nat):Int)-((0:Nat):Int)) 1;rw[e1,e2];exact zad _ rfl
 have e:b=(s.heap.push {cls:=.type "range",data:=.fields #[.int lo t,.int hi u,.int 1 v]}).objs.size:=by simpa using d
 subst e;exact a.fpOk (zaj _) (a.hok.fresh (zaj _))
def z4x(ta:TA):TI:=λG H R=>ta G H λvs H1=>∃j:Int,vs=[.int j]/\-(2 ^ 62)<=j/\j<2 ^ 62/\R (Itr 0 j.toNat) H1
def z4w(ta:TA):TI:=λG H R=>ta G H λvs H1=>∃i j:Int,vs=[.int i,.int j]/\(-(2 ^ 62)<=i/\i<2 ^ 62/\-(2 ^ 62)<=j/\j<2 ^ 62)/\R (Itr i (j-i).toNat) H1
def Oh{a:Expr}{ta:TA}{p pos:Pos}(v:Gl X "range")(u:X.mg "range" = none)(x:PA X [a] ta)(l:autoParam (starEach [a] X.env=[(false,eval a X.env)]) zSr):PI X tg (.Call (.Name "range" p) [a] [] pos) (z4x ta):=by
 intro pn s G H R I h;refine Call_ (sw I v u boot_range (zbB (thn (x pos pn s G H _ I h) λus s1 Zh=>?_) l rfl));obtain⟨vs,H1,y,g,d⟩:=Zh;obtain⟨j,e,d,k,q⟩:=d;subst e;cases g with
 |cons r rr =>
  cases rr
  obtain⟨t,rfl⟩:=r;exact call_range_1 (Sf y aD aD d k (by simpa using q))
def Og{a b:Expr}{ta:TA}{p pos:Pos}(z:Gl X "range")(y:X.mg "range" = none)(B:PA X [a,b] ta)(x:autoParam (starEach [a,b] X.env=[(false,eval a X.env),(false,eval b X.env)]) zSr)(d:autoParam (starEach [b] X.env=[(false,eval b X.env)]) zSr) :
  PI X tg (.Call (.Name "range" p) [a,b] [] pos) (z4w ta):=by
 intro pn s G H R I h;refine Call_ (sw I z y boot_range (zbB (thn (B pos pn s G H _ I h) λus s1 Zh=>?_) (by rw[x,d]) (by rw[d];rfl)))
 obtain⟨vs,H1,D,k,g⟩:=Zh;obtain⟨i,j,e,⟨g,v,u,l⟩,q⟩:=g;subst e;cases k with
 |cons r rr =>
  cases rr with
  |cons r' rr =>
   cases rr
   obtain⟨t,rfl⟩:=r;obtain⟨t',rfl⟩:=r';exact call_range_2 (Sf D g v u l q)
def tFor(d:TI)(g:TG)(tb:TS):TS:=λD G H=>d G H λJ H1=>∃W:Nat->Nat->St->Hp->Prop,(∃m,W 0 m G H1)/\∀i m G H,W i m G H ->
 (J.stop i H/\D.nx G H)\/(J.go i H/\∃N:St->Hp->Prop,(∀σ' H',N σ' H'->∃m',m'<m/\W (i+1) m' σ' H')/\∀x H',J.yld i H x H'->g x G H' λa H2=>tb {D with nx:=N,ct:=N,bk:=D.nx} a H2)
noncomputable def W7(fp:List Addr)(h:Heap):List (Addr×Obj):=fp.filterMap λb=>(h.get? b).map λo=>(b,o)
def qg{o:Obj}(a:b∈fp)(e:h.get? b=some o):(b,o)∈W7 fp h:=List.mem_filterMap.mpr ⟨b,a,by rw[e];rfl⟩
def Ox(a:p∈W7 fp h):p.1∈fp/\h.get? p.1=some p.2:=by
 obtain⟨b,d,e⟩:=List.mem_filterMap.mp a;cases q:h.get? b with
 |none=>rw[q]at e;cases e
 |some o =>
  rw[q]at e;have g:(b,o)=p:=zaP e;subst g;exact⟨d,q⟩
def Inv.pinned(I:Inv X pn G H s)(k:∀ b∈fp,FpOk X pn H b)(ho:∀ b∈fp,∃ o,s.heap.get? b=some o/\∀ v,o.data≠.cell v):Inv X (pn++W7 fp s.heap) G H s :=
 I.pins_of λp j=>(zas.mp j).elim (λz=>I.pin p (zaE _ z)) λz=>by
  obtain⟨a,e⟩:=Ox z;obtain⟨r,q,l,_⟩:=k p.1 a;obtain⟨o,g,d⟩:=ho p.1 a;rw[e]at g;cases g;exact⟨e,r,q,l,d⟩
def Inv.unpinned(I:Inv X (pn++pl) G H s):Inv X pn G H s:=I.pins_of λp a=>I.pin p (zaE _ (zaH _ a))
def z0d{wi:TI}{tb:TS}(V:PassesOwn X.mo X.A X.env X.xe)(hc:X.calm=true)(hi:PI X tg iter wi)(hg:PG X tg g)(l:PSs X body tb)(hs:autoParam (∀ x,foldedSetIterable iter X.env x=pure x) zSi):PS X (.For tg iter body [] pos) (tFor wi g tb):=by
 intro pn s G H D I h;refine wpAny_For (thn (hi pn s G H _ I h) λv s1 h1=>thn h1 λa7 s2 h2=>?_) hs;obtain⟨it,fp,tn,J,H2,e,I2,T,a4,f2,W,⟨m0,w0⟩,M⟩:=h2;subst e;have k:∀{H':Hp},(∀b∈fp,H' b=none)->∀b∈fp,FpOk X pn H' b:=λhn b l=>⟨hn b l,(f2 b l).2⟩;refine codeAny_forLoop_any (λn s'=>∃i σ' H',Inv X pn σ' H' s'/\tn i s'.heap/\(∀b∈fp,H' b=none)/\W i n σ' H') ?_ m0 ⟨0,G,H2,I2,a4,λb l=>(f2 b l).1,w0⟩;rintro n s3 ⟨i,j,H3,I3,Q,Z,w3⟩;rcases M i n j H3 w3 with⟨O,qn⟩|⟨go,N,hN,step⟩
 .refine zdS V (thn (T.done X rfl rfl rfl hc i pn s3 j H3 X.xe I3 (k Z) Q O) λr s4 ⟨hr,I4⟩=>?_);subst hr;exact zfX ⟨j,H3,I4,qn⟩
 refine zdS V (thn (T.item X rfl rfl rfl hc i pn s3 j H3 X.xe I3 (k Z) Q go) λr s4 Zh=>?_);obtain⟨u,hr,h4⟩:=Zh;subst hr;refine zdS V (thn h4 λ_ s5 Zh=>?_);obtain⟨x,H5,I5,r5,y5,L,a5⟩:=Zh;have a6:=I5.pinned (k a5) (T.obj _ _ L);refine zdS V (thn (hg _ s5 j H5 x u _ a6 r5 (step x H5 y5)) λ_ s6 Zh=>?_);obtain⟨a0,H6,I6,q6⟩:=Zh;refine zdS V (thn (l _ s6 a0 H6 _ I6 q6) λf s7 B=>?_);have q:∀{a:St}{z:Hp},Inv X (pn++W7 fp s5.heap) a z s7->N a z->∃m,m<n/\∃i σ' H',Inv X pn σ' H' s7/\tn i s7.heap/\(∀b∈fp,H' b=none)/\W i m σ' H':=λ{a z} y R=>by
  obtain⟨m',hm,w7⟩:=hN a z R;refine⟨m',hm,i+1,a,z,y.unpinned,T.keep _ _ _ L λb l o e=>(y.pin (b,o) (zaE _ (zaE _ (qg l e)))).1,λb l=>?_,w7⟩;obtain⟨o,e,d⟩:=T.obj _ _ L b l;exact(y.pin (b,o) (zaE _ (zaE _ (qg l e)))).2.1
 cases f with
 |next=>obtain⟨a,z,y,R⟩:=B;exact q y R
 |cont=>obtain⟨a,z,y,R⟩:=B;exact q y R
 |brk=>obtain⟨a,z,y,B⟩:=B;exact⟨a,z,y.unpinned,B⟩
 |ret v=>obtain⟨x7,a,z,y,r7,B⟩:=B;exact⟨x7,a,z,y.unpinned,r7,B⟩
end
abbrev R2:=V->V->Hp->VK->Prop
def OpR(X:Cx)(f:Value->Value->Sem Value)(r:R2):Prop :=
 ∀(pn:List (Addr×Obj))(s:Shared)(G:St)(H:Hp)(x y:V)(v u:Value)(Q:VK),Inv X pn G H s->RelV x v->RelV y u->r x y H Q ->
  wpAny X.mo X.A (f v u) (EP X pn G Q) X.xe s
def UnR(X:Cx)(f:Value->Sem Value)(r:V->Hp->VK->Prop):Prop :=
 ∀(pn:List (Addr×Obj))(s:Shared)(G:St)(H:Hp)(x:V)(v:Value)(Q:VK),Inv X pn G H s->RelV x v->r x H Q ->
  wpAny X.mo X.A (f v) (EP X pn G Q) X.xe s
def ui(X:Cx)(f:Value)(r:List V->Hp->VK->Prop):Prop :=
 ∀(pn:List (Addr×Obj))(s:Shared)(G:St)(H:Hp)(E:List V)(us:List Value)(Q:VK),Inv X pn G H s->Vals E us->r E H Q ->
  wpAny X.mo X.A (call f us) (EP X pn G Q) X.xe s
def TruR(X:Cx)(r:V->Hp->(Bool->Hp->Prop)->Prop):Prop :=
 ∀(pn:List (Addr×Obj))(s:Shared)(G:St)(H:Hp)(x:V)(v:Value)(Q:Bool->Hp->Prop),Inv X pn G H s->RelV x v->r x H Q ->
  wpAny X.mo X.A (truthy v) (TP X pn G Q) X.xe s
def tOp(r:R2)(ta tb:TE):TE:=λG H Q=>ta G H λx H1=>tb G H1 λy H2=>r x y H2 Q
def tUn(r:V->Hp->VK->Prop)(ta:TE):TE:=λG H Q=>ta G H λx H1=>r x H1 Q
def rI(C:Int->Int->Prop)(g:Int->Int->V):R2:=λx y H Q=>∃i j,x=.int i/\y=.int j/\C i j/\Q (g i j) H
def rI0(g:Int->Int->V):R2:=λx y H Q=>∃i j,x=.int i/\y=.int j/\Q (g i j) H
def rU(g:Int->V):V->Hp->VK->Prop:=λx H Q=>∃i,x=.int i/\Q (g i) H
section
variable{a b:Expr}{ta tb:TE}{pos:Pos}
def binT(r:PE X a ta)(q:PE X b tb){H:Hp}{R:V->V->Hp->Prop}(I:Inv X pn G H s)(h:ta G H λx H1=>tb G H1 λy H2=>R x y H2){Q:Value->Shared->Prop}{f:Value->Value->Sem Value}(l:∀ v u s2 x y H2,Inv X pn G H2 s2->RelV x v->RelV y u->R x y H2->wpAny X.mo X.A (f v u) Q X.xe s2) :
  wpAny X.mo X.A (eval a X.env) (λv e=>wpAny X.mo X.A (eval b X.env) (λu d=>wpAny X.mo X.A (f v u) Q X.xe d) X.xe e) X.xe s:=by
 refine thn (r pn s G H _ I h) λv s1 Zh=>?_;obtain⟨x,H1,B,g,k⟩:=Zh;refine thn (q pn s1 G H1 _ B k) λu s2 Zh=>?_;obtain⟨y,H2,z,r2,j⟩:=Zh;exact l v u s2 x y H2 z g r2 j
def Q7(ho:OpR X (binaryOp op) r)(j:PE X a ta)(g:PE X b tb):PE X (.BinOp a op b pos) (tOp r ta tb):=by
 intro pn s G H Q I h;exact wpAny_BinOp (binT j g I h λv u s2 x y H2 k e d q=>ho pn s2 G H2 x y v u Q k e d q)
def z4h{r:V->Hp->VK->Prop}(ho:UnR X (unaryOp op) r)(g:PE X a ta):PE X (.UnaryOp op a pos) (tUn r ta):=by
 intro pn s G H Q I h;exact UnaryOp_ (thn (g pn s G H _ I h) λv s1 ⟨x,H1,j,d,e⟩=>ho pn s1 G H1 x v Q j d e)
def opI{f:Value->Value->Sem Value}{C:Int->Int->Prop}{g:Int->Int->Int}(a:∀ (i j:Int) (t u:Tok) (s:Shared) (Q:Value->Shared->Prop) (xs:Value->Shared->Prop),C i j->Q (.int (g i j) s.toks) {s with toks:=s.toks+1}->wpAny X.mo X.A (f (.int i t) (.int j u)) Q xs s) :
  OpR X f (rI C λi j=>.int (g i j)):=by
 intro pn s G H x y v u Q I e d h;obtain⟨i,j,rfl,rfl,k,q⟩:=h;obtain⟨t,rfl⟩:=e;obtain⟨t',rfl⟩:=d;exact a i j t t' s _ _ k ⟨.int (g i j),H,I.tok _,⟨_,rfl⟩,q⟩
def opI0{f:Value->Value->Sem Value}{g:Int->Int->Int}(a:∀ (i j:Int) (t u:Tok) (s:Shared) (Q:Value->Shared->Prop) (xs:Value->Shared->Prop),Q (.int (g i j) s.toks) {s with toks:=s.toks+1}->wpAny X.mo X.A (f (.int i t) (.int j u)) Q xs s) :
  OpR X f (rI0 λi j=>.int (g i j)):=by
 intro pn s G H x y v u Q I e d h;obtain⟨i,j,rfl,rfl,q⟩:=h;obtain⟨t,rfl⟩:=e;obtain⟨t',rfl⟩:=d;exact a i j t t' s _ _ ⟨.int (g i j),H,I.tok _,⟨_,rfl⟩,q⟩
def opB0{f:Value->Value->Sem Value}{g:Int->Int->Bool}(a:∀ (i j:Int) (t u:Tok) (s:Shared) (Q:Value->Shared->Prop) (xs:Value->Shared->Prop),Q (.bool (g i j)) s->wpAny X.mo X.A (f (.int i t) (.int j u)) Q xs s) :
  OpR X f (rI0 λi j=>.bl (g i j)):=by
 intro pn s G H x y v u Q I e d h;obtain⟨i,j,rfl,rfl,q⟩:=h;obtain⟨t,rfl⟩:=e;obtain⟨t',rfl⟩:=d;exact a i j t t' s _ _ ⟨.bl (g i j),H,I,rfl,q⟩
def CPow(i j:Int):Prop:=0<=j/\j<=1000000/\i.natAbs<2 ^ 64
def Gi:OpR X (binaryOp .Add) (rI0 λi j=>.int (i+j)):=opI0 λ_ _ _ _ _ _ _ q=>add_int q
def Gb:OpR X (binaryOp .Sub) (rI0 λi j=>.int (i-j)):=opI0 λ_ _ _ _ _ _ _ q=>sub_int q
def Ot:OpR X (binaryOp .Mod) (rI (λ_ j=>j≠0) λi j=>.int (i.fmod j)):=opI λ_ _ _ _ _ _ _ a q=>mod_int' a q
def Gc:OpR X (binaryOp .Pow) (rI CPow λi j=>.int (i ^ j.toNat)):=opI λ_ _ _ _ _ _ _ a q=>pow_int_small a.1 a.2.1 a.2.2 q
def unI{f:Value->Sem Value}{g:Int->Int}(a:∀ (i:Int) (t:Tok) (s:Shared) (Q:Value->Shared->Prop) (xs:Value->Shared->Prop),Q (.int (g i) s.toks) {s with toks:=s.toks+1}->wpAny X.mo X.A (f (.int i t)) Q xs s) :
  UnR X f (rU λi=>.int (g i)):=by
 intro pn s G H x v Q I d h;obtain⟨i,rfl,q⟩:=h;obtain⟨t,rfl⟩:=d;exact a i t s _ _ ⟨.int (g i),H,I.tok _,⟨_,rfl⟩,q⟩
def B4:UnR X (unaryOp .USub) (rU λi=>.int (-i)):=unI λ_ _ _ _ _ q=>neg_int q
def M9(I:Inv X pn G H s)(q:Q (.bl k) H)(e:k=k'):EP X pn G Q (.bool k') s:=by
 subst e;exact⟨.bl k,H,I,rfl,q⟩
def z0q:OpR X (compareOp .Lt) (rI0 λi j=>.bl (decide (i<j))):=opB0 λ_ _ _ _ _ _ _ q=>lt_int q
def z0r:OpR X (compareOp .Gt) (rI0 λi j=>.bl (decide (j<i))):=opB0 λ_ _ _ _ _ _ _ q=>gt_int q
def z0s:OpR X (compareOp .GtE) (rI0 λi j=>.bl (decide (j<=i))):=opB0 λ_ _ _ _ _ _ _ q=>ge_int q
def W8:OpR X (compareOp .In) (λx y H Q=>∃i j,x=.str i/\y=.str j/\Q (.bl (!(Builtin.Str.occurrences j i 0 j.length 1).isEmpty)) H):=by
 intro pn s G H x y v u Q I d a h;obtain⟨i,j,rfl,rfl,q⟩:=h;obtain⟨t,rfl⟩:=d;obtain⟨t',rfl⟩:=a;exact in_str (M9 I q rfl)
def Gf:OpR X (compareOp .Is) (λx y H Q=>y=.non/\Q (.bl (decide (x=.non))) H):=by
 intro pn s G H x y v u Q I a d h;obtain⟨rfl,q⟩:=h;cases d;refine is_none_gen (M9 I q ?_);cases x <;> first
  |(cases a;rfl)
  |(obtain⟨t,rfl⟩:=a;rfl)
def Dc:OpR X (compareOp .IsNot) (λx y H Q=>y=.non/\Q (.bl (!decide (x=.non))) H):=by
 intro pn s G H x y v u Q I a d h;obtain⟨rfl,q⟩:=h;cases d;refine isnot_none_gen (M9 I q ?_);cases x <;> first
  |(cases a;rfl)
  |(obtain⟨t,rfl⟩:=a;rfl)
def OpR.or(h:OpR X f r)(h':OpR X f r'):OpR X f (λx y H Q=>r x y H Q\/r' x y H Q):=by
 intro pn s G H x y v u Q I d a q;rcases q with q|q
 .exact h pn s G H x y v u Q I d a q
 exact h' pn s G H x y v u Q I d a q
def uz(b:Expr)(h:autoParam (op≠.In) zSd)(h2:autoParam (op≠.NotIn) zSd):behindInMarks op b=false:=by
 have e1:(op==CmpOp.In)=false:=by cases op <;> first|rfl|exact absurd rfl h
 have e2:(op==CmpOp.NotIn)=false:=by cases op <;> first|rfl|exact absurd rfl h2
 cases b <;> simp[behindInMarks,e1,e2]
def D6(ho:OpR X (compareOp op) r)(k:PE X a ta)(j:PE X b tb)(g:behindInMarks op b=false):PE X (.Compare a [op] [b] pos) (tOp r ta tb):=by
 intro pn s G H Q I h;exact wpAny_Compare1 (binT k j I h λv u s2 x y H2 l e d q=>ho pn s2 G H2 x y v u Q l e d q) g
def z3l(t:TE):TT:=λG H Q=>t G H λx H'=>∃k,x=.bl k/\Q k H'
def Oc(ho:OpR X (compareOp op) r)(J:PE X a ta)(D:PE X b tb)(B:behindInMarks op b=false):PT X (.Compare a [op] [b] pos) (z3l (tOp r ta tb)):=by
 intro pn s G H Q I h;refine wpAny_isTrue_Compare1 (thn (J pn s G H _ I h) λv s1 ⟨x,H1,N,g,q⟩=>thn (D pn s1 G H1 _ N q) λu s2 ⟨y,H2,M,r2,l⟩ =>
  thn (ho pn s2 G H2 x y v u _ M g r2 l) λc R ⟨z,O,L,d,k,e,j⟩=>?_) B
 subst e;cases d;exact zdG ⟨O,L,j⟩
def TruV(K:W.Frag)(x:V)(H:Hp)(k:Bool):Prop :=
 match x with
 |.non=>k=false
 |.bl b=>k=b
 |.int i=>k=(i != 0)
 |.str y=>y.length<=sizeLine/\k=((y.length:Int) != 0)
 |.byt y=>y.size<=sizeLine/\k=((y.size:Int) != 0)
 |.ref p=>(∃E,SqL K H p E/\k=!E.isEmpty)\/(∃E,SqT K H p E/\k=!E.isEmpty)\/∃kvs,H p=some (.dK kvs)/\k=!kvs.isEmpty
 |_=>False
def Qn{κ:Type}{kvs:List (κ×V)}{vs:List (κ×Value)}(r:KV kvs vs):(!vs.isEmpty)=!kvs.isEmpty:=by
 cases r <;> rfl
def Zt{E:List V}{its:List Value}(r:Vals E its):(!its.toArray.isEmpty)=!E.isEmpty:=by
 cases r <;> simp
def ku:(sizeLine:Nat)<2 ^ 63:=by rw[zbC];decide
def B6:TruR X (λx H Q=>∃k,TruV X.K x H k/\Q k H):=by
 intro pn s G H x v Q I g h;obtain⟨k,e,q⟩:=h;have hl:=ku;have B:sizeLine=16777216:=zbC;cases x with
 |non =>
  cases g
  have a:k=false:=e;subst a;exact truthy_none ⟨H,I,q⟩
 |bl b =>
  cases g
  have a:k=b:=e;subst a;exact zdG ⟨H,I,q⟩
 |int i =>
  obtain⟨t,rfl⟩:=g;have a:k=(i != 0):=e;subst a;exact PySem.P.truthy_int ⟨H,I,q⟩
 |str y =>
  obtain⟨t,rfl⟩:=g;obtain⟨u,a⟩:y.length<=sizeLine/\k=((y.length:Int) != 0):=e;subst a;exact PySem.P.truthy_str aD ⟨H,I.tok _,q⟩
 |byt y =>
  obtain⟨t,rfl⟩:=g;obtain⟨u,a⟩:y.size<=sizeLine/\k=((y.size:Int) != 0):=e;subst a;exact W.truthy_bytes aD ⟨H,I.tok _,q⟩
 |ref p =>
  cases g
  have a:(∃E,SqL X.K H p E/\k=!E.isEmpty)\/(∃E,SqT X.K H p E/\k=!E.isEmpty)\/∃kvs,H p=some (.dK kvs)/\k=!kvs.isEmpty:=e;rcases a with⟨E,j,a⟩|⟨E,j,a⟩|⟨kvs,j,a⟩
  .subst a;obtain⟨its,r,pl,l⟩:=I.list j;have d:=r.length;exact wpAny_truthy_list pl.isList (by simp only[zap];lia) ⟨H,I.tok _,by rw[Zt r];exact q⟩
  .subst a;obtain⟨its,r,pl,l⟩:=I.tuple j;have d:=r.length;exact truthy_tuple pl (by simp only[zap];lia) ⟨H,I.tok _,by rw[Zt r];exact q⟩
  subst a;obtain⟨l,z,vs,r,m⟩:kvs.length<=sizeLine/\(p==sysModules)=false/\∃vs,KV kvs vs/\s.heap.DictOf (yq X.prog X.w) p vs:=I.hok p _ j;have d:kvs.length=vs.length:=zfW r;exact wpAny_truthy_dict z m aD ⟨H,I.tok _,by rw[Qn r];exact q⟩
 |_=>exact(show False from e).elim
def Kc(j:PE X a ta)(g:∀ whole,isTrue a X.env whole=(do let v <- whole;standAt a.pos;holding [v] (truthy v))) :
  PT X a (λG H Q=>ta G H λx H'=>∃k,TruV X.K x H' k/\Q k H'):=by
 intro pn s G H Q I h;exact isTrue_plain (thn (j pn s G H _ I h) λv s1 ⟨x,H1,l,d,e⟩=>B6 pn s1 G H1 x v Q l d e) (g _)
def Qa:OpR X (binaryOp .Add) (λx y H Q=>∃i j,x=.str i/\y=.str j/\i.length+j.length<=sizeLine/\Q (.str (i++j)) H):=by
 intro pn s G H x y v u Q I d a h;obtain⟨i,j,rfl,rfl,e,q⟩:=h;obtain⟨t,rfl⟩:=d;obtain⟨t',rfl⟩:=a;exact add_str (λt' tk=>⟨.str (i++j),H,I.tok _,⟨_,rfl⟩,q⟩) e
def sj{x:V}{us:List Value}(r:Vals [x] us):∃u,us=[u]/\RelV x u:=by
 cases r with
 |cons r1 r2=>cases r2;exact⟨_,rfl,r1⟩
def Lg(r:Vals [x,y] us):∃u w',us=[u,w']/\RelV x u/\RelV y w':=by
 cases r with
 |cons r1 r2 =>
  cases r2 with
  |cons r3 r4=>cases r4;exact⟨_,_,rfl,r1,r3⟩
def Mu(a:X.calm=true):ui X (.builtin "max") (λE H Q=>∃i j,E=[.int i,.int j]/\Q (.int (if j > i then j else i)) H):=by
 intro pn s G H E us Q I r h;obtain⟨i,j,rfl,q⟩:=h;obtain⟨u,d,rfl,⟨t,rfl⟩,⟨t',rfl⟩⟩:=Lg r;refine max_two_ints (I.ok.hd a) λh' tk k=>⟨_,H,I.kept k,?_,q⟩;by_cases hj:j > i
 .rw[zaK hj,zaK hj];exact⟨_,rfl⟩
 rw[zaI hj,zaI hj];exact⟨_,rfl⟩
def Mx:ui X (.type "int") (λE H Q=>(∃i,E=[.int i]/\Q (.int i) H)\/∃k,E=[.bl k]/\Q (.int (if k then 1 else 0)) H):=by
 intro pn s G H E us Q I r h;rcases h with⟨i,rfl,q⟩|⟨k,rfl,q⟩
 .obtain⟨u,rfl,t,rfl⟩:=sj r;exact call_int_int ⟨.int i,H,I,⟨_,rfl⟩,q⟩
 obtain⟨u,rfl,a⟩:=sj r;cases a;exact call_int_bool ⟨.int (if k then 1 else 0),H,I.tok _,⟨_,rfl⟩,q⟩
end
structure ObjM(h:Heap)(x dx C:Addr)(mA:Str->Option Value):Prop where
 obj:h.get? x=some (W.instObj C dx)
 ns:h.Ns1 dx mA
 ne:dx≠x
def N4{h:Heap}{mA:Str->Option Value}(n:h.Ns1 dx mA):∃od,h.get? dx=some od/\∀name,W.lookIn name od=some (mA name):=by
 obtain⟨o,es,ep,ho,l,k,_,j⟩:=n;refine⟨o,ho,λname=>?_⟩;have e:=j name;unfold nsFind findBy at e;rw[<- Array.find?_toList]at e;unfold W.lookIn;rw[l]
 dsimp only
 split
 .rename_i y q;rw[q]at e;exact zbO some e
 rename_i q;rw[q]at e;have a:es.toList.any (·.refKey)=false:=by
  rw[List.any_eq_false];intro y g;obtain⟨z,t,d⟩:=k y (Array.mem_toList_iff.mp g);simp[DictEntry.refKey,d]
 have a':¬ es.toList.any (·.refKey)=true:=by rw[a];exact zaT
 rw[zaI a'];exact zbO some e
def ObjM.look(I:ObjM h x dx C mA):∃od,W.InstAt h x (W.instObj C dx) C (some od)/\∀name,W.lookIn name od=some (mA name) :=
 let ⟨od,ho,hl⟩:=N4 I.ns
 ⟨od,⟨I.obj,rfl,rfl,ho⟩,hl⟩
variable{prog:Program}{A:Around}{K:W.Frag}{x dx C f:Addr}{mA:Str->Option Value}{name:Str}{v:Value}
def C5(X:K.In s.heap)(I:ObjM s.heap x dx C mA)(g:W.plainGet K C name=true)(e:W.hasDictIn K C=true)(j:W.findIn K (.ref C) name=some none)(d:mA name=some v)(a:W.handedIn v=true)(h:Q v {s with toks:=s.toks+1}) :
  wpAny (model prog w) A (getAttr (.ref x) name expr) Q xs s:=by
 obtain⟨k,J,hl⟩:=I.look;exact W.get_value X J (W.plainGet_of g).1 (W.findObj_own e j rfl (by rw[hl,d])) a h
def Jg(X:K.In s.heap)(I:ObjM s.heap x dx C mA)(a:W.plainGet K C name=true)(j:W.findIn K (.ref C) name=some (some (.ref f)))(g:W.isFn K (.ref f)=true)(e:mA name=none)(h:Q (.ref f,[.ref x]) s) :
  wpAny (model prog w) A (getMethod (.ref x) name pl) Q xs s:=by
 obtain⟨d,J,hl⟩:=I.look;exact W.method_fn X J (W.plainGet_of a).1 (W.plainGet_of a).2 j (beq_iff_eq.mp g) (by show(W.lookIn name d).map (·.isSome)=some false;rw[hl,e];rfl) h
def E1(X:K.In s.heap)(I:ObjM s.heap x dx C mA)(z:W.findIn K (.ref C) "__setattr__" = some (some (.builtin "object.__setattr__")))(B:W.plainOver K C=true)(u:W.takerIn K C name=some none)(D:W.hasDictIn K C=true)(q:PySem.Within mA ns)(hsz:ns.length<=sizeLine)(h:∀ h',ObjM h' x dx C (λy=>if y=name then some v else mA y)->Heap.SameBut dx s.heap h'->Q () {s with heap:=h',toks:=s.toks+2}) :
  wpAny (model prog w) A (setAttr (.ref x) name v) Q xs s:=by
 obtain⟨N,J,hl⟩:=I.look;refine W.set_plain X J z (W.osa_open (s:={s with toks:=s.toks+1}) (r:=none) X J B u λb=>?_);obtain⟨R,G,j⟩:=W.any_some D;have l:s.heap.get? x=some ⟨.ref C,some dx,.plain,#[]⟩:=I.obj;refine zaa (zab (zaa (zaa (wpAny_loadPart l (zaa (W.Looks.here (s:={s with toks:=s.toks+1}) (W.looks_clsIn X G) ?_))))));rw[j];refine zab (a:=some dx) (zaa (zab (zaa ?_)));refine wpAny_nsSet1 (s:={s with toks:=s.toks+1}) I.ns λh' e d=>?_;obtain⟨O,L,M,g,hdD,k⟩:=e.count (PySem.Within.cons name v q);refine zaa (wpAny_lookBehind g (by rw[hdD];exact pastItsLine_dict (zak k (by rw[zLc];lia))) ?_)
 exact zab (h _ ⟨(d.2 _ (Ne.symm I.ne)).trans I.obj,e,I.ne⟩ d)
def Ku(X:K.In s.heap)(e:W.makesIn K C=true)(hi:W.findIn K (.ref C) "__init__" = some (some (.ref f)))(j:W.typeIn K (.ref f)=some (.type "function"))(h:codeAny (model prog w) (A.under (.builtin "type.__call__" ⟨.ref C::vs,kw⟩)) (.call (.ref f) ⟨.ref (s.z+1)::vs,kw⟩) (W.InitBack (s.z+1) R)
   {s with heap:=(s.heap.push W.emptyDict).push (W.instObj C s.z)}) :
  codeAny (model prog w) A (.call (.ref C) ⟨vs,kw⟩) R s:=by
 obtain⟨l,g,d,t,k⟩:=s;exact W.make_core (W.makes_of X e) (W.looks_findIn X hi) (λa=>W.bind_fn X a j) (.inl rfl) h
noncomputable def putF(f:Str)(v:V):List (Str×V)->List (Str×V)
 |[]=>[(f,v)]
 |(g,x)::r=>if g=f then(g,v)::r else(g,x)::putF f v r
theorem cj(f g:Str)(v:V):∀fs:List (Str×V),(putF f v fs).lookup g=if g=f then some v else fs.lookup g
 |[]=>by
  show List.lookup g [(f,v)]=_;by_cases h:g=f
  .have a:(g==f)=true:=beq_iff_eq.mpr h;simp only[List.lookup,a,zaK h]
  have a:(g==f)=false:=zbN.mpr h;simp only[List.lookup,a,zaI h]
 |(k,x)::r=>by
  have d:=cj f g v r;rw[show putF f v ((k,x)::r)=(if k=f then(k,v)::r else(k,x)::putF f v r) from rfl]
  by_cases hk:k=f
  .rw[zaK hk];by_cases h:g=k
   .have a:(g==k)=true:=beq_iff_eq.mpr h;simp only[List.lookup,a,zaK (h.trans hk)]
   have a:(g==k)=false:=zbN.mpr h;simp only[List.lookup,a,zaI (λe:g=f=>h (e.trans hk.symm))]
  rw[zaI hk];by_cases h:g=k
  .have a:(g==k)=true:=beq_iff_eq.mpr h;simp only[List.lookup,a,zaI (λe:g=f=>hk (h.symm.trans e))]
  have a:(g==k)=false:=zbN.mpr h;simp only[List.lookup,a];exact d
theorem cu(f:Str)(v:V):∀fs:List (Str×V),f∈(putF f v fs).map (·.1)/\∀g,g∈fs.map (·.1)->g∈(putF f v fs).map (·.1)
 |[]=>⟨by simp[putF],λg h=>by simp at h⟩
 |(k,x)::r=>by
  obtain⟨i1,i2⟩:=cu f v r;rw[show putF f v ((k,x)::r)=(if k=f then(k,v)::r else(k,x)::putF f v r) from rfl]
  by_cases hk:k=f
  .rw[zaK hk];subst hk;exact⟨by simp,λg h=>by simpa using h⟩
  rw[zaI hk];refine⟨?_,λg h=>?_⟩
  .rw[zaB];exact zal _ i1
  rw[zaB]at h ⊢;rcases zam.mp h with e|e
  .exact zam.mpr (.inl e)
  exact zal _ (i2 g e)
theorem ck(f:Str)(v:V):∀fs:List (Str×V),(putF f v fs).length<=fs.length+1
 |[]=>by simp[putF]
 |(k,x)::r=>by
  have a:=ck f v r;rw[show putF f v ((k,x)::r)=(if k=f then(k,v)::r else(k,x)::putF f v r) from rfl]
  by_cases hk:k=f
  .rw[zaK hk,zLc,zLc];lia
  rw[zaI hk,zLc,zLc];lia
def RelO.some_of{v:V}{o:Option Value}(r:RelO (some v) o):∃u,o=some u/\RelV v u:=by
 cases o with
 |none=>exact(show False from r).elim
 |some u=>exact⟨u,rfl,r⟩
def RelO.none_of{o:Option Value}(r:RelO none o):o=none:=by
 cases o with
 |none=>rfl
 |some u=>exact(show False from r).elim
def Np{v:V}(r:RelV v u):W.handedIn u=true:=by
 cases v with
 |non=>cases (show u=Value.none from r);rfl
 |bl b=>cases (show u=Value.bool b from r);rfl
 |int i=>obtain⟨t,e⟩:=(show ∃t,u=Value.int i t from r);cases e;rfl
 |str x=>obtain⟨t,e⟩:=(show ∃t,u=Value.str x t from r);cases e;rfl
 |byt b=>obtain⟨t,e⟩:=(show ∃t,u=Value.bytes b t from r);cases e;rfl
 |flt b=>obtain⟨t,e⟩:=(show ∃t,u=Value.float b t from r);cases e;rfl
 |ref a=>cases (show u=Value.ref a from r);rfl
 |ty n=>cases (show u=Value.type n from r);rfl
variable{fs:List (Str×V)}
def X2(g:HOk P w H h)(e:H a=some (.ins C dx fs)):∃mA,ObjM h a dx C mA/\(∀f,RelO (fs.lookup f) (mA f))/\PySem.Within mA (fs.map (·.1))/\fs.length<=1000/\H dx=some (.own a):=by
 obtain⟨d,z,ne,j,mA,n,r,q⟩:=(show wk P w H h a (.ins C dx fs) from g a _ e);exact⟨mA,⟨j,n,ne⟩,r,q,z,d⟩
structure Cls(K:W.Frag)(C:Addr):Prop where
 pg:W.plainGet K C Str.empty=true
 hd:W.hasDictIn K C=true
 po:W.plainOver K C=true
 sa:W.findIn K (.ref C) "__setattr__" = some (some (.builtin "object.__setattr__"))
def Cls.get{K:W.Frag}{C:Addr}(c:Cls K C)(f:Str):W.plainGet K C f=true:=c.pg
def f6(K:W.Frag)(C:Addr)(f:Str):Prop:=W.findIn K (.ref C) f=some none
def f6.taker{K:W.Frag}{C:Addr}{f:Str}(n:f6 K C f):W.takerIn K C f=some none:=by
 unfold W.takerIn;rw[show W.findIn K (.ref C) f=some none from n];rfl
structure Meth(K:W.Frag)(C:Addr)(m:Str)(f:Addr):Prop where
 at_:W.findIn K (.ref C) m=some (some (.ref f))
 fn:W.isFn K (.ref f)=true
 kp:W.keepIn K (.ref f)=true
variable{f:Str}{v:V}
def Qq(I:Inv X pn G H s)(e:H a=some (.ins C dx fs))(c:Cls X.K C)(n:f6 X.K C f)(l:fs.lookup f=some v)(h:∀ u s',Inv X pn G H s'->RelV v u->Q u s'):wpAny X.mo A (getAttr (.ref a) f b) Q xs s:=by
 obtain⟨mA,O,r,_,_,_⟩:=X2 I.hok e;obtain⟨u,hu,d⟩:=RelO.some_of (v:=v) (o:=mA f) (by rw[<- l];exact r f)
 exact C5 I.kIn O (c.get f) c.hd n hu (Np d) (h u _ (I.tok _) d)
def Zu(I:Inv X pn G H s)(e:H a=some (.ins C dx fs))(c:Cls X.K C)(k:Meth X.K C m g)(l:fs.lookup m=none)(h:Q (.ref g,[.ref a]) s):wpAny X.mo A (getMethod (.ref a) m pl) Q xs s:=by
 obtain⟨mA,O,r,_,_,_⟩:=X2 I.hok e;have d:mA m=none:=RelO.none_of (by rw[<- l];exact r m)
 exact Jg I.kIn O (c.get m) k.at_ k.fn d h
def Q4(I:Inv X pn G H s)(e:H a=some (.ins C dx fs))(c:Cls X.K C)(n:f6 X.K C f)(hl:fs.length<1000)(k:RelV y u)(h:∀ s',Inv X pn G (upd H a (.ins C dx (putF f y fs))) s'->Q () s'):wpAny X.mo A (setAttr (.ref a) f u) Q xs s:=by
 obtain⟨mA,O,r,d,_,ho⟩:=X2 I.hok e;have l:(fs.map (·.1)).length<=sizeLine:=by rw[zLm,zbC];lia
 refine E1 I.kIn O c.sa c.po n.taker c.hd d l λh' O' j=>h _ ?_;have hd:∃o,h'.get? dx=some o:=by obtain⟨o,_,_,e',_⟩:=O'.ns;exact ⟨o,e'⟩
 refine I.write (x:=a) (e:=dx) (by rw[e];exact zcV) (.inr ho) (λb q B z=>(j.2 b B).trans z) hd ?_
 refine⟨by rw[y0 O.ne];exact ho,?_,O.ne,O'.obj,_,O'.ns,λg=>?_,λg v=>?_⟩
 .have:=ck f y fs;lia
 .show RelO ((putF f y fs).lookup g) (if g=f then some u else mA g)
  rw[cj];by_cases q:g=f
  .rw[zaK q,zaK q];exact k
  rw[zaI q,zaI q];exact r g
 by_cases q:g=f
 .rw[q];exact(cu f y fs).1
 refine(cu f y fs).2 g (d g λz=>v ?_);show(if g=f then some u else mA g)=none
 rw[zaI q];exact z
def Inv.made(I:Inv X pn G H s):Inv X pn G (upd (upd H s.z (.own (s.z+1))) (s.z+1) (.ins C s.z []))
  {s with heap:=(s.heap.push W.emptyDict).push (W.instObj C s.z)}:=by
 have e1:(s.heap.push W.emptyDict).get? s.z=some W.emptyDict:=zad s.heap rfl;have e2:((s.heap.push W.emptyDict).push (W.instObj C s.z)).get? (s.z+1)=some (W.instObj C s.z):=by
  have:=zad (s.heap.push W.emptyDict) (o:=W.instObj C s.z) rfl
  rwa [zcR]at this
 have j:(s.heap.push W.emptyDict).Ns s.z (λ_=>none):=⟨W.emptyDict,#[],_,e1,rfl,(λe g=>absurd g aE),λ_=>rfl⟩
 have k:=I.laid (a:=s.z) (o:=.own (s.z+1)) (h':=s.heap.push W.emptyDict) (t':=s.toks) (λb u q=>zac _ q) (zaj _) ⟨_,e1⟩;refine k.laid (a:=s.z+1) (o:=.ins C s.z []) (t':=s.toks) (λb u q=>zac _ q) (Nat.le_of_eq (zcR _ _)) ?_;have ne:s.z≠s.z+1:=zaL (zbP _);refine⟨by rw[y0 ne,zu],zbW _,ne,e2,λ_=>none,(Heap.Ns1.of_empty j).at λo q=>zac _ q,λ_=>zcV,λy d=>absurd rfl d⟩
def Cs(d:attributeBase e f env (eval e env)=eval e env)(h:wpAny (model prog w) A (eval e env) (λo a=>wpAny (model prog w) A (getAttr o f true) Q xs a) xs s):wpAny (model prog w) A (eval (.Attribute e f pos) env) Q xs s :=
 Attribute_any_ h (by rw[arm_eval_Attribute,d])
def tFld(K:W.Frag)(ta:TE)(f:Str):TE:=λG H Q=>ta G H λx H1=>∃a C dx fs v,x=.ref a/\H1 a=some (.ins C dx fs)/\Cls K C/\f6 K C f/\fs.lookup f=some v/\Q v H1
def sFld(K:W.Frag)(ta tv:TE)(f:Str):TS:=λD G H=>tv G H λy H1=>ta G H1 λx H2=>∃a C dx fs,x=.ref a/\H2 a=some (.ins C dx fs)/\Cls K C/\f6 K C f/\fs.length<1000 /\
 D.nx G (upd H2 a (.ins C dx (putF f y fs)))
section
variable{o e value:Expr}{pos pos':Pos}{ta tv:TE}
def G9(j:PE X e ta)(k:attributeBase e f X.env (eval e X.env)=eval e X.env):PE X (.Attribute e f pos) (tFld X.K ta f):=by
 intro pn s G H Q I h;refine Cs k (thn (j pn s G H _ I h) λu s1 Zh=>?_);obtain⟨x,H1,z,d,a,C,dx,fs,v,ex,r,c,n,l,q⟩:=Zh;subst ex;obtain rfl:u=Value.ref a:=d;exact Qq z r c n l λB s2 y g=>⟨v,H1,y,g,q⟩
def G6(v:PE X o ta)(k:PE X value tv)(r:swapsWith value (some (.Attribute o f pos')) pos.line X.env=pure false):PS X (.Assign [.Attribute o f pos'] value pos) (sFld X.K ta tv f):=by
 intro pn s G H D I h;refine plainObj_wpAny_Assign_Attribute (thn (k pn s G H _ I h) λu s1 ⟨y,H1,L,d,q⟩=>thn (v pn s1 G H1 _ L q) λj s2 Zh=>?_) r;obtain⟨x,H2,J,e,a,C,dx,fs,ex,z,c,n,l,g⟩:=Zh;subst ex;obtain rfl:j=Value.ref a:=e;exact Q4 J z c n l d λM B=>⟨G,_,B,g⟩
end
variable{Q:Value->Shared->Prop}{c:Value}{b:Bool}
inductive TyOf(K:W.Frag)(H:Hp):V->Value->Prop where
 |non:TyOf K H .non (.type "NoneType")
 |bl (x:Bool):TyOf K H (.bl x) (.type "bool")
 |int (i:Int):TyOf K H (.int i) (.type "int")
 |str (x:Str):TyOf K H (.str x) (.type "str")
 |flt (x:UInt64):TyOf K H (.flt x) (.type "float")
 |lst {a:Addr} {E:List V} (e:H a=some (.lst E)):TyOf K H (.ref a) (.type "list")
 |frz {a:Addr} {o:Obj} {E:List V} (e:H a=some (.frz o (.lst E))):TyOf K H (.ref a) (.type "list")
 |tup {a:Addr} {E:List V} (e:H a=some (.tup E)):TyOf K H (.ref a) (.type "tuple")
 |dK {a:Addr} {kvs:List (Key×V)} (e:H a=some (.dK kvs)):TyOf K H (.ref a) (.type "dict")
 |dT {a:Addr} {kvs:List (List Key×V)} (e:H a=some (.dT kvs)):TyOf K H (.ref a) (.type "dict")
 |ins {a C dx:Addr} {fs:List (Str×V)} (e:H a=some (.ins C dx fs)) (cl:Cls K C) (ha:W.findIn K (.ref C) "__class__" = some (some (.builtin "object.__class__")))
   (hn:W.specialIn K (.builtin "object.__class__") "__get__" = some (some (.builtin "getset_descriptor.__get__"))) (htk:W.takesIn K (.builtin "object.__class__")=some true)
   (hm:W.mroIn K C (.type "object")=some true):TyOf K H (.ref a) (.ref C)
def t6{x:V}(I:Inv X pn G H s)(d:RelV x u)(ty:TyOf X.K H x t)(e:W.kitOne X.K t c=some b)(h:∀ tk,Q (.bool b) {s with toks:=tk}) :
  wpAny X.mo A (call (.builtin "isinstance") [u,c]) Q xs s:=by
 cases ty with
 |non=>cases (show u=Value.none from d);exact zeE W.kitx_none I.kIn zcV e nofun h
 |bl y=>cases (show u=Value.bool y from d);exact zeE W.kitx_bool I.kIn zcV e nofun h
 |int i=>obtain⟨t,q⟩:=(show ∃t,u=Value.int i t from d);cases q;exact zeE W.kitx_int I.kIn zcV e nofun h
 |str y=>obtain⟨t,q⟩:=(show ∃t,u=Value.str y t from d);cases q;exact zeE W.kitx_str I.kIn zcV e nofun h
 |flt y=>obtain⟨t,q⟩:=(show ∃t,u=Value.float y t from d);cases q;exact zeE W.kitx_float I.kIn zcV e nofun h
 |@lst a E ea =>
  cases (show u=Value.ref a from d)
  obtain⟨_,_,n,_,h1⟩:=(show wk X.prog X.w H s.heap a (.lst E) from I.hok a _ ea);exact zeE W.kitx_list I.kIn ⟨_,h1,rfl⟩ e nofun h
 |@frz a ob E ea =>
  cases (show u=Value.ref a from d)
  obtain⟨_,_,_,n,_,h1⟩:=(show wk X.prog X.w H s.heap a (.frz ob (.lst E)) from I.hok a _ ea);exact zeE W.kitx_list I.kIn ⟨_,h1,rfl⟩ e nofun h
 |@tup a E ea =>
  cases (show u=Value.ref a from d)
  obtain⟨_,_,_,p⟩:=(show wk X.prog X.w H s.heap a (.tup E) from I.hok a _ ea);obtain⟨o,h1,h2,_⟩:=p.1;exact zeE W.kitx_tuple I.kIn ⟨o,h1,h2⟩ e nofun h
 |@dK a kvs ea =>
  cases (show u=Value.ref a from d)
  obtain⟨_,_,vs,_,p⟩:=(show wk X.prog X.w H s.heap a (.dK kvs) from I.hok a _ ea);obtain⟨o,es,ep,h1,h2,_⟩:=p;exact zeE W.kitx_dict I.kIn ⟨o,h1,h2.1⟩ e nofun h
 |@dT a kvs ea =>
  cases (show u=Value.ref a from d)
  obtain⟨_,_,E,_,o,es,ep,h1,h2,_⟩:=(show wk X.prog X.w H s.heap a (.dT kvs) from I.hok a _ ea);exact zeE W.kitx_dict I.kIn ⟨o,h1,h2.1⟩ e nofun h
 |@ins a C dx fs ea cl ha hn htk hm =>
  cases (show u=Value.ref a from d)
  obtain⟨mA,O,_⟩:=X2 I.hok ea;obtain⟨g,J,_⟩:=O.look;exact zeE (W.kitx_own (cl.get _) cl.hd ha hn htk hm) I.kIn J e nofun h
structure Room(k:Nat)(A:Around):Prop where
 hd:A.handled=none
 dp:A.depth+3*k+5<recursionLimit
 un:A.units+16*k+200<cLine
def Room.mono{j k:Nat}{A:Around}(r:Room k A)(h:j<=k):Room j A:=⟨r.hd,by have:=r.dp;lia,by have:=r.un;lia⟩
theorem Room.d{k k2:Nat}{A:Around}(h:Room k2 A)(e:k<=k2:=by lia):Room k A:=h.mono e
theorem Room.e{k a:Nat}{A:Around}(h:Room a A)(e:Nat.ble k a=true):Room k A:=h.mono (zaD e)
theorem Room.deeper{k:Nat}{A:Around}(r:Room (k+1) A)(env:Env):Room k (A.deeper env) :=
 ⟨r.hd,by have:=r.dp;show A.depth+1+3*k+5<_;lia,by have:=r.un;show A.units+3+16*k+200<_;lia⟩
def Qg{A:Around}{us:List Value}{a:List (Str×Value)}:(A.under (.builtin "type.__call__" ⟨.ref C::us,a⟩)).depth=A.depth+1:=by
 first|rfl|simp[Around.under,Code.weight,Code.isCreation,Code.isGuard,Code.isCaller,Code.frames,Code.isFrame,guardIds]
def Qf{A:Around}{us:List Value}{a:List (Str×Value)}:(A.under (.builtin "type.__call__" ⟨.ref C::us,a⟩)).units=A.units+1:=by
 first|rfl|simp[Around.under,Code.cUnits,Code.frames,Code.isFrame]
def Room.make{k:Nat}{A:Around}(r:Room (k+1) A)(C:Addr)(us:List Value)(a:List (Str×Value)):Room k (A.under (.builtin "type.__call__" ⟨.ref C::us,a⟩)) :=
 ⟨r.hd,by have:=r.dp;rw[Qg];lia,by have:=r.un;rw[Qf];lia⟩
theorem Room.depth{k:Nat}{A:Around}(r:Room k A):A.depth<recursionLimit:=by have:=r.dp;lia
theorem Room.units{k:Nat}{A:Around}(r:Room k A):A.units+64<cLine:=by have:=r.un;lia
def tNil:TA:=λ_ H Q=>Q [] H
def Q2(ta:TE)(a:TA):TA:=λG H Q=>ta G H λx H1=>a G H1 λE H2=>Q (x::E) H2
section
variable{e:Expr}{es:List Expr}{te:TE}{t:TA}{pos:Pos}
def uc:PA X [] tNil:=λ_ _ _ _ H Q I h=>Calls.spliced_nil ⟨[],H,I,.nil,h⟩
abbrev S_(X:Cx)(e:Expr)(es:List Expr):Prop:=starEach (e::es) X.env=(false,eval e X.env)::starEach es X.env
abbrev B_(X:Cx)(es:List Expr)(p:Pos):Prop:=(backTo p (starEach es X.env)).any (·.1)=false
def wg(k:PE X e te)(hr:PA X es t)(j:autoParam (S_ X e es) zSr):PA X (e::es) (Q2 te t):=by
 intro pos pn s G H Q I h;rw[j];show wpAny _ _ (spliced ((false,eval e X.env)::backTo pos (starEach es X.env))) _ _ s;refine Calls.spliced_cons (thn (k pn s G H _ I h) λu s1 Zh=>?_);obtain⟨x,H1,q,a,g⟩:=Zh;exact thn (hr pos pn s1 G H1 _ q g) λus s2 ⟨E,H2,l,r2,d⟩=>⟨x::E,H2,l,.cons a r2,d⟩
def tTup(t:TA):TE:=λG H Q=>t G H λE H1=>E.length<=sizeLine/\∀p,H1 p=none->Q (.ref p) (upd H1 p (.tup E))
def tLst(t:TA):TE:=λG H Q=>t G H λE H1=>E.length<=sizeLine/\∀p,H1 p=none->Q (.ref p) (upd H1 p (.lst E))
def Ol {x1} (h:PA X es t):PE X (.Tuple es x1 pos) (tTup t):=by
 intro pn s G H Q I d;refine wpAny_Tuple_spliced (thn (h pos pn s G H _ I d) λus s1 ⟨E,H1,a,r,z,q⟩=>⟨by rw[<- r.length];exact z,?_⟩)
 have g:H1 s1.z=none:=a.hok.fresh (zaj _);refine⟨.ref s1.z,upd H1 s1.z (.tup E),a.laid (t':=s1.toks) (λb u e=>zac _ e) (zaj _) ?_,rfl,q _ g⟩;exact⟨z,us,r,⟨_,zad _ rfl,rfl,_,rfl⟩,_,zad _ rfl,rfl⟩
def G8(h:PA X es t):PE X (.List es pos) (tLst t):=by
 intro pn s G H Q I d;refine wpAny_List_spliced (thn (h pos pn s G H _ I d) λus s1 ⟨E,H1,a,r,z,q⟩=>⟨by rw[<- r.length];exact z,?_⟩)
 have g:H1 s1.z=none:=a.hok.fresh (zaj _);refine⟨.ref s1.z,upd H1 s1.z (.lst E),a.laid (t':=s1.toks) (λb u e=>zac _ e) (zaj _) ?_,rfl,q _ g⟩;exact⟨z,us,0,r,zad _ rfl⟩
end
abbrev Sp:=List V->Hp->VK->XK->Prop
abbrev CXT:=List Env->Hp->Shared->XK->Value->Shared->Prop
structure Env0(P:Program)(w:World)(K:W.Frag)(mg:Str->Option Value)(base:Heap)(A:Around)(outer:List Env)(s:Shared)(H:Hp):Prop where
 frames:A.frames=some outer
 mod:Mod K mg base
 bs:∀b o,base.get? b=some o->s.heap.get? b=some o/\H b=none
 bsz:base.objs.size<=s.z
 funs:s.heap.FunFrames base outer
 frf:∀b∈frs outer,H b=none
 hok:HOk P w H s.heap
 bare:AllBare s.gens
def CE(outer:List Env)(P:Program)(w:World)(H:Hp)(s:Shared)(Q:VK)(u:Value)(s':Shared):Prop :=
 ∃v H',s'.os=s.os/\AllBare s'.gens/\Un (frs outer) [] H H' s.heap s'.heap/\HOk P w H' s'.heap/\RelV v u/\Q v H'
def CR(CX:CXT)(outer:List Env)(P:Program)(w:World)(H:Hp)(s:Shared)(Q:VK)(xs:XK)(r:Result)(s':Shared):Prop :=
 match r with
 |.ok (.ret u)=>CE outer P w H s Q u s'
 |.ok _=>False
 |.error e=>CX outer H s xs e s'
structure FnOk(P:Program)(w:World)(K:W.Frag)(mg:Str->Option Value)(base:Heap)(CX:CXT)(k:Nat)(f:Addr)(fd:FuncData)(ps:List Str)(sp:Sp):Prop where
 len:∀vs H Q xs,sp vs H Q xs->vs.length=ps.length
 run:∀(A:Around)(outer:List Env)(s:Shared)(H:Hp)(args:Args)(us:List Value)(vs:List V)(Q:VK)(xs:XK),Room k A->Env0 P w K mg base A outer s H->BindsTo s fd args (ps.zip us)->Vals vs us->sp vs H Q xs ->
  codeAny (model P w) A (.call (.ref f) args) (CR CX outer P w H s Q xs) s
def Env0.make{P:Program}{w:World}{K:W.Frag}{mg:Str->Option Value}{base:Heap}{A:Around}{outer:List Env}{s:Shared}{H:Hp}(e:Env0 P w K mg base A outer s H)(C:Addr)(us:List Value)(a:List (Str×Value)) :
  Env0 P w K mg base (A.under (.builtin "type.__call__" ⟨.ref C::us,a⟩)) outer s H:=⟨by first|exact e.frames|(simpa [Around.under,Code.envs,Code.isFrame,pushEnvs] using e.frames),e.mod,e.bs,e.bsz,e.funs,e.frf,e.hok,e.bare⟩
variable{s':Shared}
def Inv.env0(I:Inv X pn G H s):Env0 X.prog X.w X.K X.mg X.base X.A X.stack s H :=
 ⟨I.ok.frames,I.ok.mod,I.bs,zak I.ok.bsz I.sz,I.stack,I.stkFree,I.hok,I.bare⟩
def Inv.after{Q:VK}(I:Inv X pn G H s)(h:CE X.stack X.prog X.w H s Q u s'):EP X pn G Q u s':=by
 obtain⟨v,H',os,a,un,j,r,q⟩:=h;obtain⟨k,g,d,t,e⟩:=s';obtain rfl:e=s.os:=os;exact⟨v,H',I.call (h':=k) (g':=g) (d':=d) (t':=t) (ch:=[]) un j a (λb z=>absurd z aE),r,q⟩
def Bv(sp:Sp)(dvs:List V)(xs:XK)(t:TA):TE:=λG H Q=>t G H λvs H1=>sp (vs++dvs) H1 Q xs
def Lo(C:Addr)(m:Str)(sp:Sp)(dvs:List V)(xs:XK)(ta:TE)(t:TA):TE:=λG H Q=>ta G H λx H1=>∃a dx fs,x=.ref a/\H1 a=some (.ins C dx fs)/\fs.lookup m=none /\
 t G H1 λvs H2=>sp (x::(vs++dvs)) H2 Q xs
def Y9(C:Addr)(sp:Sp)(dvs:List V)(xs:XK)(t:TA):TE:=λG H Q=>t G H λvs H1=>∀x dx,H1 x=none->H1 dx=none->dx≠x ->
 sp (.ref x::(vs++dvs)) (upd (upd H1 dx (.own x)) x (.ins C dx [])) (λv H2=>v=.non/\Q (.ref x) H2) xs
def uj(K:W.Frag)(fd:FuncData)(ps:List Str)(S:List Value):Prop :=
 ∀(s:Shared)(us:List Value),K.In s.heap->(us++S).length=ps.length->BindsTo s fd ⟨us,[]⟩ (ps.zip (us++S))
def uj.all{K:W.Frag}{fd:FuncData}{ps:List Str}(h:∀ us:List Value,us.length=ps.length->bindArgs fd ⟨us,[]⟩=pure (ps.zip us)):uj K fd ps []:=λs us _ hl=>by
 rw[zbT]at hl ⊢;exact .of_eq (h us hl)
def bw(CX:CXT)(X:Cx)(xs:XK):Prop:=∀(pn:List (Addr×Obj))(G:St)(H:Hp)(s:Shared)(e:Value)(s':Shared),Inv X pn G H s->CX X.stack H s xs e s'->X.xe e s'
section
variable{CX:CXT}{k:Nat}{f:Addr}{fd:FuncData}{ps:List Str}{sp:Sp}{dvs:List V}{S:List Value}{xs:XK}{x m:Str}{p pos apos:Pos}{e o:Expr}{es:List Expr}{ta:TE}{t:TA}
def S6{Q:VK}(F:FnOk X.prog X.w X.K X.mg X.base CX k f fd ps sp)(hr:Room k X.A)(j:uj X.K fd ps S)(g:Vals dvs S)(d:bw CX X xs)(I:Inv X pn G H s)(r:Vals vs us)(h:sp (vs++dvs) H Q xs):wpAny X.mo X.A (call (.ref f) us) (EP X pn G Q) X.xe s:=by
 have r2:Vals (vs++dvs) (us++S):=r.append g;have hl:(us++S).length=ps.length:=by rw[<- r2.length];exact F.len _ _ _ _ h
 refine wpAny_call (zfO (F.run X.A X.stack s H ⟨us,[]⟩ (us++S) (vs++dvs) Q xs hr I.env0 (j s us I.kIn hl) r2 h) λr s' a=>?_);cases r with
 |error e=>exact d pn G H s e s' I a
 |ok fl =>
  cases fl with
  |ret u=>exact I.after a
  |next=>exact False.elim a
  |brk=>exact False.elim a
  |cont=>exact False.elim a
def D7(F:FnOk X.prog X.w X.K X.mg X.base CX k f fd ps sp)(hr:Room k X.A)(v:Gl X x)(l:X.mg x=some (.ref f))(u:W.keepIn X.K (.ref f)=true)(B:uj X.K fd ps S)(z:Vals dvs S)(j:bw CX X xs)(D:PA X (e::es) t)(d:autoParam (D_ x) zSd)(y:autoParam (S_ X e es) zSr)(a:autoParam (B_ X es pos) zSr) :
  PE X (.Call (.Name x p) (e::es) [] pos) (Bv sp dvs xs t):=by
 intro pn s G H Q I h;refine zbR (Yt I v l ?_ d);refine W.callWith_K (h₀:=X.base) I.ok.mod.kin u (thn (D pos pn s G H _ I h) λus s1 ⟨vs,H1,g,r,q⟩=>⟨g.kIn,?_⟩) y a;exact S6 F hr B z j g r q
def Om{pl:Sem Bool}(M:PE X o ta)(c:Cls X.K C)(v:Meth X.K C m f)(F:FnOk X.prog X.w X.K X.mg X.base CX k f fd ps sp)(hr:Room k X.A)(O:uj X.K fd ps S)(N:Vals dvs S)(J:bw CX X xs)(R:PA X (e::es) t)(d:autoParam (S_ X e es) zSr)(g:autoParam (B_ X es pos) zSr)(L:autoParam (eval (.Call (.Attribute o m apos) (e::es) [] pos) X.env=(do
   let j <- eval o X.env
   standAt apos.atName
   let (f,first) <- holding [j] (getMethod j m pl)
   callWith pos f first (backTo pos (starEach (e::es) X.env)) (backToKw pos (keywordEach [] X.env)))) zSr) :
  PE X (.Call (.Attribute o m apos) (e::es) [] pos) (Lo C m sp dvs xs ta t):=by
 intro pn s G H Q I h;refine W.methodCall_KW (pl:=pl) (thn (M pn s G H _ I h) λu s1 Zh=>?_) L;obtain⟨x,H1,z,B,a,dx,fs,ex,V,l,q⟩:=Zh;subst ex;obtain rfl:u=Value.ref a:=B;refine Zu z V c v l ?_;refine W.callWith_K (first:=[.ref a]) (h₀:=X.base) I.ok.mod.kin v.kp (thn (R pos pn s1 G H1 _ z q) λus s2 ⟨vs,H2,y,r,D⟩=>⟨y.kIn,?_⟩) d g
 exact S6 (us:=.ref a::us) (vs:=.ref a::vs) F hr O N J y (.cons rfl r) D
def Sr{pl:Sem Bool}(y:PE X o ta)(c:Cls X.K C)(g:Meth X.K C m f)(F:FnOk X.prog X.w X.K X.mg X.base CX k f fd ps sp)(hr:Room k X.A)(B:uj X.K fd ps S)(z:Vals dvs S)(r:bw CX X xs)(v:autoParam (eval (.Call (.Attribute o m apos) [] [] pos) X.env=(do
   let e <- eval o X.env
   standAt apos.atName
   let (f,first) <- holding [e] (getMethod e m pl)
   callWith pos f first (backTo pos (starEach [] X.env)) (backToKw pos (keywordEach [] X.env)))) zSr) :
  PE X (.Call (.Attribute o m apos) [] [] pos) (Lo C m sp dvs xs ta tNil):=by
 intro pn s G H Q I h;refine W.methodCall_KW (pl:=pl) (thn (y pn s G H _ I h) λu s1 Zh=>?_) v;obtain⟨x,H1,d,j,a,dx,fs,ex,D,l,q⟩:=Zh;subst ex;obtain rfl:u=Value.ref a:=j;refine Zu d D c g l ?_;exact W.callWith_K0 (first:=[.ref a]) d.kIn g.kp (S6 (us:=[.ref a]) (vs:=[.ref a]) F hr B z r d (.cons rfl .nil) q)
structure Mk(K:W.Frag)(C f:Addr):Prop where
 makes:W.makesIn K C=true
 init:W.findIn K (.ref C) "__init__" = some (some (.ref f))
 fn:W.isFn K (.ref f)=true
 kp:W.keepIn K (.ref C)=true
def Lz{Q:VK}(M:Mk X.K C f)(F:FnOk X.prog X.w X.K X.mg X.base CX k f fd ps sp)(hr:Room (k+1) X.A)(z:uj X.K fd ps S)(y:Vals dvs S)(q:bw CX X xs)(I:Inv X pn G H s)(r:Vals vs us)(h:∀ x dx,H x=none->H dx=none->dx≠x->sp (.ref x::(vs++dvs)) (upd (upd H dx (.own x)) x (.ins C dx [])) (λv H2=>v=.non/\Q (.ref x) H2) xs) :
  wpAny X.mo X.A (call (.ref C) us) (EP X pn G Q) X.xe s:=by
 have g:=h (s.z+1) s.z (I.hok.fresh (Nat.le_succ _)) (I.hok.fresh (zaj _)) (zaL (zbP _));have d:=Inv.made (C:=C) I;have r2:Vals (V.ref (s.z+1)::(vs++dvs)) (Value.ref (s.z+1)::(us++S)):=.cons rfl (r.append y);have hl:(Value.ref (s.z+1)::us++S).length=ps.length:=by
  have e:=r2.length;rw[F.len _ _ _ _ g]at e;exact e.symm
 refine wpAny_call (Ku (f:=f) I.kIn M.makes M.init (beq_iff_eq.mp M.fn) (zfO (F.run _ X.stack _ _ ⟨Value.ref (s.z+1)::us,[]⟩ (Value.ref (s.z+1)::(us++S)) _ _ xs (hr.make C us [])
  (d.env0.make C us []) (z _ (Value.ref (s.z+1)::us) d.kIn hl) r2 g) λr s' a=>?_))
 cases r with
 |error e=>exact q pn G _ _ e s' d a
 |ok fl =>
  cases fl with
  |ret u =>
   obtain⟨v,H',D,j,B,l⟩:=d.after a;subst B;exact⟨j,⟨V.ref (s.z+1),H',D,rfl,l⟩⟩
  |next=>exact False.elim a
  |brk=>exact False.elim a
  |cont=>exact False.elim a
def D3(M:Mk X.K C f)(F:FnOk X.prog X.w X.K X.mg X.base CX k f fd ps sp)(hr:Room (k+1) X.A)(u:Gl X x)(l:X.mg x=some (.ref C))(z:uj X.K fd ps S)(y:Vals dvs S)(j:bw CX X xs)(B:PA X (e::es) t)(d:autoParam (D_ x) zSd)(v:autoParam (S_ X e es) zSr)(a:autoParam (B_ X es pos) zSr) :
  PE X (.Call (.Name x p) (e::es) [] pos) (Y9 C sp dvs xs t):=by
 intro pn s G H Q I h;refine zbR (Yt I u l ?_ d);refine W.callWith_K (h₀:=X.base) I.ok.mod.kin M.kp (thn (B pos pn s G H _ I h) λus s1 ⟨vs,H1,g,r,q⟩=>⟨g.kIn,?_⟩) v a;exact Lz M F hr z y j g r q
end
structure zn(N P:List Str)(sc:Scope):Prop where
 kind:sc.kind=.function
 co:sc.isCoroutine=false
 gen:sc.isGenerator=false
 nd:N.Nodup
 pre:N.take P.length=P
 par:∀x∈P,sc.names.lookup x=some .local\/sc.names.lookup x=some .cell
 nofree:∀y∈sc.names,y.2≠.free
theorem Vi{a:Str->Option NameKind}{x:Str}:∀{binds:List (Str×Value)}{m:Str->Option Value},(∀v,(x,v)∉binds)->bindL a binds m x=m x
 |[],_,_=>rfl
 |(n,v)::r,m,h=>by
  unfold bindL;rw[Vi λw d=>h w (zal _ d)];split
  .have:x≠n:=by rintro rfl;exact h v zao
   simp[this]
  rfl
theorem Vk{a:Str->Option NameKind}{x:Str}:∀{binds:List (Str×Value)}{m:Str->Option Value},(∀v,(x,v)∉binds)->bindC a binds m x=m x
 |[],_,_=>rfl
 |(n,v)::r,m,h=>by
  unfold bindC;rw[Vk λw d=>h w (zal _ d)];split
  .rfl
  have:x≠n:=by rintro rfl;exact h v zao
  simp[this]
theorem Vj{a:Str->Option NameKind}{x:Str}{v:Value}:∀{P:List Str}{vs:List Value}{i:Nat}{m:Str->Option Value},P.Nodup->P[i]?=some x->vs[i]?=some v->a x=some .local ->
  bindL a (P.zip vs) m x=some v
 |[],_,_,_,_,h,_,_=>by simp at h
 |_::_,[],_,_,_,_,h,_=>by simp at h
 |p::P,w::vs,0,m,nd,h1,h2,hk=>by
  simp at h1 h2;subst h1;subst h2;show bindL a ((p,w)::P.zip vs) m p=_;unfold bindL;rw[Vi λv d=>(zaQ.mp nd).1 (zdT d).1,zaK hk];simp
 |p::P,w::vs,i+1,m,nd,h1,h2,hk=>by
  show bindL a ((p,w)::P.zip vs) m x=_;unfold bindL;exact Vj (i:=i) (zaQ.mp nd).2 (by simpa using h1) (by simpa using h2) hk
theorem Vl{a:Str->Option NameKind}{x:Str}{v:Value}:∀{P:List Str}{vs:List Value}{i:Nat}{m:Str->Option Value},P.Nodup->P[i]?=some x->vs[i]?=some v->a x≠some .local ->
  bindC a (P.zip vs) m x=some v
 |[],_,_,_,_,h,_,_=>by simp at h
 |_::_,[],_,_,_,_,h,_=>by simp at h
 |p::P,w::vs,0,m,nd,h1,h2,hk=>by
  simp at h1 h2;subst h1;subst h2;show bindC a ((p,w)::P.zip vs) m p=_;unfold bindC;rw[Vk λv d=>(zaQ.mp nd).1 (zdT d).1,zaI hk];simp
 |p::P,w::vs,i+1,m,nd,h1,h2,hk=>by
  show bindC a ((p,w)::P.zip vs) m x=_;unfold bindC;exact Vl (i:=i) (zaQ.mp nd).2 (by simpa using h1) (by simpa using h2) hk
noncomputable def start(N:List Str)(vs:List V):St:=vs.map some++List.replicate (N.length-vs.length) none
noncomputable def cxOf(CX:CXT)(P:Program)(w:World)(K:W.Frag)(mg:Str->Option Value)(base:Heap)(N:List Str)(a:Str)(scope:Scope)(f:Addr)(g:Value)(A:Around)(outer:List Env)(s:Shared)(H:Hp)(xs:XK):Cx where
 prog:=P
 w:=w
 K:=K
 mg:=mg
 base:=base
 A:=A.deeper (envOfC a scope s.z f g)
 N:=N
 s₀:=s
 H_:=H
 env:=envOfC a scope s.z f g
 outer:=outer
 stack:=envOfC a scope s.z f g::outer
 ex:=[]
 calm:=true
 fn:=λ_=>true
 pn:=[]
 xe:=λe s'=>wpAny (model P w) (A.deeper (envOfC a scope s.z f g)) (leaving (envOfC a scope s.z f g) e) (λ_ d=>CX outer H s xs e d) (λj d=>CX outer H s xs j d) s'
def Rp{a:Scope}{n:Nat}{x:Str}(h:a.names.lookup x=some .cell):∃c,(cellsFrom n a.names []).lookup x=some c:=by
 have q:=W.cellsFrom_some a.names n [] (.inl h);exact Option.isSome_iff_exists.mp q
def Ng{CX:CXT}{P:Program}{w:World}{K:W.Frag}{mg:Str->Option Value}{base:Heap}{N ps:List Str}{d:Str}{scope:Scope}{f:Addr}{G:Value}{A:Around}{outer:List Env}{s s1:Shared}{H:Hp}{xs:XK}{us:List Value}{vs:List V}(ds:zn N ps scope)(M:A.handled=none)(g:Env0 P w K mg base A outer s H)(hl:vs.length=ps.length)(r:Vals vs us)(x:InCallC s s.z (bindL (envOfC d scope s.z f G).kindOf (ps.zip us) λ_=>none) (cellsFrom (s.z+1) scope.names []) (bindC (envOfC d scope s.z f G).kindOf (ps.zip us) λ_=>none) s1) :
  Inv (cxOf CX P w K mg base N d scope f G A outer s H xs) [] (start N vs) H s1:=by
 have L:ps.length<=N.length:=by have:=zbO List.length ds.pre;rw[zaX]at this;lia
 obtain⟨h1,tk,rfl,I⟩:=x.done;have j:∀b:Addr,b∉(cxOf CX P w K mg base N d scope f G A outer s H xs).ex:=λb z=>absurd (show b∈([]:List Addr) from z) aE
 refine⟨⟨g.mod,ds.kind,rfl,rfl,zaj _,λy z c h1 h2=>?_,λy l=>?_,λy c _ h=>?_,λ_=>M,Around.frames_deeper g.frames,.inr ⟨rfl,rfl⟩,λb z=>absurd z (j b),g.bs,g.bsz,λb _ _=>j b,λb z=>absurd z (j b),g.funs,g.frf⟩,
  rfl,g.bare,Un.kept I,⟨_,x.toInCall.ns,λi y v h1 h2 Q=>?_⟩,λy c h=>⟨_,x.cell y c h⟩,g.hok.fresh (zaj _),λy c h=>?_,λp D=>absurd (show p∈([]:List (Addr×Obj)) from D) aE,g.hok.kept I,?_⟩
 .exact name_of_addr x.apart (zcN h1) (zcN h2)
 .have l:scope.names.lookup y=some .cell\/scope.names.lookup y=some .free:=l;rcases l with l|l
  .exact Rp l
  exact absurd rfl (ds.nofree _ (zcN l))
 .exact Nat.le_of_lt (x.above y c (zcN h))
 .have hi:i<vs.length:=by
   unfold start at h2;by_cases hi:i<vs.length
   .exact hi
   rw[zaF (by simpa using hi)]at h2
   rw[zcE]at h2;split at h2 <;> cases h2
  have O:vs[i]?=some v:=by
   unfold start at h2;rw[zaG (by simpa using hi),zai]at h2
   cases e:vs[i]? with
   |none=>rw[e]at h2;cases h2
   |some a=>rw[e]at h2;cases h2;rfl
  obtain⟨u,hu,J⟩:=r.get O;have D:ps[i]?=some y:=by
   rw[<- ds.pre,List.getElem?_take_of_lt aD];exact h1
  have B:ps.Nodup:=by rw[<- ds.pre];exact ds.nd.sublist (zeK _ _)
  refine⟨u,J,?_⟩;rcases ds.par y (zan D) with k|k
  .exact .inl ⟨k,Vj B D hu k⟩
  obtain⟨c,e⟩:=Rp (n:=s.z+1) k;refine .inr ⟨.inl k,c,e,?_⟩;have q:=x.cell y c e;rw[Vl B D hu (by show scope.names.lookup y≠_;rw[k];decide)]at q
  exact q
 .exact g.hok.fresh (Nat.le_of_lt (x.above y c (zcN h)))
 unfold start;show _=N.length;rw[zLa,zLm,zcB];lia
def z2h{K:W.Frag}{mg:Str->Option Value}{k:Nat}{f:Addr}{R kV B O qZ Z oc:Value}{an od:Option Addr}{G:Array (Option Value)}{sp:Sp}(lk:K.lookup f=some ⟨oc,od,.func (W.fnOf name qual params body scope R kV B O an qZ Z),G⟩)(M:W.codeIn K qZ qual=true)(ds:zn N ps scope)(len:∀ vs H Q xs,sp vs H Q xs->vs.length=ps.length)(qY:∀ (A:Around) (outer:List Env) (s:Shared) (H:Hp) (vs:List V) (Q:VK) (xs:XK),Room k (A.deeper (envOfC qual scope s.z f qZ))->sp vs H Q xs ->
   ∃ t,PSs (cxOf CX P w K mg base N qual scope f qZ A outer s H xs) body t/\t {nx:=λ_ H'=>Q .non H',rt:=Q} (start N vs) H) :
  FnOk P w K mg base CX (k+1) f (W.fnOf name qual params body scope R kV B O an qZ Z) ps sp:=by
 refine⟨len,λA outer s H a0 us vs Q xs hr z hb r j=>?_⟩;have hl:=len _ _ _ _ j;have KX:K.In s.heap:=z.mod.kin.keeps λb o e=>(z.bs b o e).1;have L:s.heap.NoLimit:=z.mod.nolimit.keeps λb o e=>(z.bs b o e).1;have d:∀y∈ps.zip us,scope.names.lookup y.1=some .local\/(scope.names.lookup y.1=some .cell/\((cellsFrom (s.z+1) scope.names []).lookup y.1).isSome=true):=λ⟨n,v⟩ hy=>by
  rcases ds.par n (zdT hy).1 with q|q
  .exact .inl q
  exact .inr ⟨q,W.cellsFrom_some _ _ _ (.inl q)⟩
 refine codeAny_call_function hr.depth (KX _ _ lk) rfl ds.co ds.gen rfl (W.codeRec_of KX M) (hb _ _ _ _ ?_);refine wpAny_newFunctionEnv_cells ds.kind d λenv he s1 x=>?_;subst he;refine⟨L.keeps x.toInCall.keep,codeAny_func ?_⟩;obtain⟨t,ht,hq⟩:=qY A outer s H vs Q xs (hr.deeper _) j;have I:Inv (cxOf CX P w K mg base N qual scope f qZ A outer s H xs) [] (start N vs) H s1:=Ng ds hr.hd z hl r x;refine wpAny_mono (ht [] s1 (start N vs) H _ I hq) (λfl s' g=>?_) λe s' g=>g;have l:∀{a:St}{H':Hp}{v:V}{u:Value},Inv (cxOf CX P w K mg base N qual scope f qZ A outer s H xs) [] a H' s'->RelV v u->Q v H'->CE outer P w H s Q u s' :=
  λ{a H' v u} J D q=>⟨v,H',J.os,J.bare,J.base,J.hok,D,q⟩
 cases fl with
 |ret u =>
  obtain⟨v,a,H',J,D,q⟩:=g;exact l J D q
 |next =>
  obtain⟨a,H',J,q⟩:=g;exact l (v:=V.non) (u:=Value.none) J rfl q
 |brk =>
  obtain⟨_,_,_,q⟩:=g;exact False.elim q
 |cont =>
  obtain⟨_,_,_,q⟩:=g;exact False.elim q
section
variable{x:Str}{p pos:Pos}{e:Expr}{es:List Expr}{t:TA}{id T:String}{r:List V->Hp->VK->Prop}
def tCB(r:List V->Hp->VK->Prop)(t:TA):TE:=λG H Q=>t G H λvs H1=>r vs H1 Q
def fj(y:ui X (.builtin id) r)(u:Gl X x)(q:X.mg x=none)(k:bootBuiltins x=some (.builtin id))(z:PA X (e::es) t)(l:autoParam (x≠"__name__") zSd)(d:autoParam (D_ x) zSd)(v:autoParam (S_ X e es) zSr)(a:autoParam (B_ X es pos) zSr):PE X (.Call (.Name x p) (e::es) [] pos) (tCB r t):=by
 intro pn s G H Q I h;refine zbR (sw I u q k ?_ l d);exact PyProof.Rows.callWith_builtin1 (thn (z pos pn s G H _ I h) λus s1 ⟨vs,H1,B,g,j⟩=>y pn s1 G H1 vs us Q B g j) v a
def c5(y:ui X (.type T) r)(u:Gl X x)(q:X.mg x=none)(k:bootBuiltins x=some (.type T))(z:PA X (e::es) t)(l:autoParam (x≠"__name__") zSd)(d:autoParam (D_ x) zSd)(v:autoParam (S_ X e es) zSr)(a:autoParam (B_ X es pos) zSr):PE X (.Call (.Name x p) (e::es) [] pos) (tCB r t):=by
 intro pn s G H Q I h;refine zbR (sw I u q k ?_ l d);exact zbB (thn (z pos pn s G H _ I h) λus s1 ⟨vs,H1,B,g,j⟩=>y pn s1 G H1 vs us Q B g j) v a
end
section
open PySem.SeqAt
open PySem.AutoSeq1 (wpAny_loadPart')
open PySem.MeetsSeq PySem.MeetsSeq2 PySem.MeetsSeq3
end
def cat_tup{t b:Addr}(z:IsTup s.heap t vs.toArray)(B:IsTup s.heap b ws.toArray)(u:vs≠[])(h1:ws=[]->Q (.ref t) s)(h2:ws≠[]->Q (.ref s.z) {s with heap:=s.heap.push {cls:=.type "tuple",data:=.seq (vs++ws).toArray}})(hsz:vs.length+ws.length<=sizeLine):wpAny (model prog w) A (binaryOp .Add (.ref t) (.ref b)) Q xs s:=by
 obtain⟨⟨cls,dd,data,q⟩,ho,x,n,v⟩:=id z;obtain⟨⟨y,k,l,d⟩,a,j,r,g⟩:=id B;simp only at x v j g;subst x v j g;have e:vs.toArray++ws.toArray=(vs++ws).toArray:=by simp
 by_cases hw:ws=[]
 .exact concat_meets ⟨_,ho,rfl⟩ ⟨_,a,rfl⟩ noFill_tuple_add seq_tuple_add zfF zeY (zeU _ _)
   (tuple_addW1 t b vs.toArray ws.toArray n r dd k q d (by simpa using u) (by simp[hw])) ⟨ho,a,h1 hw⟩
 refine concat_meets ⟨_,ho,rfl⟩ ⟨_,a,rfl⟩ noFill_tuple_add seq_tuple_add zfF zeY (zeU _ _)
  (tuple_addW2 t b vs.toArray ws.toArray n r dd k q d (by simpa using u) (by simpa using hw) (by rw[zap,zap];exact hsz)) ⟨ho,a,?_⟩
 rw[e];exact h2 hw
noncomputable def sIx(n d:Nat):Option Int->Nat
 |none=>d
 |some v=>if v<0 then(v+(n:Int)).toNat else min v.toNat n
def sIx_none(n d:Nat):sIx n d none=d:=rfl
def sIx_nat(n d k:Nat):sIx n d (some (k:Int))=min k n:=by
 show(if (k:Int)<0 then((k:Int)+(n:Int)).toNat else min (k:Int).toNat n)=min k n
 rw[zaI aD,zcF]
def Ab(n d:Nat)(a:d<=n)(o:Option Int):sIx n d o<=n:=by
 cases o with
 |none=>exact a
 |some v =>
  show(if v<0 then(v+(n:Int)).toNat else min v.toNat n)<=n
  by_cases hv:v<0
  .rw[zaK hv];lia
  rw[zaI hv];exact Nat.min_le_right _ _
def Ms(v:Int)(n d:Nat):(if v<0 then max (v+(n:Int)) 0 else min v (n:Int))=((sIx n d (some v):Nat):Int):=by
 show(if v<0 then max (v+(n:Int)) 0 else min v (n:Int))=(((if v<0 then(v+(n:Int)).toNat else min v.toNat n):Nat):Int)
 by_cases hv:v<0
 .simp only[zaK hv];lia
 simp only[zaI hv];lia
def P5(lo hi:Option Int)(n:Nat):Builtin.Slice.sliceAdjust lo hi 1 (n:Int)=(((sIx n 0 lo:Nat):Int),((sIx n n hi:Nat):Int)):=by
 have h1:¬ ((1:Int)<0):=by lia
 unfold Builtin.Slice.sliceAdjust;simp only[h1,zeP];refine Prod.ext ?_ ?_
 .cases lo with
  |none=>rfl
  |some v=>exact Ms v n 0
 cases hi with
 |none=>rfl
 |some v=>exact Ms v n n
def Q6(i j:Nat):Builtin.Slice.slicePlaces (i:Int) (j:Int) 1=j-i:=by
 unfold Builtin.Slice.slicePlaces;have h1:(1:Int) > 0:=by lia
 simp only[h1,if_true,Int.ediv_one];split <;> lia
def Zf{v:Value}{o:Option Int}{Q:Option Int->Shared->Prop}(p:IsPart v o)(h:Q o s):wpAny (model prog w) A (Builtin.Slice.slicePartIndex v) Q xs s:=by
 cases p with
 |none=>exact slicePart_none h
 |int i t=>exact slicePart_int h
def f7{j:Addr}{g e:Value}{lo hi:Option Int}{n:Nat}{Q:Int×Int×Nat->Shared->Prop}(l:s.heap.IsSliceOf j g e .none)(pl:IsPart g lo)(k:IsPart e hi)(h:Q (((sIx n 0 lo:Nat):Int),1,sIx n n hi-sIx n 0 lo) s):wpAny (model prog w) A (Builtin.Slice.sliceApplied (.ref j) (pure (n:Int))) Q xs s:=by
 obtain⟨r,a,q,d⟩:=id l;unfold Builtin.Slice.sliceApplied Builtin.Slice.sliceFields;refine zaa (zaa (zbE a d (x:=g) rfl (zaa (zbE a d (x:=e) rfl (zaa (zbE a d (x:=.none) rfl (zab ?_)))))));refine zaa (slicePart_none ?_);show wpAny _ _ (if ((1:Int)==0)=true then _ else _) _ _ s
 rw[zaI aB]
 refine zaa (Zf pl (zaa (Zf k (zaa (zab ?_)))));show wpAny _ _ (match Builtin.Slice.sliceAdjust lo hi 1 (n:Int) with|(lo,hi)=>pure (lo,(1:Int),Builtin.Slice.slicePlaces lo hi 1)) _ _ s
 rw[P5 lo hi n];show wpAny _ _ (pure (((sIx n 0 lo:Nat):Int),(1:Int),Builtin.Slice.slicePlaces ((sIx n 0 lo:Nat):Int) ((sIx n n hi:Nat):Int) 1)) _ _ s;rw[Q6];exact zab h
def Ki(E:Array Value)(i k:Nat):((List.range k).filterMap λ(m:Nat)=>E[((i:Int)+(m:Int)*1).toNat]?).toArray=((E.toList.drop i).take k).toArray:=by
 have e:(λ(m:Nat)=>E[((i:Int)+(m:Int)*1).toNat]?)=λm=>E[i+m]?:=by
  funext m
  have:((i:Int)+(m:Int)*1).toNat=i+m:=by lia
  rw[this]
 rw[e];have:=pick_run E i k;rw[zbX]at this;have e2:((λx=>E[x]?) ∘ λx=>i+x)=λm=>E[i+m]?:=rfl;rw[e2]at this;rw[this]
def getItem_tuple_cut{t e:Addr}{items:Array Value}{u r:Value}{lo hi:Option Int}{Q:Value->Shared->Prop}(d:IsTup s.heap t items)(v:s.heap.IsSliceOf e u r .none)(pl:IsPart u lo)(x:IsPart r hi)(z:¬ (sIx items.size 0 lo=0/\sIx items.size items.size hi=items.size))(h:Q (.ref s.z) {s with heap:=s.heap.push {cls:=.type "tuple",data:=.seq ((items.toList.drop (sIx items.size 0 lo)).take (sIx items.size items.size hi-sIx items.size 0 lo)).toArray}})(hsz:items.size<=sizeLine):wpAny (model prog w) A (getItem (.ref t) (.ref e)) Q xs s:=by
 have a:sizeOk (.seq ((items.toList.drop (sIx items.size 0 lo)).take (sIx items.size items.size hi-sIx items.size 0 lo)).toArray):=by
  show((items.toList.drop (sIx items.size 0 lo)).take (sIx items.size items.size hi-sIx items.size 0 lo)).toArray.size<=sizeLine;rw[zap,zaX,zdC,zeS];omega
 have I:sIx items.size items.size hi<=items.size:=Ab _ _ (zaj _) hi;obtain⟨y,g,k,B⟩:=id v;have l:s.TypeIs (.ref e) "slice":=⟨y,g,k⟩;unfold getItem
 try with_reducible refine zaZ ?_
 first|refine zaa (zab ?_)|skip
 refine zaa (wpAny_sequenceKey d.typeIs aB ?_)
 refine zaa (zbA (name:=Str.ofString "__getitem__") d.typeIs PyProof.Rows.slot_tuple_getitem
  (zbF PyProof.Rows.slot_tuple_getitem d.typeIs entry_tuple_getitem ?_ (args_tuple_getitem _ _)))
 show wpAny _ _ (Builtin.Tuple.tupleItemsOf (.ref t) >>= _) _ _ s;refine zaa (tupleItemsOf_ d ?_);refine zaa (zfP l ?_);rw[zaK aB]
 refine zaa (f7 v pl x ?_);have j:¬ ((((sIx items.size 0 lo:Nat):Int)==0&&(1:Int)==1&&(sIx items.size items.size hi-sIx items.size 0 lo)==items.size)=true):=by
  intro q;rw[zcL,zcL]at q;have G:((sIx items.size 0 lo:Nat):Int)=0:=zfY q.1.1;have D:sIx items.size items.size hi-sIx items.size 0 lo=items.size:=zfY q.2;exact z ⟨by omega,by omega⟩
 show wpAny _ _ (if (((sIx items.size 0 lo:Nat):Int)==0&&(1:Int)==1&&(sIx items.size items.size hi-sIx items.size 0 lo)==items.size)=true then _ else _) _ _ s
 rw[zaI j,Ki]
 first
  |exact zaa (m:=Builtin.Tuple.tupleExact _) (zbK (zab ⟨_,rfl,zab h⟩) a)
  |exact zaa (m:=Builtin.Tuple.tupleExact _) (zbK (zaa (zab (zab ⟨_,rfl,zab h⟩))) a)
  |exact zaa (zaa (m:=Builtin.Tuple.tupleExact _) (zbK (zab (zab ⟨_,rfl,zab h⟩)) a))
  |exact zaa (zaa (m:=Builtin.Tuple.tupleExact _) (zbK (zab ⟨_,rfl,zab h⟩) a))
abbrev TO:=St->Hp->(Option Int->Hp->Prop)->Prop
def PO(X:Cx)(e:Option Expr)(t:TO):Prop :=
 ∀(pn:List (Addr×Obj))(s:Shared)(G:St)(H:Hp)(Q:Option Int->Hp->Prop),Inv X pn G H s->t G H Q ->
  wpAny X.mo X.A (evalPart e X.env) (λu s'=>∃o H',Inv X pn G H' s'/\IsPart u o/\Q o H') X.xe s
def Fn:TO:=λ_ H Q=>Q none H
def z3p(t:TE):TO:=λG H Q=>t G H λx H1=>∃i,x=.int i/\Q (some i) H1
def Qo:∀{us:List Value},Vals (ns.map V.int) us->IntsAre us ns:=by
 induction ns with
 |nil=>intro us r;rw[zbV]at r;cases r;exact .nil
 |cons n ns ih =>
  intro us r;rw[zaB]at r;cases r with
  |cons r1 r2 =>
   obtain⟨t,e⟩:=r1;subst e;exact .cons n t (ih r2)
section
variable{e:Expr}{te:TE}{lo hi:Option Expr}{tl th:TO}{pos p2:Pos}
def Es:PO X none Fn:=by
 intro pn s G H Q I h;rw[evalPart_none];exact zab ⟨none,H,I,.none,h⟩
def Er(h:PE X e te):PO X (some e) (z3p te):=by
 intro pn s G H Q I g;rw[evalPart_some];refine thn (h pn s G H _ I g) λu s1 Zh=>?_;obtain⟨x,H1,j,a,d⟩:=Zh;obtain⟨i,rfl,q⟩:=d;obtain⟨t,rfl⟩:=a;exact⟨some i,H1,j,.int i t,q⟩
def SlR(X:Cx)(r:V->Option Int->Option Int->Hp->VK->Prop):Prop :=
 ∀(pn:List (Addr×Obj))(s:Shared)(G:St)(H:Hp)(x:V)(v vl vu:Value)(lo hi:Option Int)(sl:Addr)(Q:VK),Inv X pn G H s->RelV x v->s.heap.IsSliceOf sl vl vu .none->IsPart vl lo->IsPart vu hi->r x lo hi H Q ->
  ∃T id,typeLookup (.type T) "__getitem__" = pure (some (.builtin id))/\s.TypeIs v T/\wpAny X.mo X.A (getItem v (.ref sl)) (EP X pn G Q) X.xe s
def SlR.or(h:SlR X r)(h':SlR X r'):SlR X (λx lo hi H Q=>r x lo hi H Q\/r' x lo hi H Q):=by
 intro pn s G H x v d a lo hi e Q I g k pl j q;rcases q with q|q
 .exact h pn s G H x v d a lo hi e Q I g k pl j q
 exact h' pn s G H x v d a lo hi e Q I g k pl j q
def tSl(r:V->Option Int->Option Int->Hp->VK->Prop)(te:TE)(tl th:TO):TE:=λG H Q=>te G H λx H1=>tl G H1 λl H2=>th G H2 λu a=>r x l u a Q
def Km{r:V->Option Int->Option Int->Hp->VK->Prop}(hr:SlR X r)(M:PE X e te)(hl:PO X lo tl)(hu:PO X hi th):PE X (.Subscript e (.Slice lo hi none p2) pos) (tSl r te tl th):=by
 intro pn s G H Q I h;refine Subscript_ (thn (M pn s G H _ I h) λv s1 Zh=>?_);obtain⟨x,H1,W,k,B⟩:=Zh;refine wpAny_Slice (thn (hl pn s1 G H1 _ W B) λg s2 ⟨l,H2,R,pl,z⟩=>thn (hu pn s2 G H2 _ R z) λd a Zh=>?_);obtain⟨u,j,O,D,y⟩:=Zh;rw[evalPart_none];refine zab ?_;have N:Inv X pn G j {a with heap:=a.heap.push {cls:=.type "slice",data:=.fields #[g,d,.none]}}:=O.kept (t':=a.toks) λb Z q=>zac _ q;obtain⟨T,id,hT,J,L⟩:=hr pn {a with heap:=a.heap.push {cls:=.type "slice",data:=.fields #[g,d,.none]}} G j x v g d l u a.z Q N k (Heap.IsSliceOf.new ..) pl D y;show wpAny X.mo X.A (subscriptTail e (.Slice lo hi none p2) v (.ref a.z)) (EP X pn G Q) X.xe {a with heap:=a.heap.push {cls:=.type "slice",data:=.fields #[g,d,.none]}};exact tail_any (ops:=[.ref a.z,v]) J hT L (by with_unfolding_all rfl)
noncomputable def cutV(E:List V)(lo hi:Option Int):List V:=(E.drop (ZZ.sIx E.length 0 lo)).take (ZZ.sIx E.length E.length hi-ZZ.sIx E.length 0 lo)
def bj(E:List V)(lo hi:Option Int):(cutV E lo hi).length<=E.length:=by
 unfold cutV;rw[zaX,zdC];lia
def rSlT(K:W.Frag):V->Option Int->Option Int->Hp->VK->Prop:=λx lo hi H Q=>∃a E,x=.ref a/\SqT K H a E /\
 ¬ (ZZ.sIx E.length 0 lo=0/\ZZ.sIx E.length E.length hi=E.length)/\∀p,H p=none->Q (.ref p) (upd H p (.tup (cutV E lo hi)))
def A0:SlR X (rSlT X.K):=by
 intro pn s G H x v B z lo hi D Q I j y pl k h;obtain⟨a,E,rfl,l,u,q⟩:=h;cases j;obtain⟨its,r,g,e⟩:=I.tuple l;have d:its.toArray.size=E.length:=by rw[zap];exact r.length.symm
 refine⟨"tuple",_,PyProof.Rows.slot_tuple_getitem.lookup,g.typeIs,?_⟩;refine ZZ.getItem_tuple_cut g y pl k (by rw[d];exact u) ?_ (by rw[d];exact e)
 rw[d];refine⟨.ref s.z,_,I.laid (t':=s.toks) (o:=.tup (cutV E lo hi)) (λb J q=>zac _ q) (zaj _) ?_,rfl,q _ (I.hok.fresh (zaj _))⟩;exact⟨zak (bj E lo hi) e,_,(r.drop (ZZ.sIx E.length 0 lo)).take (ZZ.sIx E.length E.length hi-ZZ.sIx E.length 0 lo),IsTup.new _ _,_,zad _ rfl,rfl⟩
def Ap(K:W.Frag):R2:=λx y H Q=>∃a b E ys,x=.ref a/\y=.ref b/\SqT K H a E/\SqT K H b ys/\E≠[]/\E.length+ys.length<=sizeLine /\
 (ys=[]->Q (.ref a) H)/\(ys≠[]->∀p,H p=none->Q (.ref p) (upd H p (.tup (E++ys))))
def Vals.nil_iff(r:Vals E us):us=[] ↔ E=[]:=by
 cases r with
 |nil=>simp
 |cons _ _=>simp
def Ou:OpR X (binaryOp .Add) (Ap X.K):=by
 intro pn s G H x y v u Q I k j h;obtain⟨a,b,E,ys,rfl,rfl,L,J,D,g,r,l⟩:=h;cases k;cases j;obtain⟨its,d,B,_⟩:=I.tuple L;obtain⟨e,r2,p2,_⟩:=I.tuple J;refine ZZ.cat_tup B p2 (λz=>D (d.nil_iff.mp z)) (λz=>⟨.ref a,H,I,rfl,r (r2.nil_iff.mp z)⟩) (λz=>?_) (by rw[<- d.length,<- r2.length];exact g)
 refine⟨.ref s.z,_,I.laid (t':=s.toks) (o:=.tup (E++ys)) (λb M q=>zac _ q) (zaj _) ?_,rfl,l (λw=>z (r2.nil_iff.mpr w)) _ (I.hok.fresh (zaj _))⟩;exact⟨by rw[zLa];exact g,_,d.append r2,IsTup.new _ _,_,zad _ rfl,rfl⟩
end
noncomputable def ixN(n:Nat)(i:Int):Option Nat:=if 0<=i then(if i<n then some i.toNat else none) else if -(n:Int)<=i then some (i+n).toNat else none
noncomputable def atI{α:Type}(E:List α)(i:Int):Option α:=(ixN E.length i).bind λj=>E[j]?
def U8(h:ixN n i=some j):seqIndex? i n=some j/\j<n/\-(n:Int)<=i/\i<n:=by
 unfold ixN at h;by_cases h0:0<=i
 .rw[zaK h0]at h;by_cases h1:i<n
  .rw[zaK h1]at h;have e:i.toNat=j:=zaP h;exact⟨by rw[seqIndex_of h0 h1,e],by lia,by lia,h1⟩
  rw[zaI h1]at h;cases h
 rw[zaI h0]at h;by_cases h1:-(n:Int)<=i
 .rw[zaK h1]at h;have e:(i+n).toNat=j:=zaP h;exact⟨by rw[seqIndex_neg aD h1,e],by lia,h1,by lia⟩
 rw[zaI h1]at h;cases h
def Ta{α:Type}{E:List α}{i:Int}{v:α}(h:atI E i=some v):∃j,seqIndex? i E.length=some j/\E[j]?=some v/\j<E.length/\-(E.length:Int)<=i/\i<E.length:=by
 unfold atI at h;cases e:ixN E.length i with
 |none=>rw[e]at h;cases h
 |some j =>
  rw[e]at h;obtain⟨h1,h2,d,a⟩:=U8 e;exact⟨j,h1,h,h2,d,a⟩
def Xr{α:Type}{E:List α}{j:Nat}{v:α}(h:E[j]?=some v):atI E (j:Int)=some v:=by
 have a:j<E.length:=(zag.mp h).1;have e:ixN E.length (j:Int)=some j:=by
  unfold ixN;rw[zaK aD,zaK aD];simp
 unfold atI;rw[e];exact h
def jq{α:Type}(E:List α)(v:α):atI (E++[v]) (-1)=some v:=by
 have hl:(E++[v]).length=E.length+1:=by simp
 have e:ixN (E++[v]).length (-1)=some E.length:=by
  unfold ixN;rw[hl,zaI aB,zaK aD]
  congr 1
  lia
 unfold atI;rw[e];show(E++[v])[E.length]?=some v;simp
def gd(b:Expr):Prop:=∀o i,subscripted b false o i=operate [o,i] (getItem o i)
def IxR(X:Cx)(r:R2):Prop :=
 ∀(value slice:Expr)(pn:List (Addr×Obj))(s:Shared)(G:St)(H:Hp)(x y:V)(v u:Value)(Q:VK),Inv X pn G H s->RelV x v->RelV y u->r x y H Q ->
  subscripted slice false v u=operate [v,u] (getItem v u)->wpAny X.mo X.A (subscriptTail value slice v u) (EP X pn G Q) X.xe s
def MtR(X:Cx)(id:String)(r:V->List V->Hp->VK->Prop):Prop :=
 ∀(pn:List (Addr×Obj))(s:Shared)(G:St)(H:Hp)(x:V)(E:List V)(v:Value)(us:List Value)(Q:VK),Inv X pn G H s->RelV x v->Vals E us->r x E H Q ->
  wpAny X.mo X.A (call (.builtin id) (v::us)) (EP X pn G Q) X.xe s
section
variable{a b:Expr}{ta tb:TE}{pos:Pos}
def IxR.or(h:IxR X r)(h':IxR X r'):IxR X (λx y H Q=>r x y H Q\/r' x y H Q):=by
 intro value a pn s G H x y v u Q I e d q g;rcases q with q|q
 .exact h value a pn s G H x y v u Q I e d q g
 exact h' value a pn s G H x y v u Q I e d q g
def c4(hr:IxR X r)(k:PE X a ta)(j:PE X b tb)(g:gd b):PE X (.Subscript a b pos) (tOp r ta tb):=by
 intro pn s G H Q I h;exact Subscript_ (binT k j I h λv u s2 x y H2 l e d q=>hr a b pn s2 G H2 x y v u Q l e d q (g _ _))
def rIxL(K:W.Frag):R2:=λx y H Q=>∃p E i v,x=.ref p/\y=.int i/\SqL K H p E/\atI E i=some v/\Q v H
def rIxT(K:W.Frag):R2:=λx y H Q=>∃p E i v,x=.ref p/\y=.int i/\SqT K H p E/\atI E i=some v/\Q v H
def rIxS:R2:=λx y H Q=>∃z i c,x=.str z/\y=.int i/\z.length<=sizeLine/\atI z.cps.toList i=some c/\Q (.str ⟨#[c]⟩) H
def sy:IxR X (rIxL X.K):=by
 intro value d pn s G H x y v u Q I D B h k;obtain⟨p,E,i,z,rfl,rfl,J,L,q⟩:=h;cases D;obtain⟨t,rfl⟩:=B;obtain⟨its,r,pl,O⟩:=I.list J;obtain⟨j,h1,h2,V,N,M⟩:=Ta L;obtain⟨w,l,e⟩:=r.get h2;have hl:=r.length;have R:=ku;have a:EP X pn G Q w s:=⟨z,H,I,e,q⟩;by_cases h0:0<=i
 .have g:i.toNat=j:=by
   rw[seqIndex_of h0 M]at h1;exact zaP h1
  exact item_listR pl.isList h0 aD (by rw[g];simpa using l) a k
 have g:(i+(its.toArray.size:Int)).toNat=j:=by
  rw[seqIndex_neg aD N]at h1
  rw[zap,<- hl];exact zaP h1
 exact subscriptTail_builtinR (x:=w) pl.isList.typeIs slot_list_getitem.lookup
  (wpAny_getItem_list_neg (Q:=λr s'=>r=w/\EP X pn G Q r s') pl.isList aD (by rw[zap] <;> lia) aD (by rw[g];simpa using l) ⟨rfl,a⟩) k
def z1t:IxR X (rIxT X.K):=by
 intro value a pn s G H x y v u Q I k g h l;obtain⟨p,E,i,z,rfl,rfl,B,D,q⟩:=h;cases k;obtain⟨t,rfl⟩:=g;obtain⟨its,r,pl,L⟩:=I.tuple B;obtain⟨j,h1,h2,R,O,N⟩:=Ta D;obtain⟨w,J,d⟩:=r.get h2;have hl:=r.length;have M:=ku;have e:EP X pn G Q w s:=⟨z,H,I,d,q⟩;exact subscriptTail_builtinR (x:=w) pl.typeIs slot_tuple_getitem.lookup
  (getItem_tuple (j:=j) (Q:=λr s'=>r=w/\EP X pn G Q r s') pl aD aD (by rw[zap,<- hl];exact h1) (by simpa using J) ⟨rfl,e⟩) l
def z1u:IxR X rIxS:=by
 intro value a pn s G H x y v u Q I e d h g;obtain⟨z,i,c,rfl,rfl,B,k,q⟩:=h;obtain⟨t,rfl⟩:=e;obtain⟨t',rfl⟩:=d;obtain⟨j,h1,h2,J,r,l⟩:=Ta k;have hl:z.cps.toList.length=z.length:=by simp[Str.length]
 rw[hl]at h1 r l;have D:=ku;exact tail_any (typeIs_str s z t) slot_str_getitem.lookup (getItem_str (c:=c) (by
  have e1:decide (i < -(2 ^ 63:Int))=false:=zbS aD
  have e2:decide (i ≥ 2 ^ 63)=false:=zbS aD
  rw[e1,e2,Bool.or_false]) (by rw[h1];simpa using h2) ⟨.str ⟨#[c]⟩,H,I.tok _,⟨_,rfl⟩,q⟩) g
def rIx(K:W.Frag):R2:=λx y H Q=>rIxL K x y H Q\/rIxT K x y H Q\/rIxS x y H Q
def Gs:IxR X (rIx X.K):=sy.or (z1t.or z1u)
def Qe(its:List Value)(n j:Nat)(u:Value):Obj.mapSeq (·.setIfInBounds j u) {cls:=.type "list",data:=.seq its.toArray n}={cls:=.type "list",data:=.seq (its.set j u).toArray n}:=by
 simp[Obj.mapSeq]
theorem Inv.lst(I:Inv X pn G H s)(h:H p=some (.lst E)) :
  ∃(its:List Value)(n:Nat),Vals E its/\s.heap.get? p=some {cls:=.type "list",data:=.seq its.toArray n}/\E.length<=sizeLine:=by
 obtain⟨z,its,n,r,e⟩:=I.hok p _ h;exact⟨its,n,r,e,z⟩
def Inv.lstUpd{H:Hp}{its its':List Value}{n a:Nat}{f:Obj->Obj}(I:Inv X pn G H s)(h:H p=some (.lst E))(ho:s.heap.get? p=some {cls:=.type "list",data:=.seq its.toArray n})(d:f {cls:=.type "list",data:=.seq its.toArray n}={cls:=.type "list",data:=.seq its'.toArray a})(r:Vals ys its')(g:ys.length<=sizeLine)(t:Nat) :
  Inv X pn G (upd H p (.lst ys)) {s with heap:=s.heap.update p f,toks:=t}:=by
 have e:(s.heap.update p f).get? p=some {cls:=.type "list",data:=.seq its'.toArray a}:=by
  rw[zcO f ho (by rw[d] <;> rfl),d]
 refine I.write (x:=p) (e:=p) (by rw[h];trivial) (.inl rfl) (λb u j q=>(Heap.get?_update_other _ _ (Ne.symm j)).trans q) ⟨_,e⟩ ?_
 exact⟨g,its',a,r,e⟩
def z4c:V->V->V->Hp->(Hp->Prop)->Prop:=λo i v H Q=>∃p E k j,o=.ref p/\i=.int k/\H p=some (.lst E)/\ixN E.length k=some j/\Q (upd H p (.lst (E.set j v)))
def Yi:PSet X z4c:=by
 intro pn s G H o i v J L u Q I y z x h;obtain⟨p,E,k,j,rfl,rfl,d,D,q⟩:=h;cases y;obtain⟨t,rfl⟩:=z;obtain⟨its,n,r,ho,B⟩:=I.lst d;obtain⟨h1,h2,g,e⟩:=U8 D;have hl:=r.length;have M:=ku;have l:Inv X pn G (upd H p (.lst (E.set j v))) {s with heap:=s.heap.update p (Obj.mapSeq (·.setIfInBounds j u))} :=
  I.lstUpd d ho (Qe its n j u) (r.set x j) (by rw[zaY];exact B) s.toks
 by_cases h0:0<=k
 .have a:k.toNat=j:=by
   rw[seqIndex_of h0 e]at h1;exact zaP h1
  exact W.ki_setAt ho h0 aD (by rw[zap,<- hl];exact e) (by rw[a];exact⟨_,l,q⟩)
 have a:(k+(its.toArray.size:Int)).toNat=j:=by
  rw[seqIndex_neg aD g]at h1
  rw[zap,<- hl];exact zaP h1
 exact W.ki_setBack ho aD (by rw[zap,<- hl];exact g) aD (by rw[a];exact⟨_,l,q⟩)
def W0(lo hi:Option Int)(n:Nat):(sliceBounds lo hi none n).1=((ZZ.sIx n 0 lo:Nat):Int)/\(sliceBounds lo hi none n).2.1=((ZZ.sIx n n hi:Nat):Int)/\(sliceBounds lo hi none n).2.2=1:=by
 refine⟨?_,?_,rfl⟩
 .cases lo with
  |none=>simp[sliceBounds,ZZ.sIx]
  |some i =>
   simp only[sliceBounds,ZZ.sIx,Option.getD_none,show(1:Int) > 0 by decide,if_true]
   by_cases h:i<0
   .simp only[h,if_true] <;> lia
   simp only[h,zeP] <;> lia
 cases hi with
 |none=>simp[sliceBounds,ZZ.sIx]
 |some i =>
  simp only[sliceBounds,ZZ.sIx,Option.getD_none,show(1:Int) > 0 by decide,if_true]
  by_cases h:i<0
  .simp only[h,if_true] <;> lia
  simp only[h,zeP] <;> lia
def Yh(its:List Value)(lo hi:Option Int):slicePick its.toArray lo hi none=((its.drop (ZZ.sIx its.length 0 lo)).take (ZZ.sIx its.length its.length hi-ZZ.sIx its.length 0 lo)).toArray:=by
 obtain⟨h1,h2,a⟩:=W0 lo hi its.toArray.size;unfold slicePick;rw[h1,h2,a];simp only[sliceRange_one,pick_run,zap] <;> rfl
def rSlL(K:W.Frag):V->Option Int->Option Int->Hp->VK->Prop:=λx lo hi H Q=>∃a E,x=.ref a/\SqL K H a E/\∀p,H p=none->Q (.ref p) (upd H p (.lst (cutV E lo hi)))
def Fw:SlR X (rSlL X.K):=by
 intro pn s G H x v z y lo hi B Q I g u pl j h;obtain⟨a,E,rfl,l,q⟩:=h;cases g;obtain⟨its,r,e,k⟩:=I.list l;have d:=r.length;refine⟨"list",_,slot_list_getitem.lookup,e.isList.typeIs,?_⟩;refine wpAny_getItem_list_slice e.isList u pl j .none aE ?_ (by rw[zap] <;> lia)
 rw[Yh,<- d];refine⟨.ref s.z,_,I.laid (t':=s.toks) (o:=.lst (cutV E lo hi)) (λb D q=>zac _ q) (zaj _) ?_,rfl,q _ (I.hok.fresh (zaj _))⟩;exact⟨zak (bj E lo hi) k,_,0,(r.drop (ZZ.sIx E.length 0 lo)).take (ZZ.sIx E.length E.length hi-ZZ.sIx E.length 0 lo),zad _ rfl⟩
noncomputable def Z4:V->Bool
 |.non=>true
 |.bl _=>true
 |.int _=>true
 |.str _=>true
 |_=>false
noncomputable def eqV:V->V->Bool
 |.non,.non=>true
 |.bl a,.bl b=>a==b
 |.bl a,.int b=>(if a then 1 else 0)==b
 |.int a,.bl b=>a==(if b then 1 else 0)
 |.int a,.int b=>a==b
 |.str a,.str b=>a==b
 |_,_=>false
def z2p{y x:V}{u v:Value}(e:RelV y u)(d:RelV x v)(j:Z4 y=true)(g:Z4 x=true):SeqAt.EqAt A s u v (eqV y x):=by
 cases y with
 |non =>
  cases e
  cases x with
  |non=>cases d;exact SeqAt.EqAt.same _
  |bl b=>cases d;exact SeqAt.EqAt.none_bool b
  |int b=>obtain⟨t,rfl⟩:=d;exact SeqAt.EqAt.none_int b t
  |str b=>obtain⟨t,rfl⟩:=d;exact SeqAt.EqAt.none_str b t
  |_=>exact absurd (show false=true from g) zaT
 |bl a =>
  cases e
  cases x with
  |non=>cases d;exact SeqAt.EqAt.bool_none a
  |bl b=>cases d;exact SeqAt.EqAt.bool_bool a b
  |int b=>obtain⟨t,rfl⟩:=d;exact SeqAt.EqAt.bool_int a b t
  |str b=>obtain⟨t,rfl⟩:=d;exact SeqAt.EqAt.bool_str a b t
  |_=>exact absurd (show false=true from g) zaT
 |int a =>
  obtain⟨t',rfl⟩:=e;cases x with
  |non=>cases d;exact SeqAt.EqAt.int_none a t'
  |bl b=>cases d;exact SeqAt.EqAt.int_bool a t' b
  |int b=>obtain⟨t,rfl⟩:=d;exact SeqAt.EqAt.int_int a t' b t
  |str b=>obtain⟨t,rfl⟩:=d;exact SeqAt.EqAt.int_str a t' b t
  |_=>exact absurd (show false=true from g) zaT
 |str a =>
  obtain⟨t',rfl⟩:=e;cases x with
  |non=>cases d;exact SeqAt.EqAt.str_none a t'
  |bl b=>cases d;exact SeqAt.EqAt.str_bool a t' b
  |int b=>obtain⟨t,rfl⟩:=d;exact SeqAt.EqAt.str_int a t' b t
  |str b=>obtain⟨t,rfl⟩:=d;exact SeqAt.EqAt.str_str a t' b t
  |_=>exact absurd (show false=true from g) zaT
 |_=>exact absurd (show false=true from j) zaT
noncomputable def eqU(x:V)(u:Value):Bool:=match u with
 |.none=>eqV .non x
 |.bool b=>eqV (.bl b) x
 |.int i _=>eqV (.int i) x
 |.str z _=>eqV (.str z) x
 |_=>false
def F0{x y:V}(r:RelV y u)(f:Z4 y=true):eqU x u=eqV y x:=by
 cases y with
 |non=>cases r;rfl
 |bl b=>cases r;rfl
 |int i=>obtain⟨t,rfl⟩:=r;rfl
 |str z=>obtain⟨t,rfl⟩:=r;rfl
 |_=>exact absurd (show false=true from f) zaT
theorem Te{x:V}:∀{E:List V}{us:List Value},Vals E us->E.all Z4=true->us.any (eqU x)=E.any λy=>eqV y x
 |_,_,.nil,_=>rfl
 |y::E,u::us,.cons r t,f=>by
  rw[zeZ,zcL]at f;rw[zdW,zdW,F0 r f.1,Te t f.2]
theorem Yr{x:V}{v:Value}(a:RelV x v)(d:Z4 x=true):∀{E:List V}{us:List Value},Vals E us->E.all Z4=true->∀u∈us,SeqAt.EqAt A s u v (eqU x u)
 |_,_,.nil,_=>λu hu=>by cases hu
 |y::E,u::us,.cons r t,f=>λe hu=>by
  rw[zeZ,zcL]at f;rcases zam.mp hu with rfl|hu
  .rw[F0 r f.1];exact z2p r a f.1 d
  exact Yr a d t f.2 e hu
noncomputable def inV(x:V)(E:List V):Bool:=E.any λy=>eqV y x
def rIn(K:W.Frag)(a:Bool):R2:=λx y H Q=>∃p E,y=.ref p/\(SqL K H p E\/SqT K H p E)/\Z4 x=true/\E.all Z4=true/\Q (.bl (if a then !inV x E else inV x E)) H
def W9:OpR X (compareOp .In) (rIn X.K false):=by
 intro pn s G H x y v u Q I e j h;obtain⟨p,E,rfl,a,g,fs,q⟩:=h;cases j;rcases a with a|a
 .obtain⟨its,r,pl,k⟩:=I.list a;refine SeqAt.in_listAt (eqU x) pl.isList (λw d=>Yr e g r fs w (by simpa using d)) ⟨.bl _,H,I,rfl,?_⟩
  rw[show its.toArray.any (eqU x)=its.any (eqU x) by simp,Te r fs]
  exact q
 obtain⟨its,r,pl,k⟩:=I.tuple a;refine SeqAt.in_tupleAt (eqU x) pl (λw d=>Yr e g r fs w (by simpa using d)) ⟨.bl _,H,I,rfl,?_⟩
 rw[show its.toArray.any (eqU x)=its.any (eqU x) by simp,Te r fs]
 exact q
def rm:ui X (.builtin "len") (λE H Q=>∃p ys,E=[.ref p]/\(SqL X.K H p ys\/SqT X.K H p ys)/\Q (.int ys.length) H):=by
 intro pn s G H E us Q I r h;obtain⟨p,ys,rfl,d,q⟩:=h;obtain⟨u,rfl,g⟩:=sj r;cases g;have k:=ku;rcases d with d|d
 .obtain⟨its,e,pl,j⟩:=I.list d;have a:=e.length;exact Calls.call_len_list pl.isList (by simp only[zap] <;> lia) ⟨.int ys.length,H,I.tok _,⟨s.toks+1,by rw[zap,a]⟩,q⟩
 obtain⟨its,e,pl,j⟩:=I.tuple d;have a:=e.length;exact len_tuple pl (by simp only[zap] <;> lia) ⟨.int ys.length,H,I.tok _,⟨s.toks+1,by rw[zap,a]⟩,q⟩
def Vd:ui X (.builtin "len") (λE H Q=>∃z,E=[.str z]/\z.length<=sizeLine/\Q (.int z.length) H):=by
 intro pn s G H E us Q I r h;obtain⟨z,rfl,a,q⟩:=h;obtain⟨u,rfl,t,rfl⟩:=sj r;have d:=ku;exact len_str aD ⟨.int z.length,H,I.tok _,⟨_,rfl⟩,q⟩
def ui.or{f:Value}{r a:List V->Hp->VK->Prop}(h:ui X f r)(h':ui X f a):ui X f (λE H Q=>r E H Q\/a E H Q):=by
 intro pn s G H E us Q I rs q;rcases q with q|q
 .exact h pn s G H E us Q I rs q
 exact h' pn s G H E us Q I rs q
def Vc:ui X (.type "list") (λE H Q=>∃p ys,E=[.ref p]/\(SqL X.K H p ys\/SqT X.K H p ys)/\∀l,H l=none->Q (.ref l) (upd H l (.lst ys))):=by
 intro pn s G H E us Q I r h;obtain⟨p,ys,rfl,k,q⟩:=h;obtain⟨u,rfl,B⟩:=sj r;cases B;have x:∀(its:List Value),Vals ys its->ys.length<=sizeLine->∀(h':Heap)(d:Nat),(∀b o',s.heap.get? b=some o'->h'.get? b=some o') ->
   h'.get? s.z=some {cls:=.type "list",dict:=none,data:=.seq its.toArray d,slots:=#[]}->EP X pn G Q (.ref s.z) {s with heap:=h'}:=λits a j h' d g e =>
  ⟨.ref s.z,_,I.laid (t':=s.toks) g (zaj _) (show wk X.prog X.w _ h' _ (.lst ys) from⟨j,its,d,a,e⟩),rfl,q _ (I.hok.fresh (zaj _))⟩
 rcases k with k|k
 .obtain⟨its,a,pl,j⟩:=I.list k;have v:=a.length;obtain⟨o,ho,z,n,y⟩:=pl.isList;exact call_list_seq p (.inl rfl) ho z y (λh' d g e=>x its a j h' d g e) (by simp only[zap] <;> lia)
 obtain⟨its,a,pl,j⟩:=I.tuple k;have v:=a.length;obtain⟨o,ho,z,n,y⟩:=pl;exact call_list_seq p (.inr rfl) ho z y (λh' d g e=>x its a j h' d g e) (by simp only[zap] <;> lia)
def Xn:ui X (.type "tuple") (λE H Q=>∃p ys,E=[.ref p]/\((SqL X.K H p ys/\∀l,H l=none->Q (.ref l) (upd H l (.tup ys)))\/(SqT X.K H p ys/\Q (.ref p) H))):=by
 intro pn s G H E us Q I r h;obtain⟨p,ys,rfl,h⟩:=h;obtain⟨u,rfl,v⟩:=sj r;cases v;rcases h with⟨d,q⟩|⟨d,q⟩
 .obtain⟨its,a,pl,g⟩:=I.list d;have j:=a.length;refine call_tuple_list pl.isList (λh' x=>?_) (by simp only[zap] <;> lia)
  have k:Inv X pn G H {s with heap:=h'}:=I.kept (t':=s.toks) x;have y:Inv X pn G (upd H h'.objs.size (.tup ys)) {s with heap:=h'.push {cls:=.type "tuple",data:=.seq its.toArray}} :=
   k.laid (t':=s.toks) (λb o e=>zac _ e) (zaj _) (show wk X.prog X.w _ _ _ (.tup ys) from⟨g,its,a,IsTup.new _ _,_,zad _ rfl,rfl⟩)
  exact⟨.ref h'.objs.size,_,y,rfl,q _ (k.hok.fresh (zaj _))⟩
 obtain⟨its,a,pl,g⟩:=I.tuple d;exact call_tuple_same pl ⟨.ref p,H,I,rfl,q⟩
def tyV(K:W.Frag)(T:String)(x:V)(H:Hp):Prop:=match x with
 |.str _=>T = "str"
 |.int _=>T = "int"
 |.ref p=>(T = "list"/\∃E,SqL K H p E)\/(T = "tuple"/\∃o,K.lookup p=some o/\o.cls=.type "tuple"/\o.dict=none) \/
   (T = "dict"/\((∃kvs,H p=some (.dK kvs))\/∃kvs,H p=some (.dT kvs)))\/(T = "set"/\∃ds n,H p=some (.set ds n))
 |_=>False
def Ho{x:V}{v:Value}(I:Inv X pn G H s)(r:RelV x v)(ty:tyV X.K T x H) :
  s.TypeIs v T/\∀a,v=.ref a->∃ob,s.heap.get? a=some ob/\ob.dict=none:=by
 cases x with
 |str z =>
  obtain⟨t,rfl⟩:=r;cases (show T = "str" from ty);exact⟨typeIs_str s z t,λ_ e=>nomatch e⟩
 |int i =>
  obtain⟨t,rfl⟩:=r;cases (show T = "int" from ty);exact⟨typeIs_int s i t,λ_ e=>nomatch e⟩
 |ref p =>
  cases r
  rcases ty with⟨rfl,E,j⟩|⟨rfl,o,d,k,g⟩|⟨rfl,d⟩|⟨rfl,ds,n,d⟩
  .obtain⟨its,_,pl,_⟩:=I.list j;refine⟨pl.isList.typeIs,λa e=>?_⟩;cases e;obtain⟨o,n,e,c,g,_⟩:=pl;exact⟨o,e,g⟩
  .refine⟨⟨o,I.kIn p o d,k⟩,λa e=>?_⟩;cases e;exact⟨o,I.kIn _ o d,g⟩
  .have z:∃o,s.heap.get? p=some o/\o.ExactDict:=by
    rcases d with⟨kvs,d⟩|⟨kvs,d⟩
    .obtain⟨_,_,_,_,o,_,_,e,ex,_⟩:=I.hok p _ d;exact⟨o,e,ex⟩
    obtain⟨_,_,_,_,o,_,_,e,ex,_⟩:=I.hok p _ d;exact⟨o,e,ex⟩
   obtain⟨o,e,ex⟩:=z;refine⟨⟨o,e,ex.1⟩,λa e2=>?_⟩;cases e2;exact⟨o,e,ex.2.1⟩
  obtain⟨o,_,_,_,e,ex,_⟩:=I.hok p _ d;refine⟨⟨o,e,ex.1⟩,λa e2=>?_⟩;cases e2;exact⟨o,e,ex.2.1⟩
 |_=>exact False.elim ty
def tBM0(K:W.Frag)(T:String)(r:V->List V->Hp->VK->Prop)(to:TE):TE:=λG H Q=>to G H λx H1=>tyV K T x H1/\r x [] H1 Q
def tBM(K:W.Frag)(T:String)(r:V->List V->Hp->VK->Prop)(to:TE)(t:TA):TE:=λG H Q=>to G H λx H1=>tyV K T x H1/\t G H1 λE H2=>r x E H2 Q
variable{o e:Expr}{es:List Expr}{to:TE}{t:TA}{apos cpos:Pos}{T id:String}{r:V->List V->Hp->VK->Prop}
def Ga(l:PlainAttrs T)(slot:Slot T name id)(e:typeOf (.builtin id)=pure (.type "method_descriptor"))(q:MtR X id r)(ho:PE X o to)(d:autoParam (attributeBase o name X.env (eval o X.env)=eval o X.env) zSr)(a:autoParam ((apos.endLine==cpos.line)=true) zSr):PE X (.Call (.Attribute o name apos) [] [] cpos) (tBM0 X.K T r to):=by
 intro pn s G H Q I h;refine wpAny_Call_method0_late d a (thn (ho pn s G H _ I h) λv s1 Zh=>?_);obtain⟨x,H1,j,g,ty,k⟩:=Zh;obtain⟨h1,h2⟩:=Ho j g ty;exact⟨T,id,l,slot,e,h1,h2,zfG rfl (PySem.evalArgs_none (q pn s1 G H1 x [] v [] Q j g .nil k))⟩
def Q9(B:PlainAttrs T)(slot:Slot T name id)(k:typeOf (.builtin id)=pure (.type "method_descriptor"))(J:MtR X id r)(ho:PE X o to)(L:PA X (e::es) t)(g:autoParam (attributeBase o name X.env (eval o X.env)=eval o X.env) zSr)(j:autoParam (((backTo cpos (starEach (e::es) X.env)).all (λx=>!x.1)&&(backToKw cpos (keywordEach [] X.env)).all (λx=>x.1.isSome)
   && decide ((e::es).length+([]:List Keyword).length+(if ([]:List Keyword).isEmpty then 0 else 1)<30))=true) zSr)(d:autoParam ((apos.endLine==cpos.line)=true) zSr)(D:autoParam (S_ X e es) zSr)(a:autoParam (B_ X es cpos) zSr) :
  PE X (.Call (.Attribute o name apos) (e::es) [] cpos) (tBM X.K T r to t):=by
 intro pn s G H Q I h;refine wpAny_Call_method_late g j d rfl (thn (ho pn s G H _ I h) λv s1 Zh=>?_);obtain⟨x,H1,u,l,ty,z⟩:=Zh;obtain⟨h1,h2⟩:=Ho u l ty;refine⟨T,id,B,slot,k,h1,h2,?_⟩;have q:=L cpos pn s1 G H1 _ u z;rw[D]at q ⊢;refine zfG (by show(false || (backTo cpos (starEach es X.env)).any (·.1))=false;rw[a] <;> rfl) (Calls.evalArgs_plain ?_)
 exact thn q λus s2 ⟨vs,H2,M,r2,y⟩=>J pn s2 G H2 x vs v us Q M l r2 y
end
def MtM(X:Cx)(id:String)(r:V->List V->Hp->VK->Prop):Prop :=
 ∀(pn:List (Addr×Obj))(s:Shared)(G:St)(H:Hp)(x:V)(E:List V)(v:Value)(us:List Value)(Q:VK),Inv X pn G H s->RelV x v->Vals E us->r x E H Q ->
  wpAny X.mo X.A (call (.builtin id) (v::us)) (EP X pn G Q) X.xe s
theorem Vals.one{x:V}{us:List Value}(h:Vals [x] us):∃u,us=[u]/\RelV x u:=by
 cases h with
 |cons r t=>cases t;exact⟨_,rfl,r⟩
def Vals.zero:∀{us:List Value},Vals [] us->us=[]
 |_,.nil=>rfl
theorem Vals.dropLast(h:Vals E us):Vals E.dropLast us.dropLast:=by
 induction h with
 |nil=>exact .nil
 |cons r t ih =>
  cases t with
  |nil=>exact .nil
  |cons q t'=>exact .cons r ih
theorem Vals.rep(h:Vals E us):∀k:Nat,Vals (List.replicate k E).flatten (List.replicate k us).flatten
 |0=>.nil
 |k+1=>by
  rw[zcC,zcC,zdU,zdU];exact Vals.append h (Vals.rep h k)
def Qw{α:Type}(l:List α):l.eraseIdx (l.length-1)=l.dropLast:=by
 induction l with
 |nil=>rfl
 |cons a r ih =>
  cases r with
  |nil=>rfl
  |cons b r =>
   have e:(a::b::r).length-1=((b::r).length-1)+1:=by
    have h1:(a::b::r).length=r.length+2:=rfl;have h2:(b::r).length=r.length+1:=rfl;lia
   rw[e,List.eraseIdx_cons_succ,ih]
   all_goals rfl
theorem Ws(its:List Value):∀(k:Nat)(acc:List Value),
  List.foldl (λd a=>d++a) acc.toArray (List.replicate k its.toArray)=(acc++(List.replicate k its).flatten).toArray
 |0,acc=>by simp
 |k+1,acc=>by
  have e:acc.toArray++its.toArray=(acc++its).toArray:=by simp
  have e2:(acc++its)++(List.replicate k its).flatten=acc++(List.replicate (k+1) its).flatten:=by
   rw[zcC,zdU,zcG]
  rw[<- e2,<- Ws its k (acc++its),<- e,zcC,List.foldl_cons]
variable{l:Addr}
def Inv.lset{its its':List Value}{n:Nat}{f:Array Value->Array Value}{t':Nat}(I:Inv X pn G H s)(k:H l=some (.lst E))(e:s.heap.get? l=some {cls:=.type "list",data:=.seq its.toArray n})(g:f its.toArray=its'.toArray)(d:Vals ys its')(a:ys.length<=sizeLine) :
  Inv X pn G (upd H l (.lst ys)) {s with heap:=s.heap.update l (Obj.mapSeq f),toks:=t'}:=by
 have q:=PySem.IsL.update e f;rw[g]at q;refine I.write (x:=l) (e:=l) (by rw[k];exact zaA) (.inl rfl) (λr u j hu=>(Heap.get?_update_other s.heap (Obj.mapSeq f) (Ne.symm j)).trans hu) ⟨_,q⟩ ?_
 exact⟨a,its',_,d,q⟩
def Inv.lnew(I:Inv X pn G H s)(d:Vals ys its)(a:ys.length<=sizeLine) :
  Inv X pn G (upd H s.z (.lst ys)) {s with heap:=s.heap.push {cls:=.type "list",data:=.seq its.toArray},toks:=t'} :=
 I.laid (λ_ _ q=>zac _ q) (zaj _) ⟨a,its,0,d,zad _ rfl⟩
theorem Inv.fresh(I:Inv X pn G H s):H s.z=none:=I.hok.fresh (zaj _)
def Inv.lstM(I:Inv X pn G H s)(a:H l=some (.lst E)):E.length<=sizeLine/\∃(its:List Value)(n:Nat),Vals E its/\E.length=its.length/\s.heap.get? l=some {cls:=.type "list",data:=.seq its.toArray n}:=by
 obtain⟨z,its,n,r,e⟩:=I.hok l _ a;exact⟨z,its,n,r,r.length,e⟩
def Ss(h:n<=sizeLine):Builtin.List.listTooLong n=false:=by
 unfold Builtin.List.listTooLong;exact zbS aD
def U0:V->List V->Hp->VK->Prop:=λx vs H Q=>∃l E y,x=.ref l/\vs=[y]/\H l=some (.lst E)/\E.length<sizeLine/\Q .non (upd H l (.lst (E++[y])))
def cf:MtM X "list.append" U0:=by
 intro pn s G H x vs v us Q I d g h;obtain⟨l,E,y,rfl,rfl,a,k,q⟩:=h;cases d;obtain⟨u,rfl,j⟩:=g.one;obtain⟨z,its,n,r,hl,e⟩:=I.lstM a;refine zeV F.slot_list_append ⟨_,e,rfl⟩ F.entry_list_append (F.args_list_append_2 _ _) (PySem.list_append l its.toArray n u (by rw[zap];lia)) ⟨e,?_⟩
 refine⟨.non,_,I.lset (its':=its++[u]) a e aE (r.append (.cons j .nil)) ?_,rfl,q⟩
 rw[zLa,List.length_singleton];lia
def Ym:V->List V->Hp->VK->Prop:=λx vs H Q=>∃l b E zs,x=.ref l/\vs=[.ref b]/\H l=some (.lst E)/\H b=some (.lst zs)/\E.length+zs.length<=sizeLine/\Q .non (upd H l (.lst (E++zs)))
def ca:MtM X "list.extend" Ym:=by
 intro pn s G H x vs v us Q I j k h;obtain⟨l,b,E,zs,rfl,rfl,g,J,M,q⟩:=h;cases j;obtain⟨u,rfl,y⟩:=k.one;cases y;obtain⟨z,its,n,r,hl,e⟩:=I.lstM g;obtain⟨L,a,B,r2,D,e2⟩:=I.lstM J;have hsz:its.toArray.size+a.toArray.size<=sizeLine:=by rw[zap,zap];lia
 have d:¬ (!its.toArray.isEmpty&&Builtin.List.listTooLong (its.toArray.size+a.toArray.size))=true:=by
  rw[Ss hsz,Bool.and_false];exact zaT
 refine zeV F.slot_list_extend ⟨_,e,rfl⟩ F.entry_list_extend (F.args_list_extend_2 _ _)
  (AutoSeq1.list_extend_list_list_0 l its.toArray n b a.toArray B d (by rw[zap];lia) aD) ⟨e,e2,?_⟩
 refine⟨.non,_,I.lset (its':=its++a) g e aE (r.append r2) ?_,rfl,q⟩
 rw[zLa];lia
def rPop:V->List V->Hp->VK->Prop:=λx vs H Q=>∃l E y,x=.ref l/\vs=[]/\H l=some (.lst E)/\E[E.length-1]?=some y/\Q y (upd H l (.lst E.dropLast))
def Gj:MtM X "list.pop" rPop:=by
 intro pn s G H x vs v us Q I j k h;obtain⟨l,E,y,rfl,rfl,g,D,q⟩:=h;cases j;have d:=k.zero;subst d;obtain⟨z,its,n,r,hl,e⟩:=I.lstM g;obtain⟨u,hu,B⟩:=r.get D;have a:its.toArray[its.toArray.size-1]?=some u:=by
  show its.toArray[its.length-1]?=some u;rw[<- zeF,<- hl];exact hu
 refine zeV F.slot_list_pop ⟨_,e,rfl⟩ F.entry_list_pop (F.args_list_pop_1 _) (MeetsSeq.list_pop_last l its.toArray n u a (by rw[zap];lia)) ⟨e,?_⟩
 refine⟨y,_,I.lset (its':=its.dropLast) g e ?_ r.dropLast ?_,B,q⟩
 .show its.toArray.eraseIdxIfInBounds (its.toArray.size-1)=its.dropLast.toArray;rw[zap,List.eraseIdxIfInBounds_toArray,Qw]
 rw[List.length_dropLast];lia
def rCat:R2:=λx y H Q=>∃l b E zs,x=.ref l/\y=.ref b/\H l=some (.lst E)/\H b=some (.lst zs)/\E.length+zs.length<=sizeLine/\∀p,H p=none->Q (.ref p) (upd H p (.lst (E++zs)))
def z0u:OpR X (binaryOp .Add) rCat:=by
 intro pn s G H x y v u Q I g d h;obtain⟨l,b,E,zs,rfl,rfl,k,B,M,q⟩:=h;cases g;cases d;obtain⟨z,its,n,r,hl,e⟩:=I.lstM k;obtain⟨J,a,L,r2,j,e2⟩:=I.lstM B;refine PySem.P.add_list e e2 ?_ (by rw[zap,zap];lia)
 have D:its.toArray++a.toArray=(its++a).toArray:=by simp
 rw[D];exact⟨.ref _,_,I.lnew (t':=s.toks) (r.append r2) (by rw[zLa];lia),rfl,q _ I.fresh⟩
def rRep:R2:=λx y H Q=>∃l k E,x=.ref l/\y=.int k/\H l=some (.lst E)/\-(2 ^ 63)<=k/\k<2 ^ 63/\E.length*k.toNat<=sizeLine /\
 ∀p,H p=none->Q (.ref p) (upd H p (.lst (List.replicate k.toNat E).flatten))
def Dr{α:Type}(E:List α)(k:Nat):(List.replicate k E).flatten.length=k*E.length:=by
 induction k with
 |zero=>simp
 |succ k ih=>rw[zcC,zdU,zLa,ih,Nat.succ_mul,Nat.add_comm]
def z0p:OpR X (binaryOp .Mult) rRep:=by
 intro pn s G H x y v u Q I O N h;obtain⟨l,k,E,rfl,rfl,R,h1,h2,M,q⟩:=h;cases O;obtain⟨t,rfl⟩:=N;obtain⟨z,its,n,r,hl,e⟩:=I.lstM R;have j:its.toArray.size*k.toNat<=sizeLine:=by rw[zap,<- hl];exact M
 have D:¬ its.toArray.size*k.toNat > (2 ^ 63-1) / 8:=by
  have:(sizeLine:Nat)<=(2 ^ 63-1) / 8:=by decide
  lia
 have B:¬ (!Builtin.List.listFitsIndex k)=true:=by
  rw[fitsIndex_both h1 h2];exact zaT
 have d:¬ Builtin.List.listTooLong (its.toArray.size*k.toNat)=true:=by
  rw[Ss j];exact zaT
 have g:List.foldl (λL J=>L++J) #[] (List.replicate (if its.toArray.isEmpty=true then 0 else k.toNat) its.toArray)=(List.replicate k.toNat its).flatten.toArray:=by
  have V:∀m:Nat,List.foldl (λL J=>L++J) #[] (List.replicate m its.toArray)=(List.replicate m its).flatten.toArray:=λm=>by
   have:=Ws its m [];rw[List.nil_append]at this;exact this
  rw[V];cases its with
  |nil=>simp
  |cons a r'=>rw[zaI aE]
 refine wpAny_binaryOp_repeat_ref (T:="list") (U:="int") aB ⟨_,e,rfl⟩ (λs'=>typeIs_int s' k t) noFill_list_mul F.fills_int_mul F.slot_int_rmul repeat_list F.slot_int_index.lookup
  (zeV F.slot_int_rmul (typeIs_int s k t) F.entry_int_rmul (F.args_int_rmul_2 _ _) (int___rmul___int_list k t l its.toArray n)
   ⟨e,rfl,⟨_,e,rfl⟩,zeV F.slot_list_mul ⟨_,e,rfl⟩ F.entry_list_mul (F.args_list_mul_2 _ _) (AutoListH.list___mul___list_int_3 l its.toArray n k t B D d) ⟨e,?_⟩⟩)
 rw[g];exact⟨.ref _,_,I.lnew (t':=s.toks) (r.rep k.toNat) (by rw[Dr,Nat.mul_comm];exact M),rfl,q _ I.fresh⟩
section
open PySem PySem.W PySem.Calls PyProof.Rows
def cv{P:Params}:∀(ns:List Int)(vs:List Value),WellAll P h vs (ns.map WData.int)->IntsAre vs ns:=by
 intro ns
 induction ns with
 |nil =>
  intro vs w;rw[zbV]at w;cases w;exact .nil
 |cons n ns ih =>
  intro vs w;rw[zaB]at w;cases w with
  |cons a b =>
   cases a
   exact .cons _ _ (ih _ b)
def Py{l:OpenLaw}{n:Nat}(z:l.most=some n){P:Params}(e:l.row.toRowW.claim.pre args=true)(u:WellAll P h vals args) :
  ∃a vs ns,vals=[Value.ref a]/\args=[WData.list (ns.map WData.int)]/\h.get? a=some {cls:=.type "list",data:=.seq vs.toArray}/\IntsAre vs ns/\ns.length<=n:=by
 have v:WShape.hasAll [] args [.list .int]=true:=(pre_splitW e).1;have x:l.pre.holds [] {args:=args}=true:=(pre_splitW e).2;obtain⟨d,r,rfl,h1,h2⟩:=hasAllW_cons v;obtain rfl:=hasAllW_nil h2;obtain⟨E,rfl,B⟩:=hasW_list h1;obtain⟨ns,rfl⟩:=items_int B;have g:ns.length<=n:=by
  unfold OpenLaw.pre at x;have k:(WTm.not (.lt (.lit (.int (n:Int))) (.len (.arg 0)))).holds [] {args:=[.list (ns.map .int)]}=true:=by
   have k:=(holds_andW x).1;rw[z]at k;exact k
  have j:=condW_of k (w_not (w_lt w_lit (w_len_list (w_arg rfl))));rw[zLm]at j;refine Nat.le_of_not_lt λq=>?_;have y:(n:Int)<((ns.length:Nat):Int):=by lia
  first
   |(rw[zdQ y]at j;exact absurd j aB)
   |(simp at j;lia)
 cases u with
 |cons w1 w2 =>
  cases w2
  cases w1 with
  |list ho hall=>exact⟨_,_,ns,rfl,rfl,ho,cv ns _ hall,g⟩
def Oe(l:OpenLaw)(args:List WData):l.row.toRowW.claim.post args (.bool true) args=true :=
 postW_of (r:=l.row.toRowW) (X:=(true==true))
  (show WShape.has [] (.bool true) .bool=true by first|rfl|decide|simp[WShape.has,WShape.arms,WShape.armsAll])
  (show(WTm.eq .res (.lit (.bool true))).value [] {args:=args,res:=some (.bool true),after:=args}=some (.bool (true==true)) from w_eq_bool (w_res rfl) w_lit) rfl
def attach_call{l:OpenLaw}{n:Nat}{XP:(Str->Option Value)->Heap->Prop}{YP:World->Heap->Prop}{d:DefRec}(W:l.most=some n)(L:d.params.defaults=[])(call:∀ (w:World) (g e:Shared) (mg D:Str->Option Value) (y:Addr) (o:Obj) (B z k:Value) (a:Addr) (vs:List Value) (ns:List Int),
   Ground q loose [] XP w g mg D e.heap->YP w e.heap ->
   e.heap.get? y=some o->o.data=.func (docDef d.name d.params d.body d.scope B z k)->e.heap.CodeRec z d.name->mg d.name=some (.ref y) ->
   e.heap.get? a=some {cls:=.type "list",data:=.seq vs.toArray}->IntsAre vs ns->ns.length<=n->e.gens=#[] ->
   codeAny (model l.prog w) callerA (.call (.ref y) ⟨[.ref a],[]⟩) (λr s'=>r=.ok (.ret (.bool true))/\OldK e.heap s'.heap/\s'.os=e.os/\AllBare s'.gens) e) :
  WalkO q loose XP YP l.row.toRowW d [] (λf vs=>PySem.call f vs):=by
 intro w g e mg D G Y y o B z k dV kV ho hd M O J hg Q vals as u N R I a0;obtain rfl:dV=.none:=Dflts.none O L;obtain rfl:kV=.none:=Dflts.noKw O;obtain⟨a,vs,ns,rfl,rfl,v,j,x⟩:=Py W u I;refine enter_call (zfO (call w g e mg D y o B z k a vs ns G Y ho (fd_plain hd) M J v j x hg) λr s' V=>?_);obtain⟨rfl,h2,h3,h4⟩:=V;exact⟨.inl ⟨.bool true,.bool true,[],rfl,λ_=>rfl,.bool true,Oe l _,λ_=>⟨List.Pairwise.nil,λ_ Z=>(nomatch Z)⟩⟩,h2,h3,h4⟩
end
theorem d8:∀{vs:List Value}{ns:List Int},IntsAre vs ns->Vals (ns.map V.int) vs
 |_,_,.nil=>.nil
 |_,_,.cons n t h=>.cons ⟨t,rfl⟩ (d8 h)
def Only(H:Hp):Prop:=∀b,H b=none\/∃o E,H b=some (.frz o (.lst E))
def J6{K:W.Frag}{mg Z:Str->Option Value}{k:Nat}{fa a:Addr}{x:Str}{sp:Sp}{s₁:Shared}{vs:List Value}(KX:K.In s₁.heap)(L:s₁.heap.Ns mainGlobals mg)(j:s₁.heap.Ns builtinsNs Z)(a4:∀ x:Str,x≠"__name__"->Z x=bootBuiltins x)(M:s₁.heap.NoLimit)(hg:s₁.gens=#[])(Q:s₁.heap.get? a=some {cls:=.type "list",data:=.seq vs.toArray})(hi:IntsAre vs ns)(hl:ns.length<=sizeLine)(hr:Room k callerA)(F:∀ base:Heap,K.In base->base.Ns mainGlobals mg->FnOk P w K mg base CX k fa fd [x] sp)(B:∀ (s:Shared) (u:Value),BindsTo s fd ⟨[u],[]⟩ [(x,u)])(a0:∀ H:Hp,Only H->SqL K H a (ns.map V.int)->sp [.ref a] H (λv _=>v=.bl true) λ_ _ _=>False)(a5:∀ H e s',CX [] H s₁ (λ_ _ _=>False) e s'->False) :
  codeAny (model P w) callerA (.call (.ref fa) ⟨[.ref a],[]⟩) (λr s'=>r=.ok (.ret (.bool true))/\OldK s₁.heap s'.heap/\s'.os=s₁.os/\AllBare s'.gens) s₁:=by
 have rv:=d8 hi;have G:=hi.length;have y:∀H:Hp,Only H->SqL K H a (ns.map V.int)->HOk P w H s₁.heap->(∀b,H b≠none->b=a)->(H a≠none->K.lookup a=none) ->
   codeAny (model P w) callerA (.call (.ref fa) ⟨[.ref a],[]⟩) (λr s'=>r=.ok (.ret (.bool true))/\OldK s₁.heap s'.heap/\s'.os=s₁.os/\AllBare s'.gens) s₁:=by
  intro H hO hS J hA hK;have g:∀{b:Addr}{o:Obj},s₁.heap.get? b=some o->H b=none->(hidT s₁.heap H).get? b=some o:=λe n=>Jf e n;have R:∀{b:Addr}{o:Obj}{es:Array DictEntry}{ep:Nat},s₁.heap.get? b=some o->o.data=.dict es ep->H b=none:=λ{b o es ep} e d=>by
   cases q:H b with
   |none=>rfl
   |some u =>
    have e':b=a:=hA b (by rw[q];simp)
    subst e';rw[Q]at e;cases e;have d':Data.seq vs.toArray _=Data.dict es ep:=d;cases d'
  have l:∀{b:Addr}{m:Str->Option Value},s₁.heap.Ns b m->(hidT s₁.heap H).Ns b m:=λ{b m} ⟨o,es,ep,e,d,r⟩=>⟨o,es,ep,g e (R e d),d,r⟩;have N:K.In (hidT s₁.heap H):=λb o e=>g (KX b o e) (by
   cases q:H b with
   |none=>rfl
   |some u =>
    have e':b=a:=hA b (by rw[q];simp)
    subst e';rw[hK (by rw[q];simp)]at e;cases e)
  have hM:Mod K mg (hidT s₁.heap H):=⟨N,l L,⟨Z,l j,a4⟩,let ⟨mc,h1,h2⟩:=M;⟨mc,l h1,h2⟩⟩
  have e0:Env0 P w K mg (hidT s₁.heap H) callerA [] s₁ H:=⟨rfl,hM,λb o e=>Dh e,Nat.le_of_eq (Nn _ _),zaA,λb j=>absurd (show b∈([]:List Addr) from j) aE,J,.of_eq hg⟩
  refine zfO ((F _ N (l L)).run callerA [] s₁ H ⟨[.ref a],[]⟩ [.ref a] [.ref a] _ _ hr e0 (B s₁ (.ref a)) (.cons rfl .nil) (a0 H hO hS)) λr s' h=>?_;cases r with
  |error e=>exact(a5 H e s' h).elim
  |ok fl =>
   cases fl with
   |next=>exact False.elim h
   |brk=>exact False.elim h
   |cont=>exact False.elim h
   |ret u =>
    obtain⟨v,H',os,O,un,I,r',q⟩:=h;have q':v=.bl true:=q;subst q';obtain rfl:u=Value.bool true:=r';refine⟨rfl,OldK.of_keep λb o e=>?_,os,O⟩;cases q:H b with
    |none=>exact un.keep b o e q (by intro z;exact absurd (show b∈([]:List Addr) from z) aE) aE
    |some u =>
     rcases hO b with z|⟨ob,E,z⟩
     .rw[q]at z;cases z
     have z2:=un.frzs b ob _ z;obtain⟨e1,_⟩:=J b _ z;obtain⟨e2,_⟩:=I b _ z2;rw[e]at e1;cases e1;exact e2
 cases hk:K.lookup a with
 |some o =>
  have e:=KX a o hk;rw[Q]at e;cases e;refine y (λ_=>none) (λ_=>.inl rfl) (.inr ⟨_,vs.toArray,_,hk,rfl,rfl,rfl,by rw[zap,G];exact hl,by simpa using rv⟩) (λb u z=>by have D:(none:Option HO)=some u:=z;cases D) (λb z=>absurd rfl z) λz=>absurd rfl z
 |none =>
  refine y (λb=>if b=a then some (.frz {cls:=.type "list",data:=.seq vs.toArray} (.lst (ns.map V.int))) else none) (λb=>?_) (.inl (.inr ⟨{cls:=.type "list",data:=.seq vs.toArray},zaK rfl⟩)) (λb u z=>?_) (λb z=>?_) λ_=>hk
  .by_cases j:b=a
   .exact .inr ⟨_,_,zaK j⟩
   exact .inl (zaI j)
  .by_cases j:b=a
   .have D:=(zaK j).symm.trans z;cases D;subst j;exact⟨Q,by rw[zLm];exact hl,vs,_,rv,Q⟩
   have D:=(zaI j).symm.trans z;cases D
  by_cases j:b=a
  .exact j
  exact absurd (zaI j) z
def walk_of{l:W.OpenLaw}{n k:Nat}{XP:(Str->Option Value)->Heap->Prop}{YP:World->Heap->Prop}{d:DefRec}{K:Params->W.Frag}{CX:World->CXT}{sp:World->Sp}{x:Str}(Q:l.most=some n)(I:n<=sizeLine)(L:d.params.defaults=[])(hr:Room k callerA)(hY:∀ (w:World) (h:Heap),YP w h->(K w.params).In h)(F:∀ (w:World) (mg:Str->Option Value) (B:Addr) (h:Heap),(K w.params).In h->h.Ns mainGlobals mg->mg d.name=some (.ref B) ->
   ∃ fd:FuncData,(∀ (s:Shared) (u:Value),BindsTo s fd ⟨[u],[]⟩ [(x,u)]) /\
    ∀ base:Heap,(K w.params).In base->base.Ns mainGlobals mg->FnOk l.prog w (K w.params) mg base (CX w) k B fd [x] (sp w))(D:∀ (w:World) (H:Hp) (a:Addr) (ns:List Int),ns.length<=n->Only H->SqL (K w.params) H a (ns.map V.int)->sp w [.ref a] H (λv _=>v=.bl true) λ_ _ _=>False)(M:∀ (w:World) (H:Hp) (s:Shared) (e:Value) (s':Shared),CX w [] H s (λ_ _ _=>False) e s'->False) :
  W.WalkO q loose XP YP l.row.toRowW d [] (λf vs=>PySem.call f vs):=by
 refine ZZ.attach_call Q L λw N y mg mb B o pm cd a0 a vs ns G Y ho hd Z J z r j R=>?_;have O:=hY w _ Y;obtain⟨fd,hb,hF⟩:=F w mg B _ O G.T.g J;exact J6 O G.T.g G.T.b G.T.builtins G.T.nolimit R z r (zak j I) hr hF hb (λH hO hS=>D w H a ns j hO hS) λH e s'=>M w H y e s'
abbrev CX0:CXT:=λ_ _ _ _ _ _=>False
abbrev E0:XK:=λ_ _ _=>False
def U2:bw CX0 X E0:=λ_ _ _ _ _ _ _ h=>h.elim
structure Fun(K:W.Frag)(x qual:Str)(st:Stmt)(f:Addr)(fd:FuncData):Prop where
 ex:∃(oc:Value)(od:Option Addr)(kV doc pm:Value)(an:Option Addr)(qZ ct:Value)(osl:Array (Option Value)),
  fd=W.fnOf x qual (vc st) (yr st) (zd st) .none kV doc pm an qZ ct/\K.lookup f=some ⟨oc,od,.func fd,osl⟩/\W.codeIn K qZ qual=true
 kp:W.keepIn K (.ref f)=true
variable{mg:Str->Option Value}{base:Heap}
def C6{x a:Str}{st:Stmt}{f:Addr}{fd:FuncData}{N ps:List Str}{k:Nat}{sp:Sp}(F:Fun K x a st f fd)(ds:zn N ps (zd st))(len:∀ vs H Q xs,sp vs H Q xs->vs.length=ps.length)(g:∀ (A:Around) (outer:List Env) (s:Shared) (H:Hp) (vs:List V) (Q:VK) (xs:XK),Room k (A.deeper (envOfC a (zd st) s.z f fd.code))->sp vs H Q xs ->
   ∃ t,PSs (cxOf CX0 P w K mg base N a (zd st) f fd.code A outer s H xs).nox (yr st) t/\t {nx:=λ_ H'=>Q .non H',rt:=Q} (start N vs) H):FnOk P w K mg base CX0 (k+1) f fd ps sp:=by
 obtain⟨y,v,kV,r,u,B,qZ,z,j,rfl,l,e⟩:=F.ex;refine z2h l e ds len λA outer s H vs Q xs hr d=>?_;obtain⟨t,h,q⟩:=g A outer s H vs Q xs hr d;exact⟨t,h.nox,q⟩
def Fun.ok{x a:Str}{st:Stmt}{f:Addr}{fd:FuncData}{N ps:List Str}{k:Nat}{sp:Sp}(F:Fun K x a st f fd)(ds:zn N ps (zd st))(len:∀ vs H Q xs,sp vs H Q xs->vs.length=ps.length)(d:∀ (qZ:Value) (A:Around) (outer:List Env) (s:Shared) (H:Hp) (vs:List V) (Q:VK) (xs:XK),Room k (A.deeper (envOfC a (zd st) s.z f qZ))->sp vs H Q xs ->
   ∃ t,PSs (cxOf CX0 P w K mg base N a (zd st) f qZ A outer s H xs).nox (yr st) t/\t {nx:=λ_ H'=>Q .non H',rt:=Q} (start N vs) H):FnOk P w K mg base CX0 (k+1) f fd ps sp:=C6 F ds len (d fd.code)
def Fun.binds{x a:Str}{st:Stmt}{f:Addr}{fd:FuncData}{ps:List Str}(F:Fun K x a st f fd)(h:∀ (kV d e:Value) (j:Option Addr) (qZ g:Value) (us:List Value),us.length=ps.length->bindArgs (W.fnOf x a (vc st) (yr st) (zd st) .none kV d e j qZ g) ⟨us,[]⟩=pure (ps.zip us)):uj K fd ps []:=by
 obtain⟨r,q,kV,d,e,j,qZ,g,k,rfl,u,l⟩:=F.ex;exact .all (h kV d e j qZ g)
def Nr{x a:Str}{st:Stmt}{f:Addr}{u:Value}{r q:Option Addr}{e:Array (Option Value)}{kV d g qZ j:Value}(l:K.lookup f=some ⟨u,r,.func (W.fnOf x a (vc st) (yr st) (zd st) .none kV d g q qZ j),e⟩)(c:W.codeIn K qZ a=true)(k:W.keepIn K (.ref f)=true):Fun K x a st f (W.fnOf x a (vc st) (yr st) (zd st) .none kV d g q qZ j):=⟨⟨u,r,kV,d,g,q,qZ,j,e,rfl,l,c⟩,k⟩
def iteF{A B:Prop}(h:B):if false=true then A else B:=by
 rw[zaI zaT];exact h
def iteT{A B:Prop}(h:A):if true=true then A else B:=by
 rw[zaK rfl];exact h
def Same(H H':Hp):Prop:=∀b o,H b=some o->H' b=some o
def Same.refl(H:Hp):Same H H:=λ_ _ h=>h
def Same.trans(a:Same H H1)(b:Same H1 H2):Same H H2:=λc o h=>b c o (a c o h)
def Same.free(e:Same H H')(h:H' l=Option.none):H l=Option.none:=by
 cases q:H l with
 |none=>rfl
 |some o =>
  rw[e l o q]at h;cases h
theorem Nw{α a:Type}{f:α->a->Sem (ForInStep a)}(R:List α->a->Prop)(h:∀ x l c,R (x::l) c->∃ c',f x c=pure (.yield c')/\R l c') :
  ∀(l:List α)(c:a),R l c->∃c',forIn l c f=pure c'/\R [] c'
 |[],c,r=>⟨c,rfl,r⟩
 |x::l,c,r=>by
  obtain⟨j,e,d⟩:=h x l c r;obtain⟨g,e2,r2⟩:=Nw R h l j d;exact⟨g,by rw[zfA,e,pure_bind];exact e2,r2⟩
def T7{x:Str}{c:Addr}(h:env.cells.lookup x=some c):cellOf env x=pure c:=by
 unfold cellOf;rw[h]
def Y0(h:∀ y∈scope.names,y.2=.free->∃ c,env.cells.lookup y.1=some c) :
  ∃cl,closureFor scope env=pure cl/\(∀x c,cl.lookup x=some c->env.cells.lookup x=some c)/\∀y∈scope.names,y.2=.free->∃c,cl.lookup y.1=some c:=by
 let f:Str×NameKind->List (Str×Addr)->Sem (ForInStep (List (Str×Addr))):=λx r=>match x with
  |(name,kind)=>if (kind==.free)=true then(do let a <- cellOf env name;pure (.yield ((name,a)::r))) else pure (.yield r)
 have q:=Nw (f:=f) (λj cs=>(∀x c,cs.lookup x=some c->env.cells.lookup x=some c)/\(∀y∈scope.names,y.2=.free->(∃c,cs.lookup y.1=some c)\/y∈j)/\∀y∈j,y∈scope.names) ?_ scope.names []
  ⟨λx c e=>(by cases e),λy d _=>.inr d,λ_ d=>d⟩
 .obtain⟨cl,e,u,p2,_⟩:=q;refine⟨cl,?_,u,λy d g=>(p2 y d g).elim (λz=>z) λz=>(by cases z)⟩
  have e1:closureFor scope env=(forIn scope.names [] f >>= λr=>pure r):=rfl;rw[e1,e,pure_bind]
 rintro⟨n,k⟩ l cs ⟨u,p2,p3⟩;have D:=p3 _ (zao ..);by_cases hk:k=.free
 .subst hk;obtain⟨c,B⟩:=h _ D rfl;refine⟨(n,c)::cs,?_,λx v e=>?_,λy d g=>?_,λy d=>p3 y (zal _ d)⟩
  .show(if ((NameKind.free==NameKind.free)=true) then _ else _)=_
   rw[zaK aB,T7 B,pure_bind]
  .rw[zcU]at e;cases hx:x==n with
   |true =>
    rw[hx]at e;have ex:x=n:=zfY hx;subst ex;cases e;exact B
   |false =>
    rw[hx]at e;exact u x v e
  rcases p2 y d g with⟨v,e⟩|z
  .refine .inl ?_;rw[zcU];cases hx:y.1==n with
   |true=>exact⟨c,rfl⟩
   |false=>exact⟨v,e⟩
  rcases zam.mp z with rfl|z
  .exact .inl ⟨c,by rw[zcU];simp⟩
  exact .inr z
 refine⟨cs,?_,u,λy d g=>?_,λy d=>p3 y (zal _ d)⟩
 .show(if ((k==NameKind.free)=true) then _ else _)=_
  rw[zaI (by simpa using hk)]
 rcases p2 y d g with z|z
 .exact .inl z
 rcases zam.mp z with rfl|z
 .exact absurd g hk
 exact .inr z
theorem ud{env:Env}:∀{names:List (Str×NameKind)}{x:Str},names.lookup x=some .free ->
  (names.map λ(n,k)=>if (k==NameKind.free&&env.scope.kind==.function&&env.kindOf n==some .cell) then(n,NameKind.cell) else(n,k)).lookup x=some .cell \/
  (names.map λ(n,k)=>if (k==NameKind.free&&env.scope.kind==.function&&env.kindOf n==some .cell) then(n,NameKind.cell) else(n,k)).lookup x=some .free
 |[],_,h=>by cases h
 |(n,k)::r,x,h=>by
  have a:=@ud env r x;rw[zaB];cases hx:x==n with
  |true =>
   rw[zcU,hx]at h;cases h;by_cases hc:(NameKind.free==NameKind.free&&env.scope.kind==.function&&env.kindOf n==some .cell)=true
   .refine .inl ?_;show List.lookup x ((if (NameKind.free==NameKind.free&&env.scope.kind==.function&&env.kindOf n==some .cell)=true then(n,NameKind.cell) else(n,NameKind.free))::_)=_
    rw[zaK hc,zcU,hx]
   refine .inr ?_;show List.lookup x ((if (NameKind.free==NameKind.free&&env.scope.kind==.function&&env.kindOf n==some .cell)=true then(n,NameKind.cell) else(n,NameKind.free))::_)=_
   rw[zaI hc,zcU,hx]
  |false =>
   rw[zcU,hx]at h;have e:∀(b:Bool)(l:List (Str×NameKind)),List.lookup x ((if b=true then(n,NameKind.cell) else(n,k))::l)=l.lookup x:=λb l=>by
    cases b with
    |true=>rw[zaK rfl,zcU,hx]
    |false=>rw[zaI zaT,zcU,hx]
   rcases a h with q|q
   .exact .inl ((e _ _).trans q)
   exact .inr ((e _ _).trans q)
def gk(g:∀ y∈scope.names,y.2≠.cell){x:Str}(h:(relabel scope env).names.lookup x=some k)(q:k=.cell\/k=.free) :
  ∃y∈scope.names,y.1=x/\y.2=.free:=by
 have l:=zcN h;obtain⟨⟨n,a⟩,j,e⟩:=zah.mp l;refine⟨(n,a),j,?_⟩;have d:(if (a==NameKind.free&&env.scope.kind==.function&&env.kindOf n==some .cell)=true then(n,NameKind.cell) else(n,a))=(x,k):=e
 by_cases hc:(a==NameKind.free&&env.scope.kind==.function&&env.kindOf n==some .cell)=true
 .rw[zaK hc]at d;cases d;refine⟨rfl,?_⟩;rw[zcL,zcL]at hc;exact zfY hc.1.1
 rw[zaI hc]at d;cases d;rcases q with rfl|rfl
 .exact absurd rfl (g _ j)
 exact⟨rfl,rfl⟩
noncomputable abbrev x4(X:Cx)(N':List Str)(scope:Scope)(cl:List (Str×Addr))(C:Addr)(fp:List Addr)(s₀:Shared)(H_:Hp):Cx :=
 {X with N:=N',s₀:=s₀,H_:=H_,env:=compEnvC scope cl C X.env,outer:=X.stack,ex:=fp,fn:=λ_=>false,pn:=[],xe:=λ_ _=>False}
structure zy(psc scope:Scope)(T F:List Str):Prop where
 kind:scope.kind=.function
 nocell:∀y∈scope.names,y.2≠.cell
 loc:∀y∈scope.names,y.2=.local->scope.names.lookup y.1=some .local
 fr:∀y∈scope.names,y.2=.free->psc.names.lookup y.1=some .cell\/psc.names.lookup y.1=some .free
 nd:(T++F).Nodup
 ffree:∀x∈F,scope.names.lookup x=some .free
section
variable{scope:Scope}{T F:List Str}{cl:List (Str×Addr)}{fp:List Addr}{js:List Nat}
def bm(I:Inv X pn G H s)(ds:zy X.env.scope scope T F):∀y∈scope.names,y.2=.free->∃c,X.env.cells.lookup y.1=some c:=λy a d=>I.ok.has y.1 (ds.fr y a d)
def De(I:Inv X pn G H s)(ds:zy X.env.scope scope T F)(j:∀ x c,cl.lookup x=some c->X.env.cells.lookup x=some c)(p2:∀ y∈scope.names,y.2=.free->∃ c,cl.lookup y.1=some c)(r:s.z<=C)(g:∀ b∈fp,FpOk X pn H b)(l:∀ b∈fp,b<s.z) :
  (x4 X (T++F) scope cl C fp s H).Ok where
 mod:=I.ok.mod
 kind:=ds.kind
 glob:=I.ok.glob
 blt:=I.ok.blt
 above:=r
 inj:=λx y c a k=>I.ok.inj x y c (j x c a) (j y c k)
 has:=λx a=>by
  have q:∃y∈scope.names,y.1=x/\y.2=.free:=by
   rcases a with a|a
   .exact gk (env:=X.env) ds.nocell (show(relabel scope X.env).names.lookup x=some .cell from a) (.inl rfl)
   exact gk (env:=X.env) ds.nocell (show(relabel scope X.env).names.lookup x=some .free from a) (.inr rfl)
  obtain⟨y,k,rfl,g⟩:=q;exact p2 y k g
 cab:=λx c h=>by cases h
 hd:=I.ok.hd
 frames:=I.ok.frames
 stk:=.inl rfl
 exf:=λb d=>⟨zaL (zaW (l b d) r),λx c e=>(g b d).2.2.2.2.1 x c (j x c e)⟩
 bs:=I.bs
 bsz:=zak I.ok.bsz I.sz
 noex:=λb o e d=>by
  rcases(g b d).2.2.2.1 with z|z
  .exact I.ok.noex b o e z
  exact absurd (zaW (zae (I.ok.bs b o e).1) z) (zcS _)
 exfs:=λb d z=>by
  rcases zam.mp (I.stkSub b z) with q|q
  .exact(g b d).2.1 q
  exact(g b d).2.2.1 q
 funs:=I.stack
 frf:=I.stkFree
noncomputable def st0(T:List Str)(js:List Nat)(G:St):St:=List.replicate T.length none++js.map λj=>(G[j]?).join
theorem jx{α d:Type}{R:α->d->Prop}:∀{l:List α}{r:List d}{i:Nat}{b:d},Paired R l r->r[i]?=some b->∃a,l[i]?=some a/\R a b
 |_,_,_,_,.nil,e=>by simp at e
 |_,_,0,_,.cons h _,e=>by simp at e;subst e;exact⟨_,rfl,h⟩
 |_,_,i+1,b,.cons _ t,e=>by
  obtain⟨a,j,g⟩:=jx (i:=i) (b:=b) t (by simpa using e)
  exact⟨a,by simpa using j,g⟩
def Jc(I:Inv X pn G H s)(ds:zy X.env.scope scope T F)(M:∀ x c,cl.lookup x=some c->X.env.cells.lookup x=some c)(p2:∀ y∈scope.names,y.2=.free->∃ c,cl.lookup y.1=some c)(D:Paired (λx j=>X.N[j]?=some x) F js)(W:s.z<=C)(hf:∀ b∈fp,FpOk X pn H b)(R:∀ b∈fp,b<s.z)(hn:h₁.Ns C m)(O:∀ b o,s.heap.get? b=some o->h₁.get? b=some o):Inv (x4 X (T++F) scope cl C fp s H) [] (st0 T js G) H {s with heap:=h₁,toks:=t'}:=by
 refine⟨De I ds M p2 W hf R,rfl,I.bare,Un.kept O,⟨m,hn,λi x v h1 h2 h3=>?_⟩,λx c e=>?_,I.hok.fresh W,λx c e=>I.freeC x c (M x c e),λp hp=>(by cases hp),I.hok.kept O,?_⟩
 .have hi:T.length<=i:=by
   rcases zdF i T.length with z|z
   .exfalso;unfold st0 at h2;rw[zaG (by simpa using z),zcE]at h2
    split at h2 <;> cases h2
   exact z
  unfold st0 at h2;rw[zaF (by simpa using hi),zai,zcB]at h2
  cases ej:js[i-T.length]? with
  |none=>rw[ej]at h2;cases h2
  |some j =>
   rw[ej]at h2;have d:(G[j]?).join=some v:=zaP h2;obtain⟨x',B,hX⟩:=jx D ej;have L:(T++F)[i]?=some x:=h1;rw[zaF hi,B]at L;cases L;have r:G[j]?=some (some v):=by
    cases e:G[j]? with
    |none=>rw[e]at d;cases d
    |some o=>rw[e]at d;cases d;rfl
   have Q:x∈F:=zan B;have a:=ds.ffree x Q;have g:=ds.fr _ (zcN a) rfl;obtain⟨m0,_,look⟩:=I.loc;obtain⟨u,Z,lk⟩:=look j x v hX r (.inr g);refine⟨u,Z,?_⟩;rcases lk with⟨k,_⟩|⟨_,c,hc,l⟩
   .exfalso;have V:X.env.scope.names.lookup x=some .local:=k;rcases g with z|z
    .rw[V]at z;cases z
    rw[V]at z;cases z
   obtain⟨c',J⟩:=p2 _ (zcN a) rfl;have e2:=M x c' J;rw[hc]at e2;cases e2;refine .inr ⟨?_,c,J,l.keeps O⟩;exact ud (env:=X.env) a
 .obtain⟨v,q⟩:=I.cell x c (M x c e);exact⟨v,q.keeps O⟩
 show(st0 T js G).length=(T++F).length;unfold st0;rw[zLa,zLa,zcB,zLm,(zfW D)]
def Jd(I:Inv X pn G H s)(J:Inv (x4 X N' scope cl C fp s H) [] σ' H' s')(a:∀ b∈fp,FpOk X pn H b):Inv X pn G H' s' :=
 I.call' (ch:=fp) (show s'.os=s.os from J.os) J.base J.hok J.bare λb d=>⟨(a b d).2.2.2.1,(a b d).2.1,(a b d).2.2.2.2.1,(a b d).2.2.2.2.2⟩
end
section
variable{R:Result->Shared->Prop}
def P2(I:Nat->Shared->Prop)(u:∀ n s,I n s->wpAny (model prog w) A (pyNext it) (λr d=>match r with
   |none=>R (.ok .next) d
   | some v=>wpAny (model prog w) A (letOwnedTupleGo target it v) (λ_ k=>wpAny (model prog w) A (assign target env v) (λ_ j =>
     wpAny (model prog w) A (forIn ifs true λc r=>if r=true then do let ok <- isTrue c env (eval c env);pure (ForInStep.yield ok) else pure (ForInStep.yield r)) (λok a =>
      if ok=true then wpAny (model prog w) A (eval elt env) (λx g=>wpAny (model prog w) A (call (.builtin "list.append") [acc,x]) (λ_ e=>∃ m,m<n/\I m e) (λ_ _=>False) g) (λ_ _=>False) a
      else ∃ m,m<n/\I m a) (λ_ _=>False) j) (λ_ _=>False) k) (λ_ _=>False) d) (λ_ _=>False) s)(n:Nat)(h:I n s):codeAny (model prog w) A (.compLoop (.ListComp elt [⟨target,iter,ifs,0⟩] scope pos) 0 it acc env) R s:=by
 refine codeAny_loop rfl I (λn s G=>?_) n h;show wpAny _ A ((compTurn (.ListComp elt [⟨target,iter,ifs,0⟩] scope pos) 0 it acc env).onRaise (λx=>do noteFrame x env;theTreesLotGoes x)) _ _ s
 refine wpAny_noted (wpAny_noRaise ?_);rw[compTurn_list];refine zaa (wpAny_standAt (zaa (thn (u n s G) λr d q=>?_)));cases r with
 |none=>exact zab q
 |some v =>
  refine zaa (thn q λ_ k D=>zaa (thn D λ_ j B=>zaa (thn B λok a l=>?_)));cases ok with
  |false=>exact zab ⟨rfl,l⟩
  |true=>exact zaa (zaa (thn l λx g z=>zaa (thn z λ_ e y=>zab (zab ⟨rfl,y⟩))))
end
def PIf(X:Cx)(ifs:List Expr)(t:TT):Prop :=
 ∀(pn:List (Addr×Obj))(s:Shared)(G:St)(H:Hp)(Q:Bool->Hp->Prop),Inv X pn G H s->t G H Q ->
  wpAny X.mo X.A (forIn ifs true λc r=>if r=true then do let ok <- isTrue c X.env (eval c X.env);pure (ForInStep.yield ok) else pure (ForInStep.yield r)) (TP X pn G Q) X.xe s
def tYes:TT:=λ_ H Q=>Q true H
def Ew:PIf X [] tYes:=λ_ _ _ H _ I h=>wpAny_tests_nil ⟨H,I,h⟩
def Eu{c:Expr}(h:PT X c tc):PIf X [c] tc:=λpn s G H Q I q=>wpAny_tests_one (h pn s G H Q I q)
def wo(n:Nat)(G a:St):Prop:=a.length=G.length/\∀i,n<=i->a[i]?=G[i]?
def wo.refl(n:Nat)(G:St):wo n G G:=⟨rfl,λ_ _=>rfl⟩
theorem wo.trans{n:Nat}{a b c:St}(x:wo n a b)(y:wo n b c):wo n a c:=⟨y.1.trans x.1,λi h=>(y.2 i h).trans (x.2 i h)⟩
theorem wo.set{n i:Nat}{G:St}{v:V}(h:i<n):wo n G (G.set i (some v)):=⟨by simp,λj a=>by rw[zaN aD]⟩
def Za(n:Nat)(g:TG):Prop:=∀v G H Q,g v G H Q->g v G H λa H'=>Q a H'/\wo n G a
def Rv(n:Nat)(g:TGs):Prop:=∀vs G H Q,g vs G H Q->g vs G H λa H'=>Q a H'/\wo n G a
def yk(h:i<n):Za n (se i):=λv G H Q q=>⟨q,wo.set h⟩
def jd:Rv n gNil:=λvs G H Q q=>⟨q.1,q.2,wo.refl n G⟩
def xo(mono:∀ v G H Q Q',(∀ a H',Q a H'->Q' a H')->t v G H Q->t v G H Q')(d:∀ v G H Q Q',(∀ a H',Q a H'->Q' a H')->u v G H Q->u v G H Q')(h1:Za n t)(h2:Rv n u):Rv n (k8 t u):=λvs G H Q q=>by
 obtain⟨v,r,e,q⟩:=q;refine⟨v,r,e,mono _ _ _ _ _ (λa H' z=>?_) (h1 v G H _ q)⟩;exact d _ _ _ _ _ (λg H2 y=>⟨y.1,z.2.trans y.2⟩) (h2 r a H' Q z.1)
def jc{K:W.Frag}{n k:Nat}{t:TGs}(h:Rv n t):Za n (gTup K k t):=λv G H Q q=>by
 obtain⟨a,E,e,d,hl,q⟩:=q;exact⟨a,E,e,d,hl,h E G H Q q⟩
def yu:∀v G H (Q Q':St->Hp->Prop),(∀σ' H',Q σ' H'->Q' σ' H')->se i v G H Q->se i v G H Q':=λ_ _ _ _ _ f q=>f _ _ q
def vd:∀v G H (Q Q':St->Hp->Prop),(∀σ' H',Q σ' H'->Q' σ' H')->gNil v G H Q->gNil v G H Q':=λ_ _ _ _ _ f q=>⟨q.1,f _ _ q.2⟩
def tw(mono:∀ v G H Q Q',(∀ a H',Q a H'->Q' a H')->t v G H Q->t v G H Q')(d:∀ v G H Q Q',(∀ a H',Q a H'->Q' a H')->u v G H Q->u v G H Q') :
  ∀v G H (Q Q':St->Hp->Prop),(∀a H',Q a H'->Q' a H')->k8 t u v G H Q->k8 t u v G H Q':=λvs G H Q Q' f q=>by
 obtain⟨v,r,e,q⟩:=q;exact⟨v,r,e,mono _ _ _ _ _ (λa H' z=>d _ _ _ _ _ f z) q⟩
def Bl(J:It)(g:TG)(tc:TT)(te:TE)(d:St)(D:Addr)(Z:Hp->Prop)(H:Hp):Prop :=
 ∃W:Nat->Nat->List V->Hp->Prop,(∃m,W 0 m [] H)/\∀i m ys H,W i m ys H->H D=some (.lst ys)/\((J.stop i H/\Z H)\/(J.go i H/\∃N:List V->Hp->Prop,(∀zs H',N zs H'->∃m',m'<m/\W (i+1) m' zs H')/\∀x H',J.yld i H x H' ->
  g x d H' λa H2=>tc a H2 λb j=>if b=true then te a j λy e=>e D=some (.lst ys)/\ys.length<sizeLine/\N (ys++[y]) (upd e D (.lst (ys++[y]))) else N ys j))
def Pn(a:TI)(T:List Str)(js:List Nat)(g:TG)(tc:TT)(te:TE):TE:=λG H Q=>a G H λJ H1=>∀D,H1 D=none->Bl J g tc te (st0 T js G) D (Q (.ref D)) (upd H1 D (.lst []))
section
variable{H2:Hp}{s2:Shared}{scope:Scope}{T F:List Str}{cl:List (Str×Addr)}{fp:List Addr}{js:List Nat}{tg iter elt:Expr}{ifs:List Expr}{pos:Pos}{g:TG}{tc:TT}{te:TE}{J:It}{it:Addr}{tn:Nat->Heap->Prop}{RR:Value->Addr->Result->Shared->Prop}
def Zz(hc:X.calm=true)(ds:zy X.env.scope scope T F)(c8:Paired (λx j=>X.N[j]?=some x) F js)(hg:∀ cl C fp s H,PG (x4 X (T++F) scope cl C fp s H) tg g)(hk:Za T.length g)(ht:∀ cl C fp s H,PIf (x4 X (T++F) scope cl C fp s H) ifs tc)(he:∀ cl C fp s H,PE (x4 X (T++F) scope cl C fp s H) elt te)(p1:∀ x c,cl.lookup x=some c->X.env.cells.lookup x=some c)(p2:∀ y∈scope.names,y.2=.free->∃ c,cl.lookup y.1=some c)(I2:Inv X pn G H2 s2)(Tn:Turn X.prog X.w X.K tg J fp it tn)(c0:tn 0 s2.heap)(f2:∀ b∈fp,FpOk X pn H2 b)(Z:Addr->Hp->Prop)(c1:∀ D,H2 D=none->Bl J g tc te (st0 T js G) D (Z D) (upd H2 D (.lst [])))(d0:∀ D C H' s' m',s'.heap.Ns C m'->FpOk X pn H' C->Inv X pn G H' s'->Z D H'->RR (.ref D) C (.ok .next) s') :
  wpAny X.mo X.A (newList []) (λc3 a8=>wpAny X.mo X.A (newFunctionEnv scope X.env.globals cl [] X.env.qual none .none (some X.env)) (λR a7 =>
   codeAny X.mo X.A (.compStart (.ListComp elt [⟨tg,iter,ifs,0⟩] scope pos) 0 (.ref it) c3 {R with scope:=relabel scope X.env}) (RR c3 R.locals) a7) xs a8) xs s2:=by
 refine zbK (wpAny_newFunctionEnv ds.nocell (by intro y hy;cases hy) (λh₁ a5 a4=>?_) ds.kind)
 dsimp only at a5 a4 ⊢
 have I3:Inv X pn G (upd H2 s2.z (.lst [])) {s2 with heap:=s2.heap.push {cls:=.type "list",data:=.seq ([]:List Value).toArray}}:=I2.lnew (its:=[]) (t':=s2.toks) .nil (zbW _);have Q:∀b∈fp,b<s2.z:=λb l=>by
  obtain⟨o,e,_⟩:=Tn.obj _ _ c0 b l;exact zae e
 have f3:∀b∈fp,FpOk X pn (upd H2 s2.z (.lst [])) b:=λb l=>⟨by rw[y0 (zaL (Q b l))];exact(f2 b l).1,(f2 b l).2⟩
 obtain⟨W,⟨m0,w0⟩,a6⟩:=c1 s2.z I2.fresh;generalize hs3:({s2 with heap:=s2.heap.push {cls:=.type "list",data:=.seq ([]:List Value).toArray}}:Shared)=k at I3;have e3:s2.heap.push {cls:=.type "list",dict:=none,data:=.seq ([]:List Value).toArray}=k.heap:=by rw[<- hs3]
 rw[e3]at a5 a4 ⊢;have a9:k.heap.objs.size=s2.heap.objs.size+1:=by rw[<- e3,zcR]
 have O:∀b o,k.heap.get? b=some o->h₁.get? b=some o:=λb o e=>a4.extBut b o (zaL (zae e)) (zac _ e);have B:∀b∈fp,b<k.heap.objs.size:=λb l=>by rw[a9];exact zfH (Q b l)
 have J0:Inv (x4 X (T++F) scope cl k.z fp k (upd H2 s2.z (.lst []))) [] (st0 T js G) (upd H2 s2.z (.lst [])) {k with heap:=h₁,toks:=s2.toks+([]:List (Str×Value)).length} :=
  Jc I3 ds p1 p2 c8 (zaj _) f3 B a5 O
 have stL:tn 0 h₁:=Tn.keep _ _ _ c0 λb _ o e=>O b o (by rw[<- e3];exact zac _ e)
 have es:({s2 with heap:=h₁,toks:=s2.toks+([]:List (Str×Value)).length}:Shared)={k with heap:=h₁,toks:=s2.toks+([]:List (Str×Value)).length}:=by rw[<- hs3]
 have M:codeAny X.mo X.A (.compLoop (.ListComp elt [⟨tg,iter,ifs,0⟩] scope pos) 0 (.ref it) (.ref s2.z) (compEnvC scope cl k.z X.env)) (RR (.ref s2.z) k.z)
   {k with heap:=h₁,toks:=s2.toks+([]:List (Str×Value)).length}:=by
  have q:∀{H':Hp},(∀b∈fp,H' b=none)->∀b∈fp,FpOk (x4 X (T++F) scope cl k.z fp k (upd H2 s2.z (.lst []))) [] H' b:=λhn b l =>
   ⟨hn b l,zaL (B b l),J0.ok.exfs b l,.inl l,(J0.ok.exf b l).2,λp hp=>(by cases hp)⟩
  refine P2 (λn s'=>∃i ys H',Inv (x4 X (T++F) scope cl k.z fp k (upd H2 s2.z (.lst []))) [] (st0 T js G) H' s'/\tn i s'.heap/\(∀b∈fp,H' b=none)/\W i n ys H') ?_ m0
   ⟨0,[],_,J0,stL,λb l=>(f3 b l).1,w0⟩
  rintro n s4 ⟨i,ys,H4,I4,b5,c2,w4⟩;obtain⟨hD,e0⟩:=a6 i n ys H4 w4;rcases e0 with⟨b0,z⟩|⟨go,N,hN,step⟩
  .refine thn (Tn.done (x4 X (T++F) scope cl k.heap.objs.size fp k (upd H2 s2.heap.objs.size (.lst []))) rfl rfl rfl hc i [] s4 _ H4 (λ_ _=>False) I4 (q c2) b5 b0) λr s5 ⟨hr,I5⟩=>?_;subst hr;obtain⟨m5,n5,_⟩:=I5.loc;have fC:FpOk X pn H4 k.heap.objs.size:=I2.fpOk (by rw[a9];exact Nat.le_succ _) I5.free
   exact d0 _ _ H4 s5 m5 n5 fC ((Jd I3 I5 f3)) z
  refine thn (Tn.item (x4 X (T++F) scope cl k.z fp k (upd H2 s2.z (.lst []))) rfl rfl rfl hc i [] s4 _ H4 (λ_ _=>False) I4 (q c2) b5 go) λr s5 Zh=>?_;obtain⟨u,hr,h5⟩:=Zh;subst hr;refine thn h5 λ_ s6 Zh=>?_;obtain⟨x,H6,I6,r6,y6,a0,d4⟩:=Zh;have e5:=I6.pinned (q d4) (Tn.obj _ _ a0);refine thn (hg _ _ _ _ _ _ s6 _ H6 x u _ e5 r6 (hk x _ H6 _ (step x H6 y6))) λ_ s7 Zh=>?_;obtain⟨L,H7,I7,q7,kp⟩:=Zh;refine thn (ht _ _ _ _ _ _ s7 L H7 _ I7 q7) λok s8 Zh=>?_;obtain⟨H8,I8,q8⟩:=Zh;have I:∀{s9:Shared}{H9:Hp},Inv (x4 X (T++F) scope cl k.z fp k (upd H2 s2.z (.lst []))) ([]++W7 fp s6.heap) L H9 s9->∀{zs:List V},(∃m',m'<n/\W (i+1) m' zs H9) ->
    ∃m,m<n/\∃i ys H',Inv (x4 X (T++F) scope cl k.z fp k (upd H2 s2.z (.lst []))) [] (st0 T js G) H' s9/\tn i s9.heap/\(∀b∈fp,H' b=none)/\W i m ys H':=λ{s9 H9} I9 {zs} q9=>by
   obtain⟨m',hm,w9⟩:=q9;have e4:=I9.unpinned;refine⟨m',hm,i+1,zs,H9,e4.weak kp.1.symm (λa v ea=>?_),Tn.keep _ _ _ a0 λb l o e=>(I9.pin (b,o) (zaE _ (zaE _ (qg l e)))).1,λb l=>?_,w9⟩
   .have ha:T.length<=a:=by
     rcases zdF a T.length with z|z
     .exfalso;unfold st0 at ea;rw[zaG (by simpa using z),zcE]at ea
      split at ea <;> cases ea
     exact z
    rw[kp.2 a ha];exact ea
   obtain⟨o,e,d⟩:=Tn.obj _ _ a0 b l;exact(I9.pin (b,o) (zaE _ (zaE _ (qg l e)))).2.1
  cases ok with
  |false =>
   rw[zaI zaT]at q8 ⊢;exact I I8 (hN _ _ q8)
  |true =>
   rw[zaK rfl]at q8 ⊢;refine thn (he _ _ _ _ _ _ s8 L H8 _ I8 q8) λy s9 Zh=>?_;obtain⟨v9,H9,I9,r9,d3,c7,q9⟩:=Zh;refine thn (cf _ s9 L H9 (.ref s2.z) [v9] (.ref s2.z) [y] (λ_ c6=>c6=upd H9 s2.z (.lst (ys++[v9]))) I9 rfl (.cons r9 .nil) ⟨_,_,_,rfl,rfl,d3,c7,rfl⟩) λ_ e7 Zh=>?_;obtain⟨_,c6,e6,_,d5⟩:=Zh;subst d5;exact I e6 (hN _ _ q9)
 show codeAny _ _ _ _ ({s2 with heap:=h₁,toks:=s2.toks+([]:List (Str×Value)).length}:Shared);rw[es];exact codeAny_compStart_list M (Tn.self _ 0 _ _ _ stL M)
def Oo(hc:X.calm=true)(hi:PI X tg iter wi)(ds:zy X.env.scope scope T F)(k:Paired (λx j=>X.N[j]?=some x) F js)(W:∀ cl C fp s H,PG (x4 X (T++F) scope cl C fp s H) tg g)(V:Za T.length g)(M:∀ cl C fp s H,PIf (x4 X (T++F) scope cl C fp s H) ifs tc)(Z:∀ cl C fp s H,PE (x4 X (T++F) scope cl C fp s H) elt te)(O:autoParam (∀ x,foldedSetIterable iter X.env x=pure x) zSi):PE X (.ListComp elt [⟨tg,iter,ifs,0⟩] scope pos) (Pn wi T js g tc te):=by
 intro pn s G H Q I h;obtain⟨cl,l,y,p2⟩:=Y0 (bm I ds);rw[eval_ListComp];refine wpAny_comprehension_free (use:=none) rfl O l ds.kind ds.loc (thn (hi pn s G H _ I h) λv s1 h1=>thn h1 λL s2 h2=>?_);obtain⟨it,fp,tn,J,H2,e,I2,Tn,d,r,a⟩:=h2;subst e;refine Zz (RR:=λq C=>compPost X.mo X.A X.xe none (EP X pn G Q) q C) hc ds k W V M Z y p2 I2 Tn d r (λD H'=>Q (.ref D) H') a ?_;intro D C H' s' B R fC I' z;obtain⟨f0,f1,r,f3,f4,f5⟩:=fC;exact⟨B,R,λh' u=>⟨.ref D,H',I'.turned (t':=s'.toks) (λb o hb e=>(u.2 b hb).trans e) f0 f1 f3 f4 f5,rfl,z⟩⟩
def Zl(hc:X.calm=true)(hN:X.N.Nodup)(hy:X.N[i]?=some y)(hl:X.env.scope.names.lookup y=some .local\/X.env.scope.names.lookup y=some .cell)(hi:PI X tg iter wi)(ds:zy X.env.scope scope T F)(B:Paired (λx j=>X.N[j]?=some x) F js)(hg:∀ cl C fp s H,PG (x4 X (T++F) scope cl C fp s H) tg g)(hk:Za T.length g)(ht:∀ cl C fp s H,PIf (x4 X (T++F) scope cl C fp s H) ifs tc)(he:∀ cl C fp s H,PE (x4 X (T++F) scope cl C fp s H) elt te)(u:autoParam (swapsWith (.ListComp elt [⟨tg,iter,ifs,0⟩] scope pos) (some (.Name y py)) spos.line X.env=pure true) zSr)(hs:autoParam (∀ x,foldedSetIterable iter X.env x=pure x) zSi)(L:autoParam (X.fn y=true\/X.env.scope.names.lookup y=some .local) zSo) :
  PS X (.Assign [.Name y py] (.ListComp elt [⟨tg,iter,ifs,0⟩] scope pos) spos) (λD G H=>Pn wi T js g tc te G H λv H1=>D.nx (G.set i (some v)) H1):=by
 intro pn s G H D I h;obtain⟨cl,M,p1,p2⟩:=Y0 (bm I ds);rw[exec_Assign_Name_used _ _ _ _ u];refine zaa (wpAny_standAt (zaa ?_));show wpAny _ X.A (do let _ <- comprehension (.ListComp elt [⟨tg,iter,ifs,0⟩] scope pos) scope X.env _ (newList []) false (eval iter X.env) (some (assign (.Name y py) X.env))) _ _ s
 refine zaa (thn (wpAny_comprehension_free (use:=some (assign (.Name y py) X.env)) (Q:=λ_ s'=>SP X pn D .next s') rfl hs M ds.kind ds.loc (thn (hi pn s G H _ I h) λv s1 h1=>thn h1 λa0 s2 h2=>?_)) λ_ s' hq=>zab (zab hq));obtain⟨it,fp,tn,J,H2,e,I2,Tn,l,f2,d⟩:=h2;subst e;refine Zz (RR:=λV C=>compPost X.mo X.A X.xe (some (assign (.Name y py) X.env)) (λ_ s'=>SP X pn D .next s') V C) hc ds B hg hk ht he p1 p2 I2 Tn l f2 (λk H'=>D.nx (G.set i (some (.ref k))) H') d ?_;intro k C H' s' m' hn fC I' z;obtain⟨f0,f1,f2,f3,Z,f5⟩:=fC;show wpAny _ X.A (assign (.Name y py) X.env (.ref k)) _ _ s';refine wpAny_assign_Name (Xy (v:=.ref k) I' hN hy hl rfl (λr W ch=>?_) L);obtain⟨a,sb,O⟩:=ch;have R:C≠a:=by
  rcases O with rfl|O
  .exact f1
  exact λz=>Z y a O z.symm
 exact⟨m',hn.sameBut sb R,λh' q=>⟨_,H',W.turned (t':=r.toks) (λb o hb e=>(q.2 b hb).trans e) f0 f1 f3 Z f5,z⟩⟩
end
noncomputable def Itv(n:Nat)(val:Nat->V->Prop):It:=⟨λi _=>i<n,λi H x H'=>H'=H/\val i x,λi _=>i=n⟩
def Cv(x:Str)(i:Nat)(v:V):Prop:=∃c,x.cps[i]?=some c/\v=.str ⟨#[c]⟩
def Lk{P:Program}{w:World}{K:W.Frag}{tg:Expr}{it:Addr}{x:Str}{t:Tok}{T:String}(W:∀ A:Around,A.handled=none->Walks P w A it [it] [it] x.cps.size (SignAt x) (λi h=>h.IsStrIter it T x t i))(hs:∀ (A:Around) (i:Nat) (s:Shared) (Q:Value->Shared->Prop) (xs:Value->Shared->Prop),s.heap.IsStrIter it T x t i->Q (.ref it) s->wpAny (model P w) A (pyIter (.ref it)) Q xs s)(hT:["enumerate","zip","dict_itemiterator","dict_reverseitemiterator","odict_iterator","itertools.zip_longest","itertools.pairwise"].contains T=false) :
  Turn P w K tg (Itv x.cps.size (Cv x)) [it] it (λi h=>h.IsStrIter it T x t i) where
 mem:=by simp
 obj:=λi h st b a=>by
  have e:b=it:=by simpa using a
  subst e;obtain⟨o,e,c,d⟩:=st;exact⟨o,e,λv z=>by rw[d]at z;cases z⟩
 keep:=λi h h' st k=>by obtain⟨o,e,r⟩:=st;exact ⟨o,k it aE o e,r⟩
 item:=by
  intro X D q J B i pn s G H xs I j st y;subst D q J;obtain⟨R,O,f2,N,M,L⟩:=j it aE
  refine(W X.A (I.ok.hd B)).item i s _ _ y st λv h' tk Z g l=>?_;obtain⟨c,u,V,rfl⟩:=Z;have I1:Inv X pn G H {s with heap:=h',toks:=tk}:=I.turned (λb o a e=>l b o (by simpa using a) e) R O N M L
  obtain⟨o,e,c',d⟩:=id g;exact⟨_,rfl,Qp (s:={s with heap:=h',toks:=tk}) e c' d hT ⟨.str ⟨#[c]⟩,H,I1,⟨u,rfl⟩,⟨rfl,c,V,rfl⟩,g,λb a=>(j b a).1⟩⟩
 done:=by
  intro X D q J B i pn s G H xs I j st y;subst D q J;obtain⟨R,O,f2,N,M,L⟩:=j it aE
  have e:i=x.cps.size:=y;subst e;exact(W X.A (I.ok.hd B)).done s _ _ st λh' tk l=>⟨rfl,I.turned (λb o a e=>l b o (by simpa using a) e) R O N M L⟩
 self:=λA i s Q xs st h=>hs A i s Q xs st h
noncomputable def Q1:V->Option Bool
 |.bl b=>some b
 |.int i=>some (i != 0)
 |.non=>some false
 |_=>none
noncomputable def Vq(ys:List V)(d:Bool)(i:Nat):Bool:=((ys[i]?).bind Q1).getD d
def Vm(ys:List V)(h:∀ y∈ys,(Q1 y).isSome=true):(List.range ys.length).all (Vq ys true)=ys.all λy=>Q1 y==some true:=by
 rw[Bool.eq_iff_iff,List.all_eq_true,List.all_eq_true];constructor
 .intro q y d;obtain⟨i,hi,e⟩:=List.getElem_of_mem d;have z:=q i (zdZ.mpr hi);unfold Vq at z;rw[zaf hi,Option.bind_some,e]at z;obtain⟨b,g⟩:=Option.isSome_iff_exists.mp (h y d);rw[g]at z ⊢;simpa using z
 intro q i hi;have a:=zdZ.mp hi;have z:=q _ (zdM a);unfold Vq;rw[zaf a,Option.bind_some,zfY z];rfl
def Tl(d:Bool)(r:Vals ys its)(h:∀ y∈ys,(Q1 y).isSome=true):TruthOf P w A (λi v=>its.toArray[i]?=some v) (Vq ys d):=by
 intro i v s Q xs l a;obtain⟨y,g,e⟩:=jx r (show its[i]?=some v by simpa using l)
 unfold Vq at a;rw[g,Option.bind_some]at a;have j:=h y (zan g);cases y with
 |bl b=>cases e;exact zdG a
 |int k=>obtain⟨t,rfl⟩:=e;exact PySem.P.truthy_int a
 |non=>cases e;exact truthy_none a
 |_=>cases j
def Wf{s:Shared}{h':Heap}{o:Obj}(a:∀ b x,b∉[s.z]->(s.heap.push o).get? b=some x->h'.get? b=some x):∀b x,s.heap.get? b=some x->h'.get? b=some x :=
 λb x e=>a b x (by simpa using zaL (zae e)) (zac _ e)
def rAll(K:W.Frag)(f:List V->Bool):List V->Hp->VK->Prop:=λE H Q=>∃p ys,E=[.ref p]/\(SqL K H p ys\/SqT K H p ys)/\(∀y∈ys,(Q1 y).isSome=true)/\Q (.bl (f ys)) H
def Ve(v:X.calm=true):ui X (.builtin "all") (rAll X.K λys=>ys.all λy=>Q1 y==some true):=by
 intro pn s G H E us Q I r h;obtain⟨p,ys,rfl,j,k,q⟩:=h;obtain⟨u,rfl,x⟩:=sj r;cases x;rcases j with j|j
 .obtain⟨its,d,pl,z⟩:=I.list j;have a:p<s.z:=by obtain⟨_,e,_⟩:=pl.isList;exact zae e
  refine call_all_walk (zcP pl.isList ⟨s.z,[s.z,p],[s.z],its.toArray.size,_,_,Vq ys true,rfl,Walks.list (A:=X.A.in1) (I.ok.hd v) _ p (zaL a) its.toArray,
   ⟨⟨_,zad _ rfl,rfl,rfl⟩,pl.isList.push _⟩,Tl true d k,λh' tk l=>?_⟩)
  rw[zap,<- d.length,Vm ys k];exact⟨.bl _,H,I.kept (Wf l),rfl,q⟩
 obtain⟨its,d,pl,z⟩:=I.tuple j;have a:p<s.z:=by obtain⟨_,e,_⟩:=pl;exact zae e
 have g:s.heap.IsTuple p its.toArray:=pl;refine call_all_walk (zdN g ⟨s.z,[s.z,p],[s.z],its.toArray.size,_,_,Vq ys true,rfl,Walks.tuple (A:=X.A.in1) (I.ok.hd v) _ p (zaL a) its.toArray,
  ⟨⟨_,zad _ rfl,rfl,rfl⟩,g.at λo e=>zac _ e⟩,Tl true d k,λh' tk l=>?_⟩)
 rw[zap,<- d.length,Vm ys k];exact⟨.bl _,H,I.kept (Wf l),rfl,q⟩
theorem nd1(t:Str):([t]++[]).Nodup:=by simp
inductive Cst where
 |int (i:Int)|str (x:Str)|tup (cs:List Cst)
mutual
def CRep(K:W.Frag):Cst->V->Prop
 |.int i,v=>v=.int i
 |.str x,v=>v=.str x
 |.tup cs,v=>∃(a:Addr)(o:Obj)(its:Array Value)(n:Nat)(E:List V),v=.ref a/\K.lookup a=some o/\o.cls=.type "tuple"/\o.data=.seq its n/\its.size<=sizeLine/\Vals E its.toList/\P6 K cs E
def P6(K:W.Frag):List Cst->List V->Prop
 |[],E=>E=[]
 |c::cs,E=>∃v r,E=v::r/\CRep K c v/\P6 K cs r
end
inductive D where
 |non|bl (b:Bool)|int (i:Int)|str (x:Str)|ty (n:String)
 |tup (S:List D)|lst (S:List D)|dk (ks:List Key) (S:List D)
  |scr (ns:List Int)
   |fo (o:Obj)
   |sx (S:List D)
  |cn (c:Cst)
  |ob (C:Addr) (ns:List Str) (S:List D)
def Scr(K:W.Frag)(H:Hp)(a:Addr)(ns:List Int):Prop :=
 (∃o,H a=some (.frz o (.lst (ns.map V.int)))) \/
  ∃(o:Obj)(its:Array Value)(n:Nat),K.lookup a=some o/\o.cls=.type "list"/\o.dict=none/\o.data=.seq its n/\its.size<=sizeLine/\Vals (ns.map V.int) its.toList
def Scr.seq{K:W.Frag}{H:Hp}{a:Addr}{ns:List Int}(h:Scr K H a ns):SqL K H a (ns.map V.int):=by
 rcases h with⟨o,h⟩|h
 .exact .inl (.inr ⟨o,h⟩)
 exact .inr h
noncomputable def dzV(rs:List (List Int×Int)):List (List Key×V):=rs.map λp=>(p.1.map Sum.inl,V.int p.2)
def Dz(H:Hp)(a:Addr)(rs:List (List Int×Int)):Prop:=(∃o,H a=some (.frz o (.dT (dzV rs))))/\(rs.map Prod.fst).Nodup
def SqR(K:W.Frag)(H:Hp)(a:Addr)(E:List V):Prop:=SqT K H a E/\H a=some (.tup E)
noncomputable def FoO(a:Addr)(o:Obj):HO:=.ext λh=>h.get? a=some o
noncomputable def StO(a:Addr)(E:List V):HO:=.ext λh=>E.length=3/\∃(k:Int)(its:List Value)(n:Nat),0<=k/\Vals (E.take 1++V.int k::E.drop 1) its/\h.get? a=some {cls:=.type "list",dict:=none,data:=.seq its.toArray n,slots:=#[]}
mutual
def RepN(K:W.Frag)(H:Hp)(P:Addr->Prop):D->V->Prop
 |.non,v=>v=.non
 |.bl b,v=>v=.bl b
 |.int i,v=>v=.int i
 |.str x,v=>v=.str x
 |.ty n,v=>v=.ty n
 |.cn c,v=>CRep K c v
 |.tup S,v=>∃a E,v=.ref a/\SqR K H a E/\zp K H P S E
 |.lst S,v=>∃a E,v=.ref a/\H a=some (.lst E)/\P a/\zp K H P S E
 |.scr ns,v=>∃a,v=.ref a/\Scr K H a ns
 |.fo C,v=>∃a,v=.ref a/\H a=some (FoO a C)/\P a
 |.sx S,v=>∃a E,v=.ref a/\H a=some (StO a E)/\P a/\zp K H P S E
 |.dk ks S,v=>∃a E,v=.ref a/\H a=some (.dK (ks.zip E))/\P a/\ks.length=S.length/\ks.Nodup/\zp K H P S E
 |.ob C ns S,v=>∃a dx E,v=.ref a/\H a=some (.ins C dx (ns.zip E))/\P a/\ns.length=S.length/\ns.Nodup/\zp K H P S E
def zp(K:W.Frag)(H:Hp)(P:Addr->Prop):List D->List V->Prop
 |[],E=>E=[]
 |d::S,E=>∃v r,E=v::r/\RepN K H P d v/\zp K H P S r
end
abbrev Rep(K:W.Frag)(H:Hp)(O:List Addr):D->V->Prop:=RepN K H λa=>a∉O
abbrev Reps(K:W.Frag)(H:Hp)(O:List Addr):List D->List V->Prop:=zp K H λa=>a∉O
structure Grow(O O':List Addr)(H H':Hp):Prop where
 keep:∀b u,H b=some u->b∉O->H' b=some u/\b∉O'
 tups:∀b E,H b=some (.tup E)->H' b=some (.tup E)
 frzs:∀b o u,H b=some (.frz o u)->H' b=some (.frz o u)
def Grow.same(s:Same H H'):Grow O O H H':=⟨λb u h n=>⟨s b u h,n⟩,λb E h=>s b _ h,λb o u h=>s b _ h⟩
theorem Grow.refl:Grow O O H H:=Grow.same (Same.refl H)
def Grow.trans(a:Grow O O' H H')(b:Grow O' O'' H' H''):Grow O O'' H H'' :=
 ⟨λc u h n=>let ⟨h',n'⟩:=a.keep c u h n;b.keep c u h' n',λc E h=>b.tups c E (a.tups c E h),λc o u h=>b.frzs c o u (a.frzs c o u h)⟩
def Pt{K:W.Frag}{H H':Hp}{a:Addr}{E:List V}(kt:∀ b E,H b=some (.tup E)->H' b=some (.tup E))(kf:∀ b o u,H b=some (.frz o u)->H' b=some (.frz o u)):SqT K H a E->SqT K H' a E
 |.inl (.inl h)=>.inl (.inl (kt _ _ h))
 |.inl (.inr ⟨o,h⟩)=>.inl (.inr ⟨o,kf _ _ _ h⟩)
 |.inr h=>.inr h
def Pu{K:W.Frag}{H H':Hp}{a:Addr}{E:List V}(kt:∀ b E,H b=some (.tup E)->H' b=some (.tup E))(kf:∀ b o u,H b=some (.frz o u)->H' b=some (.frz o u))(h:SqR K H a E):SqR K H' a E:=⟨Pt kt kf h.1,kt _ _ h.2⟩
def Tw{K:W.Frag}{H H':Hp}{a:Addr}{ns:List Int}(kf:∀ b o u,H b=some (.frz o u)->H' b=some (.frz o u))(h:Scr K H a ns):Scr K H' a ns:=by
 rcases h with⟨o,h⟩|h
 .exact .inl ⟨o,kf _ _ _ h⟩
 exact .inr h
noncomputable def kO:HO->Nat
 |.lst _=>0
 |.dK _=>1
 |.dT _=>1
 |.ins _ _ _=>2
 |_=>3
mutual
def kdD(k:Nat->Prop):D->Prop
 |.tup S=>kdDs k S
 |.lst S=>k 0/\kdDs k S
 |.dk _ S=>k 1/\kdDs k S
 |.ob _ _ S=>k 2/\kdDs k S
 |.sx S=>k 3/\kdDs k S
 |.fo _=>k 3
 |.scr _=>True
 |.non=>True
 |.bl _=>True
 |.int _=>True
 |.str _=>True
 |.ty _=>True
 |.cn _=>True
def kdDs(k:Nat->Prop):List D->Prop
 |[]=>True
 |d::S=>kdD k d/\kdDs k S
end
abbrev zw:D->Prop:=kdD λ_=>False
abbrev y7:List D->Prop:=kdDs λ_=>False
theorem R6{k:Nat->Prop}:∀{S:List D},kdDs k S ↔ ∀d∈S,kdD k d
 |[]=>by simp[kdDs]
 |d::S=>by
  rw[kdDs,R6];simp
def yi:y7 S ↔ ∀d∈S,zw d:=R6
section
variable{P P':Addr->Prop}{O O':List Addr}{k:Nat->Prop}
mutual
theorem RepN.mono(kt:∀ b E,H b=some (.tup E)->H' b=some (.tup E))(kf:∀ b o u,H b=some (.frz o u)->H' b=some (.frz o u))(g:∀ b u,H b=some u->k (kO u)->P b->H' b=some u/\P' b):∀(d:D)(v:V),kdD k d->RepN K H P d v->RepN K H' P' d v
 |.non,_,_,h=>h
 |.bl _,_,_,h=>h
 |.int _,_,_,h=>h
 |.str _,_,_,h=>h
 |.ty _,_,_,h=>h
 |.cn _,_,_,h=>h
 |.tup S,v,p,⟨a,E,e,q,r⟩=>⟨a,E,e,Pu kt kf q,zp.mono kt kf g S E p r⟩
 |.lst S,v,p,⟨a,E,e,q,n,r⟩=>⟨a,E,e,(g a _ q p.1 n).1,(g a _ q p.1 n).2,zp.mono kt kf g S E p.2 r⟩
 |.scr ns,v,_,⟨a,e,q⟩=>⟨a,e,Tw kf q⟩
 |.sx S,v,p,⟨a,E,e,q,n,r⟩=>⟨a,E,e,(g a _ q p.1 n).1,(g a _ q p.1 n).2,zp.mono kt kf g S E p.2 r⟩
 |.fo C,v,p,⟨a,e,q,n⟩=>⟨a,e,(g a _ q p n).1,(g a _ q p n).2⟩
 |.dk ks S,v,p,⟨a,E,e,q,n,l,nd,r⟩=>⟨a,E,e,(g a _ q p.1 n).1,(g a _ q p.1 n).2,l,nd,zp.mono kt kf g S E p.2 r⟩
 |.ob C ns S,v,p,⟨a,dx,E,e,q,n,l,nd,r⟩=>⟨a,dx,E,e,(g a _ q p.1 n).1,(g a _ q p.1 n).2,l,nd,zp.mono kt kf g S E p.2 r⟩
theorem zp.mono(kt:∀ b E,H b=some (.tup E)->H' b=some (.tup E))(kf:∀ b o u,H b=some (.frz o u)->H' b=some (.frz o u))(g:∀ b u,H b=some u->k (kO u)->P b->H' b=some u/\P' b):∀(S:List D)(E:List V),kdDs k S->zp K H P S E->zp K H' P' S E
 |[],_,_,h=>h
 |d::S,E,p,⟨v,r,e,q,t⟩=>⟨v,r,e,RepN.mono kt kf g d v p.1 q,zp.mono kt kf g S r p.2 t⟩
end
mutual
theorem Gq(h:∀ n,k n):∀d:D,kdD k d
 |.tup S=>k5 h S
 |.lst S=>⟨h _,k5 h S⟩
 |.dk _ S=>⟨h _,k5 h S⟩
 |.ob _ _ S=>⟨h _,k5 h S⟩
 |.sx S=>⟨h _,k5 h S⟩
 |.fo _=>h _
 |.scr _=>trivial
 |.non=>trivial
 |.bl _=>trivial
 |.int _=>trivial
 |.str _=>trivial
 |.ty _=>trivial
 |.cn _=>trivial
theorem k5(h:∀ n,k n):∀S:List D,kdDs k S
 |[]=>trivial
 |d::S=>⟨Gq h d,k5 h S⟩
end
section
variable(kt:∀ b E,H b=some (.tup E)->H' b=some (.tup E))(kf:∀ b o u,H b=some (.frz o u)->H' b=some (.frz o u))(g:∀ b u,P b->H b=some u->H' b=some u/\P' b)
include kt kf g
def RepN.go(d:D)(v:V)(h:RepN K H P d v):RepN K H' P' d v:=RepN.mono (k:=λ_=>True) kt kf (λb u h _ n=>g b u n h) d v (Gq (λ_=>trivial) d) h
def zp.go(S:List D)(E:List V)(h:zp K H P S E):zp K H' P' S E:=zp.mono (k:=λ_=>True) kt kf (λb u h _ n=>g b u n h) S E (k5 (λ_=>trivial) S) h
end
def RepN.grow(g:Grow O O' H H')(d:D)(v:V)(h:Rep K H O d v):Rep K H' O' d v:=RepN.go g.tups g.frzs (λb u n h=>g.keep b u h n) d v h
def zp.grow(g:Grow O O' H H')(S:List D)(E:List V)(h:Reps K H O S E):Reps K H' O' S E:=zp.go g.tups g.frzs (λb u n h=>g.keep b u h n) S E h
def RepN.to(s:Same H H')(g:∀ a,P a->P' a)(d:D)(v:V)(h:RepN K H P d v):RepN K H' P' d v:=RepN.go (λb E h=>s b _ h) (λb o u h=>s b _ h) (λb u n h=>⟨s b u h,g b n⟩) d v h
def zp.to(s:Same H H')(g:∀ a,P a->P' a)(S:List D)(E:List V)(h:zp K H P S E):zp K H' P' S E:=zp.go (λb E h=>s b _ h) (λb o u h=>s b _ h) (λb u n h=>⟨s b u h,g b n⟩) S E h
def RepN.rep(g:∀ a,P a->a∉O)(d:D)(v:V)(h:RepN K H P d v):Rep K H O d v:=RepN.to (Same.refl H) g d v h
def zp.reps(g:∀ a,P a->a∉O)(S:List D)(E:List V)(h:zp K H P S E):Reps K H O S E:=zp.to (Same.refl H) g S E h
def RepN.sub(g:∀ a∈O',a∈O)(d:D)(v:V)(h:Rep K H O d v):Rep K H O' d v:=RepN.to (Same.refl H) (λa n z=>n (g a z)) d v h
def zp.sub(g:∀ a∈O',a∈O)(S:List D)(E:List V)(h:Reps K H O S E):Reps K H O' S E:=zp.to (Same.refl H) (λa n z=>n (g a z)) S E h
def RepN.toN(d:D)(v:V)(p:zw d)(h:RepN K H P d v):RepN K H P' d v:=RepN.mono (λ_ _ h=>h) (λ_ _ _ h=>h) (λ_ _ _ z=>z.elim) d v p h
def zp.toN(S:List D)(E:List V)(p:y7 S)(h:zp K H P S E):zp K H P' S E:=zp.mono (λ_ _ h=>h) (λ_ _ _ h=>h) (λ_ _ _ z=>z.elim) S E p h
def RepN.pure(d:D)(v:V)(p:zw d)(h:Rep K H O d v):Rep K H O' d v:=RepN.toN d v p h
def zp.pure(S:List D)(E:List V)(p:y7 S)(h:Reps K H O S E):Reps K H O' S E:=zp.toN S E p h
end
variable{P:Addr->Prop}
theorem zp.length:∀{S:List D}{E:List V},zp K H P S E->E.length=S.length
 |[],_,h=>by cases h;rfl
 |d::S,E,h=>by
  obtain⟨v,r,e,_,t⟩:=h;subst e;simp[zp.length t]
theorem zp.get:∀{S:List D}{E:List V}{i:Nat}{d:D},zp K H P S E->S[i]?=some d->∃v,E[i]?=some v/\RepN K H P d v
 |[],_,_,_,_,e=>by simp at e
 |d::S,E,0,d',h,e=>by
  obtain⟨v,r,rfl,q,_⟩:=h;simp at e;subst e;exact⟨v,rfl,q⟩
 |d::S,E,i+1,d',h,e=>by
  obtain⟨v,r,rfl,_,t⟩:=h;obtain⟨a,j,g⟩:=zp.get (i:=i) t (by simpa using e)
  exact⟨a,by simpa using j,g⟩
theorem zp.append:∀{S es:List D}{E ys:List V},zp K H P S E->zp K H P es ys->zp K H P (S++es) (E++ys)
 |[],es,E,ys,h,h'=>by cases h;exact h'
 |d::S,es,E,ys,h,h'=>by
  obtain⟨v,r,rfl,q,t⟩:=h;exact⟨v,r++ys,rfl,q,zp.append t h'⟩
def zp.one{d:D}{v:V}(h:RepN K H P d v):zp K H P [d] [v]:=⟨v,[],rfl,h,rfl⟩
theorem zp.take:∀{S:List D}{E:List V}(n:Nat),zp K H P S E->zp K H P (S.take n) (E.take n)
 |_,_,0,_=>rfl
 |[],_,n+1,h=>by cases h;rfl
 |d::S,E,n+1,h=>by
  obtain⟨v,r,rfl,q,t⟩:=h;exact⟨v,r.take n,rfl,q,zp.take n t⟩
theorem zp.drop:∀{S:List D}{E:List V}(n:Nat),zp K H P S E->zp K H P (S.drop n) (E.drop n)
 |_,_,0,h=>h
 |[],_,n+1,h=>by cases h;rfl
 |d::S,E,n+1,h=>by
  obtain⟨v,r,rfl,q,t⟩:=h;exact zp.drop n t
theorem zp.set:∀{S:List D}{E:List V}(n:Nat){d:D}{v:V},RepN K H P d v->zp K H P S E->zp K H P (S.set n d) (E.set n v)
 |[],_,_,_,_,_,h=>by cases h;rfl
 |d::S,E,0,d',v',q',h=>by
  obtain⟨v,r,rfl,q,t⟩:=h;exact⟨v',r,rfl,q',t⟩
 |d::S,E,n+1,d',v',q',h=>by
  obtain⟨v,r,rfl,q,t⟩:=h;exact⟨v,r.set n v',rfl,q,zp.set n q' t⟩
theorem zp.ints:∀(ns:List Int),zp K H P (ns.map D.int) (ns.map V.int)
 |[]=>rfl
 |n::ns=>⟨_,_,rfl,rfl,zp.ints ns⟩
theorem zp.dropLast{S:List D}{E:List V}(h:zp K H P S E):zp K H P S.dropLast E.dropLast:=by
 rw[List.dropLast_eq_take,List.dropLast_eq_take,h.length];exact h.take _
theorem zp.rep{S:List D}{E:List V}(h:zp K H P S E):∀k:Nat,zp K H P (List.replicate k S).flatten (List.replicate k E).flatten
 |0=>rfl
 |k+1=>by
  rw[zcC,zcC,zdU,zdU];exact h.append (zp.rep h k)
def View(K:W.Frag)(H:Hp)(O:List Addr)(d:D)(v:V):Prop:=match d with
 |.lst S=>∃a E,v=.ref a/\H a=some (.lst E)/\Reps K H O S E
 |.dk ks S=>∃a E,v=.ref a/\H a=some (.dK (ks.zip E))/\ks.length=S.length/\ks.Nodup/\Reps K H O S E
 |d=>Rep K H O d v
def Con1(K:W.Frag)(H:Hp)(O:List Addr)(d:D)(a:Addr):Prop:=match d with
 |.lst S=>∃E,H a=some (.lst E)/\Reps K H O S E
 |.dk ks S=>∃E,H a=some (.dK (ks.zip E))/\ks.length=S.length/\ks.Nodup/\Reps K H O S E
 |_=>False
def RepN.view{K:W.Frag}{H:Hp}{O:List Addr}{d:D}{v:V}(h:Rep K H O d v):View K H O d v:=by
 cases d with
 |lst S=>obtain⟨a,E,e,q,_,r⟩:=h;exact⟨a,E,e,q,r⟩
 |dk ks S=>obtain⟨a,E,e,q,_,r⟩:=h;exact⟨a,E,e,q,r⟩
 |_=>exact h
def Con1.view{K:W.Frag}{H:Hp}{O:List Addr}{d:D}{a:Addr}(h:Con1 K H O d a):View K H O d (.ref a):=by
 cases d with
 |lst S=>obtain⟨E,q,r⟩:=h;exact⟨a,E,rfl,q,r⟩
 |dk ks S=>obtain⟨E,q,r⟩:=h;exact⟨a,E,rfl,q,r⟩
 |_=>exact h.elim
def Con1.rep{K:W.Frag}{H:Hp}{O:List Addr}{d:D}{a:Addr}(h:Con1 K H O d a)(n:a∉O):Rep K H O d (.ref a):=by
 cases d with
 |lst S=>obtain⟨E,q,r⟩:=h;exact⟨a,E,rfl,q,n,r⟩
 |dk ks S=>obtain⟨E,q,r⟩:=h;exact⟨a,E,rfl,q,n,r⟩
 |_=>exact h.elim
def Con1.same{K:W.Frag}{H H':Hp}{O:List Addr}{d:D}{a:Addr}(h:Con1 K H O d a)(s:Same H H'):Con1 K H' O d a:=by
 cases d with
 |lst S=>obtain⟨E,q,r⟩:=h;exact⟨E,s _ _ q,zp.grow (Grow.same s) _ _ r⟩
 |dk ks S=>obtain⟨E,q,l,n,r⟩:=h;exact⟨E,s _ _ q,l,n,zp.grow (Grow.same s) _ _ r⟩
 |_=>exact h.elim
def Con1.sub{K:W.Frag}{H:Hp}{O O':List Addr}{d:D}{a:Addr}(h:Con1 K H O d a)(g:∀ a∈O',a∈O):Con1 K H O' d a:=by
 cases d with
 |lst S=>obtain⟨E,q,r⟩:=h;exact⟨E,q,zp.sub g _ _ r⟩
 |dk ks S=>obtain⟨E,q,l,n,r⟩:=h;exact⟨E,q,l,n,zp.sub g _ _ r⟩
 |_=>exact h.elim
theorem View.sub{K:W.Frag}{H:Hp}{O O':List Addr}{d:D}{v:V}(h:View K H O d v)(g:∀ a∈O',a∈O):View K H O' d v:=by
 cases d with
 |lst S=>obtain⟨a,E,e,q,r⟩:=h;exact⟨a,E,e,q,zp.sub g _ _ r⟩
 |dk ks S=>obtain⟨a,E,e,q,l,n,r⟩:=h;exact⟨a,E,e,q,l,n,zp.sub g _ _ r⟩
 |_=>exact RepN.sub g _ _ h
def View.rep0{K:W.Frag}{H:Hp}{O:List Addr}{d:D}{v:V}(h:View K H O d v):Rep K H [] d v:=by
 have h:=h.sub (O':=[]) (λ_ z=>nomatch z);cases d with
 |lst S=>obtain⟨a,E,e,q,r⟩:=h;exact⟨a,E,e,q,by simp,r⟩
 |dk ks S=>obtain⟨a,E,e,q,l,n,r⟩:=h;exact⟨a,E,e,q,by simp,l,n,r⟩
 |_=>exact h
inductive Kd where|val|own|fre|new
 deriving DecidableEq
structure EV where
 k:Kd
 d:D
abbrev nw(r:EV):Prop:=match r.k with|.own=>False|_=>True
abbrev DE:=List (Option EV)
noncomputable abbrev dv(d:D):EV:=⟨.val,d⟩
noncomputable abbrev df(d:D):EV:=⟨.fre,d⟩
noncomputable abbrev dO(d:D):EV:=⟨.own,d⟩
noncomputable abbrev q_(d:D):Option EV:=some (dv d)
noncomputable abbrev Q_(d:D):Option EV:=some (dO d)
def RV(K:W.Frag)(H0 H:Hp)(O:List Addr)(r:EV)(v:V):Prop:=match r.k with
 |.val=>Rep K H O r.d v
 |.own=>∃a,v=.ref a/\a∈O/\Con1 K H O r.d a
 |.fre=>∃a,v=.ref a/\H0 a=none/\a∉O/\Con1 K H (a::O) r.d a
 |.new=>RepN K H (λa=>a∉O/\H0 a=none) r.d v
variable{H0 H1:Hp}{O:List Addr}{r:EV}
def RV.val(h:Rep K H O d v):RV K H0 H O (dv d) v:=h
theorem RV.same(h:RV K H0 H O r v)(s:Same H H'):RV K H0 H' O r v:=by
 obtain⟨k,d⟩:=r;cases k with
 |val=>exact RepN.grow (Grow.same s) _ _ h
 |own=>obtain⟨a,e,m,c⟩:=h;exact⟨a,e,m,c.same s⟩
 |fre=>obtain⟨a,e,m,n,c⟩:=h;exact⟨a,e,m,n,c.same s⟩
 |new=>exact RepN.to s aA _ _ h
def RV.start(h:RV K H0 H O r v)(s:Same H1 H0):RV K H1 H O r v:=by
 obtain⟨k,d⟩:=r;cases k with
 |val=>exact h
 |own=>exact h
 |fre=>obtain⟨a,e,m,n,c⟩:=h;exact⟨a,e,s.free m,n,c⟩
 |new=>exact RepN.to (Same.refl H) (λa z=>⟨z.1,s.free z.2⟩) _ _ h
theorem RV.view(h:RV K H0 H O r v):View K H O r.d v:=by
 obtain⟨k,d⟩:=r;cases k with
 |val=>exact RepN.view h
 |own=>obtain⟨a,e,m,c⟩:=h;subst e;exact c.view
 |fre=>obtain⟨a,e,m,n,c⟩:=h;subst e;exact(c.sub λb g=>zal _ g).view
 |new=>exact(RepN.rep (λa z=>z.1) _ _ h).view
def RV.solid(h:RV K H0 H O r v)(g:r.k≠.own):Rep K H O r.d v:=by
 obtain⟨k,d⟩:=r;cases k with
 |val=>exact h
 |own=>exact absurd rfl g
 |fre=>obtain⟨a,e,m,n,c⟩:=h;subst e;exact(c.sub λb j=>zal _ j).rep n
 |new=>exact RepN.rep (λa z=>z.1) _ _ h
structure REnv(K:W.Frag)(H_ H:Hp)(G:St)(U:DE)(o:List (Nat×Addr)):Prop where
 same:Same H_ H
 fresh:∀p∈o,H_ p.2=none
 trk:∀p∈o,∃u,H p.2=some u
 mtb:∀p∈o,(∀E,H p.2≠some (.tup E))/\∀ob u,H p.2≠some (.frz ob u)
 nda:(o.map Prod.snd).Nodup
 slots:∀i r,U[i]?=some (some r)->∃v,G[i]?=some (some v)/\((r.k=.val/\Rep K H (o.map Prod.snd) r.d v)\/(r.k=.own/\∃a,v=.ref a/\(i,a)∈o/\Con1 K H (o.map Prod.snd) r.d a))
 len:G.length=U.length
variable{H_:Hp}{U:DE}{o:List (Nat×Addr)}
def REnv.to(R:REnv K H_ H G U o)(s:Same H H'):REnv K H_ H' G U o where
 same:=R.same.trans s
 fresh:=R.fresh
 trk:=λp d=>by obtain⟨u,e⟩:=R.trk p d;exact ⟨u,s _ _ e⟩
 mtb:=λp d=>by
  obtain⟨u,e⟩:=R.trk p d;obtain⟨l,j⟩:=R.mtb p d;refine⟨λE z=>?_,λg w z=>?_⟩
  .rw[s _ _ e]at z;rw[<- e]at z;exact l E z
  rw[s _ _ e]at z;rw[<- e]at z;exact j g w z
 nda:=R.nda
 slots:=λi r e=>by
  obtain⟨v,q,h⟩:=R.slots i r e;refine⟨v,q,?_⟩;rcases h with⟨k,h⟩|⟨k,a,e1,m,c⟩
  .exact .inl ⟨k,RepN.grow (Grow.same s) _ _ h⟩
  exact .inr ⟨k,a,e1,m,c.same s⟩
 len:=R.len
def REnv.ofree(R:REnv K H_ H G U o)(h:H a=none):a∉o.map Prod.snd:=λz=>by
 obtain⟨p,d,e⟩:=zah.mp z;obtain⟨u,q⟩:=R.trk p d;rw[e,h]at q;cases q
abbrev TD:=DE->(EV->Prop)->Prop
abbrev TDb:=DE->(Bool->Prop)->Prop
abbrev TDs:=DE->(List EV->Prop)->Prop
structure DZ where
 nx:DE->Prop
 rt:EV->Prop
 bk:DE->Prop:=λ_=>False
 ct:DE->Prop:=λ_=>False
abbrev TDS:=DE->DZ->Prop
def RVs(K:W.Frag)(H0 H:Hp)(O:List Addr):List EV->List V->Prop
 |[],vs=>vs=[]
 |r::rs,vs=>∃v ws,vs=v::ws/\RV K H0 H O r v/\RVs K H0 H O rs ws
theorem RVs.same{K:W.Frag}{H0 H H':Hp}{O:List Addr}(s:Same H H'):∀{rs:List EV}{vs:List V},RVs K H0 H O rs vs->RVs K H0 H' O rs vs
 |[],_,h=>h
 |r::rs,vs,h=>by
  obtain⟨v,ws,e,q,t⟩:=h;exact⟨v,ws,e,q.same s,t.same s⟩
theorem RVs.start{K:W.Frag}{H0 H1 H:Hp}{O:List Addr}(s:Same H1 H0):∀{rs:List EV}{vs:List V},RVs K H0 H O rs vs->RVs K H1 H O rs vs
 |[],_,h=>h
 |r::rs,vs,h=>by
  obtain⟨v,ws,e,q,t⟩:=h;exact⟨v,ws,e,q.start s,t.start s⟩
theorem RVs.reps{K:W.Frag}{H0 H:Hp}{O:List Addr}:∀{rs:List EV}{vs:List V},RVs K H0 H O rs vs->(∀r∈rs,r.k≠.own)->Reps K H O (rs.map EV.d) vs
 |[],_,h,_=>h
 |r::rs,vs,h,n=>by
  obtain⟨v,ws,e,q,t⟩:=h;exact⟨v,ws,e,q.solid (n r (zao ..)),t.reps λa h'=>n a (zal _ h')⟩
theorem RVs.reps0{K:W.Frag}{H0 H:Hp}{O:List Addr}:∀{rs:List EV}{vs:List V},RVs K H0 H O rs vs->Reps K H [] (rs.map EV.d) vs
 |[],_,h=>h
 |r::rs,vs,h=>by
  obtain⟨v,ws,e,q,t⟩:=h;exact⟨v,ws,e,q.view.rep0,t.reps0⟩
def ql(K:W.Frag)(H_:Hp)(t:TD):TE:=λG H Q=>∃U o,REnv K H_ H G U o/\∃Y,t U Y/\∀v r H',Same H H'->RV K H H' (o.map Prod.snd) r v->Y r->Q v H'
def Z0(K:W.Frag)(H_:Hp)(t:TDb):TT:=λG H Q=>∃U o,REnv K H_ H G U o/\∃Y,t U Y/\∀b H',Same H H'->Y b->Q b H'
def Dq(K:W.Frag)(H_:Hp)(t:TDs):TA:=λG H Q=>∃U o,REnv K H_ H G U o/\∃Y,t U Y/\∀vs rs H',Same H H'->RVs K H H' (o.map Prod.snd) rs vs->Y rs->Q vs H'
def Qi(K:W.Frag)(H_:Hp)(t:TDS):TS:=λD G H=>∃U o,REnv K H_ H G U o/\∃Z,t U Z /\
 (∀ρ' σ' H' o',Grow (o.map Prod.snd) (o'.map Prod.snd) H H'->REnv K H_ H' σ' ρ' o'->Z.nx ρ'->D.nx σ' H') /\
 (∀ρ' σ' H' o',Grow (o.map Prod.snd) (o'.map Prod.snd) H H'->REnv K H_ H' σ' ρ' o'->Z.bk ρ'->D.bk σ' H') /\
 (∀ρ' σ' H' o',Grow (o.map Prod.snd) (o'.map Prod.snd) H H'->REnv K H_ H' σ' ρ' o'->Z.ct ρ'->D.ct σ' H') /\
 (∀v r H',Same H_ H'->RV K H_ H' [] r v->Z.rt r->D.rt v H')
def ED(G:Hp->Prop)(X:Cx)(e:Expr)(t:TD):Prop:=∀H_:{H:Hp // G H},PE X e (ql X.K H_.1 t)
def ET(G:Hp->Prop)(X:Cx)(e:Expr)(t:TDb):Prop:=∀H_:{H:Hp // G H},PT X e (Z0 X.K H_.1 t)
def EW(G:Hp->Prop)(X:Cx)(e:Expr)(t:TDb):Prop:=∀H_:{H:Hp // G H},PW X e (Z0 X.K H_.1 t)
def EA(G:Hp->Prop)(X:Cx)(es:List Expr)(t:TDs):Prop:=∀H_:{H:Hp // G H},PA X es (Dq X.K H_.1 t)
def SD(G:Hp->Prop)(X:Cx)(st:Stmt)(t:TDS):Prop:=∀H_:{H:Hp // G H},PS X st (Qi X.K H_.1 t)
def SDs(G:Hp->Prop)(X:Cx)(st:List Stmt)(t:TDS):Prop:=∀H_:{H:Hp // G H},PSs X st (Qi X.K H_.1 t)
def impE(h:PE X e t)(i:∀ G H Q,t' G H Q->t G H Q):PE X e t':=λpn s G H Q I q=>h pn s G H Q I (i G H Q q)
def impT(h:PT X e t)(i:∀ G H Q,t' G H Q->t G H Q):PT X e t':=λpn s G H Q I q=>h pn s G H Q I (i G H Q q)
def impW(h:PW X e t)(i:∀ G H Q,t' G H Q->t G H Q):PW X e t':=λa pn s G H Q I q=>h a pn s G H Q I (i G H Q q)
def impA(h:PA X es t)(i:∀ G H Q,t' G H Q->t G H Q):PA X es t':=λpos pn s G H Q I q=>h pos pn s G H Q I (i G H Q q)
def impS{X:Cx}{st:Stmt}{t t':TS}(h:PS X st t)(i:∀ D G H,t' D G H->t D G H):PS X st t':=λpn s G H D I q=>h pn s G H D I (i D G H q)
def Uo{X:Cx}{st:List Stmt}{t t':TS}(h:PSs X st t)(i:∀ D G H,t' D G H->t D G H):PSs X st t':=λpn s G H D I q=>h pn s G H D I (i D G H q)
variable{L:Hp->Prop}
noncomputable def slot:DE->Nat->Option EV
 |[],_=>none
 |x::_,0=>x
 |_::r,i+1=>slot r i
theorem xu:∀{U:DE}{i:Nat}{r:EV},slot U i=some r->U[i]?=some (some r)
 |[],_,_,h=>by cases h
 |x::_,0,_,h=>by cases h;rfl
 |_::l,i+1,r,h=>by rw[zfB];exact xu (U:=l) h
def ux(i:Nat):TD:=λU Y=>match slot U i with
 |some r=>Y r
 |none=>False
def dC(d:D):TD:=λ_ Y=>Y (dv d)
section
variable{a b c e:Expr}{ta tb:TD}{pos:Pos}
def z9(i:Nat){x:Str}(u:autoParam (X.N[i]?=some x) zSr)(l:autoParam (Vis X.env.scope x) zSo)(q:autoParam (D_ x) zSd)(j:autoParam ((x==("__classdict__" : Str))=false) zSd):ED L X (.Name x pos) (ux i):=λH_=>impE (uq u l q j) λG H Q h=>by
 obtain⟨U,o,R,Y,g,k⟩:=h;cases e:slot U i with
 |none =>
  simp only[ux,e]at g
 |some r =>
  simp only[ux,e]at g;obtain⟨v,y,h⟩:=R.slots i r (xu e);refine⟨v,y,k v r H (Same.refl H) ?_ g⟩;obtain⟨z,d⟩:=r;rcases h with⟨rfl,h⟩|⟨rfl,a,e1,m,c⟩
  .exact h
  exact⟨a,e1,zah.mpr ⟨_,m,rfl⟩,c⟩
def ed_c{x:Expr}(h:PE X x (tC v))(hr:∀ H O,Rep X.K H O d v):ED L X x (dC d):=λH_=>impE h λG H Q h=>by
 obtain⟨U,o,R,Y,a,k⟩:=h;exact k v (dv d) H (Same.refl H) (hr H _) a
def zc {j pos}:ED L X (.Constant (.int i) j pos) (dC (.int i)):=ed_c uy λ_ _=>rfl
def k9{b:Bool} {j pos}:ED L X (.Constant (.bool b) j pos) (dC (.bl b)):=ed_c z4j λ_ _=>rfl
def ug {j pos}:ED L X (.Constant .none j pos) (dC .non):=ed_c z0n λ_ _=>rfl
def zf{x:Str} {j pos}:ED L X (.Constant (.str x) j pos) (dC (.str x)):=ed_c z0k λ_ _=>rfl
structure GC(K:W.Frag)(mg:Str->Option Value)(x:Str)(d:D):Prop where
 ex:∃u v,mg x=some u/\RelV v u/\∀H O,Rep K H O d v
def gc{x:Str}(G:GC X.K X.mg x d)(e:autoParam (Gl X x) zSr)(g:autoParam (D_ x) zSd):ED L X (.Name x pos) (dC d):=by
 obtain⟨u,v,a,r,h⟩:=G.ex;exact ed_c (D4 e a r g) h
def Qx{x:Str}(e:X.mg x=none)(a:bootBuiltins x=some (.type n))(g:autoParam (Gl X x) zSr)(d:autoParam (x≠"__name__") zSd)(j:autoParam (D_ x) zSd):ED L X (.Name x pos) (dC (.ty n)) :=
 ed_c (D8 g e a (v:=.ty n) rfl d j) λ_ _=>rfl
def gf(K:W.Frag)(d:R2)(s:D->D->(EV->Prop)->Prop):Prop :=
 ∀(H:Hp)(O:List Addr)(x y:D)(vx vy:V)(Y:EV->Prop)(Q:VK),(∀a,H a=none->a∉O)->View K H O x vx->View K H O y vy->s x y Y ->
  (∀v r H',Same H H'->RV K H H' O r v->Y r->Q v H')->d vx vy H Q
def d2(s:D->D->(EV->Prop)->Prop)(ta tb:TD):TD:=λU Y=>ta U λx=>tb U λy=>s x.d y.d Y
def J3{s:D->D->(EV->Prop)->Prop}(hl:gf X.K rr s):∀G H Q,ql X.K H_ (d2 s ta tb) G H Q->tOp rr (ql X.K H_ ta) (ql X.K H_ tb) G H Q:=λG H Q h=>by
 obtain⟨U,o,R,Y,l,k⟩:=h;refine⟨U,o,R,_,l,λu z H1 s1 j h1=>⟨U,o,R.to s1,_,h1,λq r2 H2 s2 g h2=>?_⟩⟩;exact hl H2 _ z.d r2.d u q Y Q (λa e=>R.ofree ((s1.trans s2).free e)) (j.same s2).view g.view h2 λv r H' x y h=>k v r H' (s1.trans (s2.trans x)) (y.start (s1.trans s2)) h
def Zx{s:D->D->(EV->Prop)->Prop}(ho:OpR X (binaryOp op) rr)(hl:gf X.K rr s)(e:ED L X a ta)(d:ED L X b tb):ED L X (.BinOp a op b pos) (d2 s ta tb):=λH_ =>
 impE (Q7 ho (e H_) (d H_)) (J3 hl)
def Zw{s:D->D->(EV->Prop)->Prop}(ho:OpR X (compareOp op) rr)(hl:gf X.K rr s)(g:ED L X a ta)(e:ED L X b tb)(d:behindInMarks op b=false):ED L X (.Compare a [op] [b] pos) (d2 s ta tb):=λH_ =>
 impE (D6 ho (g H_) (e H_) d) (J3 hl)
def Dd:OpR X (binaryOp .Mult) (rI IntMulOk λi j=>.int (i*j)):=opI λ_ _ _ _ _ _ _ a q=>PyProof.Rows.mul_int q a
def FdOk(i j:Int):Prop:=j≠0/\j.natAbs.log2<9000
def Kp:OpR X (binaryOp .FloorDiv) (rI FdOk λi j=>.int (i.fdiv j)):=opI λ_ _ _ _ _ _ _ a q=>floordiv_int a.1 q (.inl (PyProof.noPylong_of_log2 a.2))
def sI(C:Int->Int->Prop)(g:Int->Int->D):D->D->(EV->Prop)->Prop:=λx y Y=>match x,y with
 |.int i,.int j=>C i j/\Y (dv (g i j))
 |_,_=>False
def N7{K:W.Frag}{C:Int->Int->Prop}{g:Int->Int->D}{gv:Int->Int->V}(e:∀ i j H O,Rep K H O (g i j) (gv i j)):gf K (rI C gv) (sI C g):=by
 intro H O x y q l Y Q ho d a h k;unfold sI at h;split at h
 .exact⟨_,_,d,a,h.1,k _ _ H (Same.refl H) (by exact e _ _ H O) h.2⟩
 exact h.elim
def sI0(g:Int->Int->D):D->D->(EV->Prop)->Prop:=λx y Y=>match x,y with
 |.int i,.int j=>Y (dv (g i j))
 |_,_=>False
def jz{K:W.Frag}{g:Int->Int->D}{gv:Int->Int->V}(e:∀ i j H O,Rep K H O (g i j) (gv i j)):gf K (rI0 gv) (sI0 g):=by
 intro H O x y q l Y Q ho d a h k;unfold sI0 at h;split at h
 .exact⟨_,_,d,a,k _ _ H (Same.refl H) (by exact e _ _ H O) h⟩
 exact h.elim
abbrev sSub:=sI0 λi j=>.int (i-j)
abbrev sFd:=sI FdOk λi j=>.int (i.fdiv j)
abbrev sMod:=sI (λ_ j=>j≠0) λi j=>.int (i.fmod j)
abbrev sPow:=sI CPow λi j=>.int (i ^ j.toNat)
abbrev sLt:=sI0 λi j=>.bl (decide (i<j))
abbrev sGt:=sI0 λi j=>.bl (decide (j<i))
abbrev sGe:=sI0 λi j=>.bl (decide (j<=i))
def gu(e:ED L X a ta)(d:ED L X b tb):ED L X (.BinOp a .Sub b pos) (d2 sSub ta tb):=Zx Gb (jz λ_ _ _ _=>rfl) e d
def jm(e:ED L X a ta)(d:ED L X b tb):ED L X (.BinOp a .FloorDiv b pos) (d2 sFd ta tb):=Zx Kp (N7 λ_ _ _ _=>rfl) e d
def x6(e:ED L X a ta)(d:ED L X b tb):ED L X (.BinOp a .Mod b pos) (d2 sMod ta tb):=Zx Ot (N7 λ_ _ _ _=>rfl) e d
def gw(e:ED L X a ta)(d:ED L X b tb):ED L X (.BinOp a .Pow b pos) (d2 sPow ta tb):=Zx Gc (N7 λ_ _ _ _=>rfl) e d
def z5g(e:ED L X a ta)(d:ED L X b tb):ED L X (.Compare a [.Lt] [b] pos) (d2 sLt ta tb):=Zw z0q (jz λ_ _ _ _=>rfl) e d (uz _)
def z5j(e:ED L X a ta)(d:ED L X b tb):ED L X (.Compare a [.GtE] [b] pos) (d2 sGe ta tb):=Zw z0s (jz λ_ _ _ _=>rfl) e d (uz _)
def sAdd:D->D->(EV->Prop)->Prop:=λx y Y=>match x,y with
 |.int i,.int j=>Y (dv (.int (i+j)))
 |.str p,.str q=>p.length+q.length<=sizeLine/\Y (dv (.str (p++q)))
 |.lst p,.lst q=>p.length+q.length<=sizeLine/\Y (df (.lst (p++q)))
 |.tup p,.tup q=>p≠[]/\q≠[]/\p.length+q.length<=sizeLine/\Y (dv (.tup (p++q)))
 |_,_=>False
def ye(h:H p=none)(o:HO):Same H (upd H p o):=λb u q=>by rw[y0 (zk q h)];exact q
def K5{K:W.Frag}{H:Hp}{O:List Addr}{p:Addr}{o:HO}{S:List D}{E:List V}(a:H p=none)(r:Reps K H O S E):Reps K (upd H p o) O S E:=zp.grow (Grow.same (ye a o)) _ _ r
def X6{o:HO}(a:H p=none):Grow O (p::O) H (upd H p o) :=
 ⟨λb u h n=>⟨ye a o b u h,λz=>(zam.mp z).elim (λe=>zk h a e) n⟩,λb E h=>ye a o b _ h,λb d u h=>ye a o b _ h⟩
def sk{K:W.Frag}{H:Hp}{O:List Addr}{p:Addr}{S:List D}{E:List V}(ho:∀ a,H a=none->a∉O)(d:H p=none)(r:Reps K H O S E):RV K H (upd H p (.lst E)) O (df (.lst S)) (.ref p) :=
 ⟨p,rfl,d,ho p d,E,zu,zp.grow (X6 d) _ _ r⟩
def Tz{K:W.Frag}{H:Hp}{O:List Addr}{p:Addr}{S:List D}{E:List V}(a:H p=none)(r:Reps K H O S E):RV K H (upd H p (.tup E)) O (dv (.tup S)) (.ref p) :=
 ⟨p,E,rfl,⟨SqT.of zu,zu⟩,K5 a r⟩
def J1:gf X.K (λx y H Q=>rI0 (λi j=>.int (i+j)) x y H Q\/(∃i j,x=.str i/\y=.str j/\i.length+j.length<=sizeLine/\Q (.str (i++j)) H)\/rCat x y H Q\/Ap X.K x y H Q) sAdd:=by
 intro H O x y I G Y Q ho l g h k;unfold sAdd at h;split at h
 .exact .inl ⟨_,_,l,g,k _ _ H (Same.refl H) aH h⟩
 .exact .inr (.inl ⟨_,_,l,g,h.1,k _ _ H (Same.refl H) aH h.2⟩)
 .obtain⟨a1,E,rfl,u,a⟩:=l;obtain⟨a2,ys,rfl,r,r2⟩:=g;refine .inr (.inr (.inl ⟨a1,a2,E,ys,rfl,rfl,u,r,by rw[a.length,r2.length];exact h.1,λp q=>?_⟩))
  exact k _ _ _ (ye q _) (sk ho q (a.append r2)) h.2
 .obtain⟨B,v,D,q⟩:=h;obtain⟨a1,E,rfl,u,a⟩:=l;obtain⟨a2,ys,rfl,r,r2⟩:=g;refine .inr (.inr (.inr ⟨a1,a2,E,ys,rfl,rfl,u.1,r.1,?_,by rw[a.length,r2.length];exact D,λz=>?_,λ_ p d=>?_⟩))
  .intro z;have e:=a.length;rw[z]at e;exact B (zcM e.symm)
  .exfalso;have e:=r2.length;rw[z]at e;exact v (zcM e.symm)
  exact k _ _ _ (ye d _) (Tz d (a.append r2)) q
 exact h.elim
def yx(e:ED L X a ta)(d:ED L X b tb):ED L X (.BinOp a .Add b pos) (d2 sAdd ta tb):=Zx (Gi.or (Qa.or (z0u.or Ou))) J1 e d
def sMul:D->D->(EV->Prop)->Prop:=λx y Y=>match x,y with
 |.int i,.int j=>IntMulOk i j/\Y (dv (.int (i*j)))
 |.lst p,.int k=>-(2 ^ 63)<=k/\k<2 ^ 63/\p.length*k.toNat<=sizeLine/\Y (df (.lst (List.replicate k.toNat p).flatten))
 |_,_=>False
end
mutual
noncomputable def eqD:D->D->Bool
 |.non,.non=>true
 |.bl a,.bl b=>a==b
 |.bl a,.int b=>(if a then 1 else 0)==b
 |.int a,.bl b=>a==(if b then 1 else 0)
 |.int a,.int b=>a==b
 |.str a,.str b=>a==b
 |.tup a,.tup b=>eqDs a b
 |.lst a,.lst b=>eqDs a b
 |_,_=>false
noncomputable def eqDs:List D->List D->Bool
 |[],[]=>true
 |a::as,b::bs=>eqD a b&&eqDs as bs
 |_,_=>false
end
def okD:Nat->D->Prop
 |0,d=>match d with
  |.non=>True
  |.bl _=>True
  |.int _=>True
  |.str _=>True
  |_=>False
 |n+1,d=>match d with
  |.non=>True
  |.bl _=>True
  |.int _=>True
  |.str _=>True
  |.tup S=>∀x∈S,okD n x
  |.lst S=>∀x∈S,okD n x
  |_=>False
theorem bg:∀{S es:List D},eqDs S es=true ↔ S.length=es.length/\∀(j:Nat)(x y:D),S[j]?=some x->es[j]?=some y->eqD x y=true
 |[],[]=>by simp[eqDs]
 |[],y::es=>by simp[eqDs]
 |x::S,[]=>by simp[eqDs]
 |x::S,y::es=>by
  rw[eqDs,zcL,bg];constructor
  .rintro⟨h,hl,q⟩;refine⟨by simp[hl],λj a b e d=>?_⟩
   cases j with
   |zero=>simp at e d;subst e d;exact h
   |succ j=>exact q j a b (by simpa using e) (by simpa using d)
  rintro⟨hl,q⟩;exact⟨q 0 x y rfl rfl,by simpa using hl,λj a b e d=>q (j+1) a b (by simpa using e) (by simpa using d)⟩
def ga(S es:List D):eqDs S es=((List.range (min S.length es.length)).all (λj=>eqD (S.getD j .non) (es.getD j .non))&&S.length==es.length):=by
 rw[Bool.eq_iff_iff,bg,zcL,List.all_eq_true];constructor
 .rintro⟨hl,q⟩;refine⟨λj k=>?_,by simp[hl]⟩
  have g:=zdZ.mp k;have h1:j<S.length:=by lia
  have h2:j<es.length:=by lia
  have e1:S[j]?=some S[j]:=by simp[h1]
  have e2:es[j]?=some es[j]:=by simp[h2]
  have:=q j _ _ e1 e2;simpa [List.getD,e1,e2] using this
 rintro⟨q,hl⟩;have a:S.length=es.length:=by simpa using hl
 refine⟨a,λj x y d e=>?_⟩;have h1:=(zag.mp d).1;have:=q j (zdZ.mpr aD)
 simpa [List.getD,d,e] using this
def Wa{n:Nat}{d:D}{S:List D}(e:d=.tup S\/d=.lst S)(h:okD n d):∃m,n=m+1/\∀x∈S,okD m x:=by
 cases n with
 |zero=>rcases e with rfl|rfl <;> exact h.elim
 |succ m=>rcases e with rfl|rfl <;> exact⟨m,rfl,h⟩
noncomputable def svD:D->Option V
 |.non=>some .non
 |.bl b=>some (.bl b)
 |.int i=>some (.int i)
 |.str x=>some (.str x)
 |_=>none
noncomputable def vsD:V->D
 |.bl b=>.bl b
 |.int i=>.int i
 |.str x=>.str x
 |_=>.non
def Pb{d:D}{w:V}(h:svD d=some w):vsD w=d/\(∀a,w≠.ref a)/\eqD d d=true:=by
 cases d <;> first|cases h;exact⟨rfl,nofun,rfl⟩|cases h;exact⟨rfl,nofun,beq_self_eq_true _⟩|cases h
def Yp{n:Nat}{d:D}(h:okD n d):(∃w,svD d=some w/\∀K H v,Rep K H [] d v->v=w)\/∃S,d=.tup S\/d=.lst S:=by
 cases n <;> cases d <;> first|exact h.elim|exact .inl ⟨_,rfl,λ_ _ _ h=>h⟩|exact .inr ⟨_,.inl rfl⟩|exact .inr ⟨_,.inr rfl⟩
def Jx(n:Nat):∀d:D,okD n d->eqD d d=true:=by
 induction n using Nat.strongRecOn with
 |_ n ih =>
  intro d h;rcases Yp h with⟨w,e,_⟩|⟨S,e⟩
  .exact(Pb e).2.2
  obtain⟨m,rfl,o⟩:=Wa e h;have q:eqDs S S=true:=bg.mpr ⟨rfl,λj x y g a=>by
   rw[g]at a;cases a;exact ih m (zbP m) x (o x (zan g))⟩
  rcases e with rfl|rfl <;> exact q
def RepN.inj(I:Inv X pn G H s)(n:Nat):∀(d e:D)(v:V),okD n d->okD n e->Rep X.K H [] d v->Rep X.K H [] e v->d=e:=by
 induction n using Nat.strongRecOn with
 |_ n ih =>
  intro d e v hd Z h1 h2;have l:∀(a:Addr)(E ys:List V),SqT X.K H a E->H a=some (.lst ys)->False:=λa E ys k j=>by
   obtain⟨its,_,p1,_⟩:=I.tuple k;obtain⟨W,_,p2,_⟩:=I.list (SqL.of j);exact SeqAt.ne_of_list_tuple p2.isList (show s.heap.IsTuple a its.toArray from p1) rfl
  have B:∀{d:D}{S:List D},d=.tup S\/d=.lst S->Rep X.K H [] d v->∃a,v=.ref a:=λ{d S} e h=>by
   rcases e with rfl|rfl
   .exact let ⟨a,_,e,_⟩:=h;⟨a,e⟩
   exact let ⟨a,_,e,_⟩:=h;⟨a,e⟩
  rcases Yp hd with⟨w,ew,O⟩|⟨S,N⟩ <;> rcases Yp Z with⟨w',J,y⟩|⟨es,M⟩
  .rw[<- (Pb ew).1,<- (Pb J).1,<- O _ _ _ h1,<- y _ _ _ h2]
  .exact let ⟨a,z⟩:=B M h2;absurd ((O _ _ _ h1).symm.trans z) ((Pb ew).2.1 a)
  .exact let ⟨a,z⟩:=B N h1;absurd ((y _ _ _ h2).symm.trans z) ((Pb J).2.1 a)
  obtain⟨m,rfl,R⟩:=Wa N hd;obtain⟨_,em,Q⟩:=Wa M Z;cases em;have g:∀(S es:List D)(E:List V),(∀x∈S,okD m x)->(∀x∈es,okD m x)->Reps X.K H [] S E->Reps X.K H [] es E->S=es:=by
   intro S
   induction S with
   |nil =>
    intro es E _ _ u r2;have:=u.length;rw[r2.length]at this;exact(zcM this).symm
   |cons d S ih2 =>
    intro es E h1 h2 ⟨v,r,e0,q,t⟩ r2;subst e0;cases es with
    |nil=>cases r2
    |cons e es =>
     obtain⟨v',r',e1,q',t'⟩:=r2;cases e1;rw[ih m (zbP m) d e v (h1 d (zao ..)) (h2 e (zao ..)) q q',ih2 es r (λx L=>h1 x (zal _ L)) (λx L=>h2 x (zal _ L)) t t']
  rcases N with rfl|rfl <;> rcases M with rfl|rfl
  .obtain⟨a,E,rfl,k,u⟩:=h1;obtain⟨a',ys,e1,j,r2⟩:=h2;cases e1;cases I.tuple_inj k.1 j.1;rw[g S es E R Q u r2]
  .obtain⟨a,E,rfl,k,u⟩:=h1;obtain⟨a',ys,e1,j,_,r2⟩:=h2;cases e1;exact(l _ _ _ k.1 j).elim
  .obtain⟨a,E,rfl,k,_,u⟩:=h1;obtain⟨a',ys,e1,j,r2⟩:=h2;cases e1;exact(l _ _ _ j.1 k).elim
  obtain⟨a,E,rfl,k,_,u⟩:=h1;obtain⟨a',ys,e1,j,_,r2⟩:=h2;cases e1;cases I.list_inj (SqL.of k) (SqL.of j);rw[g S es E R Q u r2]
inductive Sh(K:W.Frag)(H:Hp)(s:Shared):D->Value->Prop where
 |non:Sh K H s .non .none
 |bl (b:Bool):Sh K H s (.bl b) (.bool b)
 |int (i:Int) (t:Tok):Sh K H s (.int i) (.int i t)
 |str (x:Str) (t:Tok):Sh K H s (.str x) (.str x t)
 |tup {a:Addr} {S:List D} {E:List V} {its:List Value} (p:s.heap.IsTuple a its.toArray) (r:Vals E its) (q:Reps K H [] S E):Sh K H s (.tup S) (.ref a)
 |lst {a:Addr} {S:List D} {E:List V} {its:List Value} (p:s.heap.IsList a its.toArray) (r:Vals E its) (q:Reps K H [] S E):Sh K H s (.lst S) (.ref a)
def Vw(I:Inv X pn G H s){x:V}(g:okD n d)(h:Rep X.K H [] d x)(r:RelV x u):Sh X.K H s d u:=by
 cases d with
 |non=>cases (show x=_ from h);cases r;exact .non
 |bl b=>cases (show x=_ from h);cases r;exact .bl b
 |int b=>cases (show x=_ from h);obtain⟨t,rfl⟩:=r;exact .int b t
 |str b=>cases (show x=_ from h);obtain⟨t,rfl⟩:=r;exact .str b t
 |tup S =>
  obtain⟨a,E,rfl,q,t⟩:=h;cases r;obtain⟨its,e,p,_⟩:=I.tuple q.1;exact .tup (show s.heap.IsTuple a its.toArray from p) e t
 |lst S =>
  obtain⟨a,E,rfl,q,_,t⟩:=h;cases r;obtain⟨its,e,p,_⟩:=I.list (SqL.of q);exact .lst p.isList e t
 |_=>cases n <;> exact g.elim
section
open SeqAt in
def T1(I:Inv X pn G H s):∀(n:Nat)(d e:D)(x y:V)(u v:Value)(A:Around),okD n d->okD n e->Rep X.K H [] d x->Rep X.K H [] e y->RelV x u->RelV y v->A.units+n<cLine ->
  RcAt A s u v (eqD d e)/\RcNeAt A s u v (!eqD d e)/\EqAt A s u v (eqD d e):=by
 intro n
 induction n using Nat.strongRecOn with
 |_ n ih =>
  intro d e x y u v A W O h1 h2 R r2 hu;have g:A.units<cLine:=by lia
  have L:∀{l b:Addr}{k:Bool},u=.ref l->v=.ref b->k=eqD d e->RcAt A s (.ref l) (.ref b) k->EqAt A s (.ref l) (.ref b) k:=λ{l b k} e1 e2 N h=>by
   by_cases hlb:l=b
   .subst hlb;have hv:x=y:=by
     have z1:x=.ref l:=by
      cases x <;> subst e1 <;> first|(have:=(show Value.ref l=Value.ref _ from R);cases this;rfl)|(obtain⟨t,z⟩:=R;cases z)|cases R
     have z2:y=.ref l:=by
      cases y <;> subst e2 <;> first|(have:=(show Value.ref l=Value.ref _ from r2);cases this;rfl)|(obtain⟨t,z⟩:=r2;cases z)|cases r2
     rw[z1,z2]
    subst hv;have a4:=RepN.inj I n d e x W O h1 h2;subst a4;rw[N,Jx n d W];exact EqAt.same _
   exact EqAt.of_refs hlb h
  have items:∀{S es:List D}{E ys:List V}{its B:List Value},(d=.tup S\/d=.lst S)->(e=.tup es\/e=.lst es)->Reps X.K H [] S E->Reps X.K H [] es ys->Vals E its->Vals ys B ->
    ∀j (h1:j<its.toArray.size) (h2:j<B.toArray.size),EqAt A.in1 s its.toArray[j] B.toArray[j] (eqD (S.getD j .non) (es.getD j .non)):=λ{S es E ys its B} o1 Z q1 q2 w1 w2 j h1 h2=>by
   obtain⟨m,rfl,o1⟩:=Wa o1 W;obtain⟨_,em,Z⟩:=Wa Z O;cases em;have a0:A.in1.units+m<cLine:=by
    have:A.in1.units=A.units+1:=rfl;lia
   have l1:=w1.length;have l2:=w2.length;have k1:=q1.length;have k2:=q2.length;have g1:j<S.length:=by simp at h1;lia
   have g2:j<es.length:=by simp at h2;lia
   have e1:S[j]?=some S[j]:=by simp[g1]
   have e2:es[j]?=some es[j]:=by simp[g2]
   obtain⟨x',ex,rx⟩:=q1.get e1;obtain⟨y',ey,ry⟩:=q2.get e2;obtain⟨u',eu,ru⟩:=w1.get ex;obtain⟨v',ev,rv⟩:=w2.get ey;have f1:its.toArray[j]=u':=by
    have:=(zag.mp eu).2;simpa using this
   have f2:B.toArray[j]=v':=by
    have:=(zag.mp ev).2;simpa using this
   rw[f1,f2,show S.getD j .non=S[j] by simp[List.getD,e1],show es.getD j .non=es[j] by simp[List.getD,e2]]
   exact(ih m (zbP m) S[j] es[j] x' y' u' v' A.in1 (o1 _ (zdM g1)) (Z _ (zdM g2)) rx ry ru rv a0).2.2
  cases Vw I W h1 R with
  |non =>
   cases Vw I O h2 r2 with
   |non=>exact⟨RcAt.none_none,RcNeAt.none_none,EqAt.same _⟩
   |bl b=>exact⟨RcAt.none_bool b,RcNeAt.none_bool b,EqAt.none_bool b⟩
   |int i t=>exact⟨RcAt.none_int i t,RcNeAt.none_int i t,EqAt.none_int i t⟩
   |str i t=>exact⟨RcAt.none_str i t,RcNeAt.none_str i t,EqAt.none_str i t⟩
   |tup p _ _=>exact⟨RcAt.none_tuple p g,RcNeAt.none_tuple p g,EqAt.none_tuple p g⟩
   |lst p _ _=>exact⟨RcAt.none_list p g,RcNeAt.none_list p g,EqAt.none_list p g⟩
  |bl a =>
   cases Vw I O h2 r2 with
   |non=>exact⟨RcAt.bool_none a,RcNeAt.bool_none a,EqAt.bool_none a⟩
   |bl b=>exact⟨RcAt.bool_bool a b,RcNeAt.bool_bool a b,EqAt.bool_bool a b⟩
   |int i t=>exact⟨RcAt.bool_int a i t,RcNeAt.bool_int a i t,EqAt.bool_int a i t⟩
   |str i t=>exact⟨RcAt.bool_str a i t,RcNeAt.bool_str a i t,EqAt.bool_str a i t⟩
   |tup p _ _=>exact⟨RcAt.bool_tuple a p g,RcNeAt.bool_tuple a p g,EqAt.bool_tuple a p g⟩
   |lst p _ _=>exact⟨RcAt.bool_list a p g,RcNeAt.bool_list a p g,EqAt.bool_list a p g⟩
  |int a t =>
   cases Vw I O h2 r2 with
   |non=>exact⟨RcAt.int_none a t,RcNeAt.int_none a t,EqAt.int_none a t⟩
   |bl b=>exact⟨RcAt.int_bool a t b,RcNeAt.int_bool a t b,EqAt.int_bool a t b⟩
   |int i t'=>exact⟨RcAt.int_int a t i t',RcNeAt.int_int a t i t',EqAt.int_int a t i t'⟩
   |str i t'=>exact⟨RcAt.int_str a t i t',RcNeAt.int_str a t i t',EqAt.int_str a t i t'⟩
   |tup p _ _=>exact⟨RcAt.int_tuple a t p g,RcNeAt.int_tuple a t p g,EqAt.int_tuple a t p g⟩
   |lst p _ _=>exact⟨RcAt.int_list a t p g,RcNeAt.int_list a t p g,EqAt.int_list a t p g⟩
  |str a t =>
   cases Vw I O h2 r2 with
   |non=>exact⟨RcAt.str_none a t,RcNeAt.str_none a t,EqAt.str_none a t⟩
   |bl b=>exact⟨RcAt.str_bool a t b,RcNeAt.str_bool a t b,EqAt.str_bool a t b⟩
   |int i t'=>exact⟨RcAt.str_int a t i t',RcNeAt.str_int a t i t',EqAt.str_int a t i t'⟩
   |str i t'=>exact⟨RcAt.str_str a t i t',RcNeAt.str_str a t i t',EqAt.str_str a t i t'⟩
   |tup p _ _=>exact⟨RcAt.str_tuple a t p g,RcNeAt.str_tuple a t p g,EqAt.str_tuple a t p g⟩
   |lst p _ _=>exact⟨RcAt.str_list a t p g,RcNeAt.str_list a t p g,EqAt.str_list a t p g⟩
  |@tup l S E its p r q =>
   cases Vw I O h2 r2 with
   |non=>exact⟨RcAt.tuple_none p g,RcNeAt.tuple_none p g,EqAt.tuple_none p g⟩
   |bl b=>exact⟨RcAt.tuple_bool b p g,RcNeAt.tuple_bool b p g,EqAt.tuple_bool b p g⟩
   |int i t=>exact⟨RcAt.tuple_int i t p g,RcNeAt.tuple_int i t p g,EqAt.tuple_int i t p g⟩
   |str i t=>exact⟨RcAt.tuple_str i t p g,RcNeAt.tuple_str i t p g,EqAt.tuple_str i t p g⟩
   |lst p2 _ _=>exact⟨RcAt.tuple_list p p2 g,RcNeAt.tuple_list p p2 g,EqAt.tuple_list p p2 g⟩
   |@tup b es ys B p2 r' q' =>
    have e1:its.toArray.size=S.length:=by rw[zap,<- r.length,q.length]
    have e2:B.toArray.size=es.length:=by rw[zap,<- r'.length,q'.length]
    have N:eqD (.tup S) (.tup es)=((List.range (min its.toArray.size B.toArray.size)).all (λj=>eqD (S.getD j .non) (es.getD j .non))&&its.toArray.size==B.toArray.size):=by
     rw[e1,e2];exact ga S es
    rw[N];have M:=items (.inl rfl) (.inl rfl) q q' r r';have J:=RcAt.tuples p p2 g M;exact⟨J,RcNeAt.tuples p p2 g M,L rfl rfl N.symm J⟩
  |@lst l S E its p r q =>
   cases Vw I O h2 r2 with
   |non=>exact⟨RcAt.list_none p g,RcNeAt.list_none p g,EqAt.list_none p g⟩
   |bl b=>exact⟨RcAt.list_bool b p g,RcNeAt.list_bool b p g,EqAt.list_bool b p g⟩
   |int i t=>exact⟨RcAt.list_int i t p g,RcNeAt.list_int i t p g,EqAt.list_int i t p g⟩
   |str i t=>exact⟨RcAt.list_str i t p g,RcNeAt.list_str i t p g,EqAt.list_str i t p g⟩
   |tup p2 _ _=>exact⟨RcAt.list_tuple p p2 g,RcNeAt.list_tuple p p2 g,EqAt.list_tuple p p2 g⟩
   |@lst b es ys B p2 r' q' =>
    have e1:its.toArray.size=S.length:=by rw[zap,<- r.length,q.length]
    have e2:B.toArray.size=es.length:=by rw[zap,<- r'.length,q'.length]
    by_cases hsz:its.toArray.size=B.toArray.size
    .have N:eqD (.lst S) (.lst es)=(List.range its.toArray.size).all (λj=>eqD (S.getD j .non) (es.getD j .non)):=by
      show eqDs S es=_;rw[ga,<- e1,<- e2,<- hsz];simp
     rw[N];have M:=items (.inr rfl) (.inr rfl) q q' r r';have J:=RcAt.lists p p2 hsz g M;exact⟨J,RcNeAt.lists p p2 hsz g M,L rfl rfl N.symm J⟩
    have N:eqD (.lst S) (.lst es)=false:=by
     show eqDs S es=_;have hb:(its.toArray.size==B.toArray.size)=false:=zbN.mpr hsz;rw[ga,<- e1,<- e2,hb,Bool.and_false]
    rw[N];have Q:(its.toArray.size != B.toArray.size)=true:=by simpa using hsz
    have J:=RcAt.lists_lengths p p2 Q g;exact⟨J,RcNeAt.lists_lengths p p2 Q g,L rfl rfl N.symm J⟩
end
section
variable{a b:Expr}{ta tb:TD}{pos:Pos}
def rEqD(K:W.Frag)(a:Bool):R2:=λx y H Q=>∃d e,Rep K H [] d x/\Rep K H [] e y/\okD 40 d/\okD 40 e/\Q (.bl (if a then !eqD d e else eqD d e)) H
def Gh(hu:X.A.units+64<cLine):OpR X (compareOp .Eq) (rEqD X.K false):=by
 intro pn s G H x y v u Q I g a h;obtain⟨d,e,h1,h2,k,j,q⟩:=h;exact(T1 I 40 d e x y v u X.A k j h1 h2 g a aD).1 X.prog X.w X.xe _ ⟨.bl _,H,I,rfl,q⟩
def Ge(hu:X.A.units+64<cLine):OpR X (compareOp .NotEq) (rEqD X.K true):=by
 intro pn s G H x y v u Q I g a h;obtain⟨d,e,h1,h2,k,j,q⟩:=h;exact(T1 I 40 d e x y v u X.A k j h1 h2 g a aD).2.1 X.prog X.w X.xe _ ⟨.bl _,H,I,rfl,q⟩
def sEq:D->D->(EV->Prop)->Prop:=λx y Y=>okD 40 x/\okD 40 y/\Y (dv (.bl (eqD x y)))
def sNe:D->D->(EV->Prop)->Prop:=λx y Y=>okD 40 x/\okD 40 y/\Y (dv (.bl (!eqD x y)))
def Cq(hu:X.A.units+64<cLine)(j:ED L X a ta)(g:ED L X b tb):ED L X (.Compare a [.Eq] [b] pos) (d2 sEq ta tb) :=
 Zw (Gh hu) (λH O x y q l Y Q ho e d h k=>⟨x,y,e.rep0,d.rep0,h.1,h.2.1,k _ _ H (Same.refl H) aH h.2.2⟩) j g (uz _)
def z5f(hu:X.A.units+64<cLine)(j:ED L X a ta)(g:ED L X b tb):ED L X (.Compare a [.NotEq] [b] pos) (d2 sNe ta tb) :=
 Zw (Ge hu) (λH O x y q l Y Q ho e d h k=>⟨x,y,e.rep0,d.rep0,h.1,h.2.1,k _ _ H (Same.refl H) aH h.2.2⟩) j g (uz _)
end
section
variable{a b c e:Expr}{es:List Expr}{ta tb te:TD}{t:TDs}{pos:Pos}
def Kw:gf X.K (λx y H Q=>rI IntMulOk (λi j=>.int (i*j)) x y H Q\/rRep x y H Q) sMul:=by
 intro H O x y v u Y Q ho e d h k;unfold sMul at h;split at h
 .exact .inl ⟨_,_,e,d,h.1,k _ _ H (Same.refl H) aH h.2⟩
 .obtain⟨h1,h2,r,q⟩:=h;obtain⟨a1,E,rfl,l,a⟩:=e;refine .inr ⟨a1,_,E,rfl,d,l,h1,h2,by rw[a.length];exact r,λp g=>?_⟩
  exact k _ _ _ (ye g _) (sk ho g (a.rep _)) q
 exact h.elim
def jk(e:ED L X a ta)(d:ED L X b tb):ED L X (.BinOp a .Mult b pos) (d2 sMul ta tb):=Zx (Dd.or z0p) Kw e d
def sNeg:D->(EV->Prop)->Prop:=λx Y=>match x with
 |.int i=>Y (dv (.int (-i)))
 |_=>False
def d1(s:D->(EV->Prop)->Prop)(ta:TD):TD:=λU Y=>ta U λx=>s x.d Y
def jj(q:ED L X a ta):ED L X (.UnaryOp .USub a pos) (d1 sNeg ta):=λH_=>impE (z4h B4 (q H_)) λG H Q h=>by
 obtain⟨U,o,R,Y,g,k⟩:=h;refine⟨U,o,R,_,g,λr j H1 s1 e h1=>?_⟩;obtain⟨u,d⟩:=j;have l:=e.view;cases d with
 |int i=>exact⟨i,l,k _ _ H1 s1 aH h1⟩
 |_=>exact h1.elim
noncomputable def truD:D->Option Bool
 |.non=>some false
 |.bl b=>some b
 |.int i=>some (i != 0)
 |.str x=>if x.length<=sizeLine then some ((x.length:Int) != 0) else none
 |.lst S=>some (!S.isEmpty)
 |.scr ns=>some (!ns.isEmpty)
 |.tup S=>some (!S.isEmpty)
 |.dk _ S=>some (!S.isEmpty)
 |.ty _=>none
 |.cn _=>none
 |.fo _=>none
 |.sx _=>none
 |.ob _ _ _=>none
def gn{K:W.Frag}{H:Hp}{O:List Addr}{S:List D}{E:List V}(r:Reps K H O S E):E.isEmpty=S.isEmpty:=by
 have:=r.length;cases E <;> cases S <;> simp_all
def Lm{K:W.Frag}{H:Hp}{O:List Addr}{d:D}{v:V}{b:Bool}(h:View K H O d v)(e:truD d=some b):TruV K v H b:=by
 cases d with
 |non=>cases (show v=_ from h);cases e;rfl
 |bl i=>cases (show v=_ from h);cases e;rfl
 |int i=>cases (show v=_ from h);cases e;rfl
 |str x =>
  cases (show v=_ from h)
  have g:(if x.length<=sizeLine then some ((x.length:Int) != 0) else none)=some b:=e
  split at g
  .rename_i j;cases g;exact⟨j,rfl⟩
  cases g
 |ty _=>cases e
 |cn _=>cases e
 |fo _=>cases e
 |sx _=>cases e
 |ob _ _ _=>cases e
 |lst S =>
  obtain⟨a,E,rfl,q,r⟩:=h;cases e;exact .inl ⟨E,SqL.of q,by rw[gn r]⟩
 |scr ns =>
  obtain⟨a,rfl,q⟩:=h;cases e;exact .inl ⟨_,q.seq,by cases ns <;> rfl⟩
 |tup S =>
  obtain⟨a,E,rfl,q,r⟩:=h;cases e;exact .inr (.inl ⟨E,q.1,by rw[gn r]⟩)
 |dk ks S =>
  obtain⟨a,E,rfl,q,l,_,r⟩:=h;cases e;refine .inr (.inr ⟨_,q,?_⟩);have:=r.length;cases ks <;> cases S <;> cases E <;> simp_all
def tTru(t:TD):TDb:=λU Y=>t U λr=>match truD r.d with
 |some b=>Y b
 |none=>False
def si(h:ED L X a ta)(r:autoParam (∀ whole,isTrue a X.env whole=(do let v <- whole;standAt a.pos;holding [v] (truthy v))) zSi):ET L X a (tTru ta):=λH_=>impT (Kc (h H_) r) λG H Q q=>by
 obtain⟨U,o,R,Y,j,k⟩:=q;refine⟨U,o,R,_,j,λu l H1 s1 g h1=>?_⟩;cases e:truD l.d with
 |none=>simp only[e]at h1
 |some b =>
  simp only[e]at h1;exact⟨b,Lm g.view e,k b H1 s1 h1⟩
def tBo(t:TD):TDb:=λU Y=>t U λr=>match r.d with
 |.bl b=>Y b
 |_=>False
def jg{s:D->D->(EV->Prop)->Prop}(ho:OpR X (compareOp op) rr)(hl:gf X.K rr s)(q:ED L X a ta)(l:ED L X b tb)(j:behindInMarks op b=false):ET L X (.Compare a [op] [b] pos) (tBo (d2 s ta tb)):=λH_ =>
 impT (Oc ho (q H_) (l H_) j) λG H Q h=>by
  obtain⟨U,o,R,Y,e,k⟩:=h;refine J3 (ta:=ta) (tb:=tb) (H_:=H_.1) hl G H _ ⟨U,o,R,_,e,λv r H' s1 g h1=>?_⟩;obtain⟨u,d⟩:=r;cases d with
  |bl b=>exact⟨b,g.view,k b H' s1 h1⟩
  |_=>exact h1.elim
def Qv(e:ED L X a ta)(d:ED L X b tb):ET L X (.Compare a [.Lt] [b] pos) (tBo (d2 sLt ta tb)):=jg z0q (jz λ_ _ _ _=>rfl) e d (uz _)
def Uz(e:ED L X a ta)(d:ED L X b tb):ET L X (.Compare a [.Gt] [b] pos) (tBo (d2 sGt ta tb)):=jg z0r (jz λ_ _ _ _=>rfl) e d (uz _)
def z2m(e:ED L X a ta)(d:ED L X b tb):ET L X (.Compare a [.GtE] [b] pos) (tBo (d2 sGe ta tb)):=jg z0s (jz λ_ _ _ _=>rfl) e d (uz _)
def xp(hu:X.A.units+64<cLine)(j:ED L X a ta)(g:ED L X b tb):ET L X (.Compare a [.Eq] [b] pos) (tBo (d2 sEq ta tb)) :=
 jg (Gh hu) (λH O x y q l Y Q ho e d h k=>⟨x,y,e.rep0,d.rep0,h.1,h.2.1,k _ _ H (Same.refl H) aH h.2.2⟩) j g (uz _)
def V0(hu:X.A.units+64<cLine)(j:ED L X a ta)(g:ED L X b tb):ET L X (.Compare a [.NotEq] [b] pos) (tBo (d2 sNe ta tb)) :=
 jg (Ge hu) (λH O x y q l Y Q ho e d h k=>⟨x,y,e.rep0,d.rep0,h.1,h.2.1,k _ _ H (Same.refl H) aH h.2.2⟩) j g (uz _)
noncomputable def Jb:D->Bool
 |.non=>true
 |_=>false
def sIs:D->D->(EV->Prop)->Prop:=λx y Y=>match y with
 |.non=>Y (dv (.bl (Jb x)))
 |_=>False
def Tx:D->D->(EV->Prop)->Prop:=λx y Y=>match y with
 |.non=>Y (dv (.bl (!Jb x)))
 |_=>False
def Ti{K:W.Frag}{H:Hp}{O:List Addr}{d:D}{v:V}(h:View K H O d v):decide (v=.non)=Jb d:=by
 cases d with
 |tup S=>obtain⟨a,E,rfl,_⟩:=h;rfl
 |lst S=>obtain⟨a,E,rfl,_⟩:=h;rfl
 |scr ns=>obtain⟨a,rfl,_⟩:=h;rfl
 |fo _=>obtain⟨a,rfl,_⟩:=h;rfl
 |sx _=>obtain⟨a,_,rfl,_⟩:=h;rfl
 |ob _ _ _=>obtain⟨a,dx,E,rfl,_⟩:=h;rfl
 |dk ks S=>obtain⟨a,E,rfl,_⟩:=h;rfl
 |cn c =>
  cases c with
  |int i=>cases (show v=_ from h);rfl
  |str x=>cases (show v=_ from h);rfl
  |tup cs=>obtain⟨a,o,its,n,E,rfl,_⟩:=(show CRep K (.tup cs) v from h);rfl
 |_=>cases (show v=_ from h);rfl
def N5{K:W.Frag}:gf K (λx y H Q=>y=.non/\Q (.bl (decide (x=.non))) H) sIs:=by
 intro H O x y g e Y Q ho d a h k;unfold sIs at h;split at h
 .refine⟨a,?_⟩;rw[Ti d];exact k _ _ H (Same.refl H) aH h
 exact h.elim
def Qh{K:W.Frag}:gf K (λx y H Q=>y=.non/\Q (.bl (!decide (x=.non))) H) Tx:=by
 intro H O x y g e Y Q ho d a h k;unfold Tx at h;split at h
 .refine⟨a,?_⟩;rw[Ti d];exact k _ _ H (Same.refl H) aH h
 exact h.elim
def z5h(e:ED L X a ta)(d:ED L X b tb):ED L X (.Compare a [.Is] [b] pos) (d2 sIs ta tb):=Zw Gf N5 e d (uz _)
def Cg(e:ED L X a ta)(d:ED L X b tb):ET L X (.Compare a [.Is] [b] pos) (tBo (d2 sIs ta tb)):=jg Gf N5 e d (uz _)
def Jv(e:ED L X a ta)(d:ED L X b tb):ET L X (.Compare a [.IsNot] [b] pos) (tBo (d2 Tx ta tb)):=jg Dc Qh e d (uz _)
variable{tA tB':TDb}{rest:List Expr}
def bAnd(t u:TDb):TDb:=λU Y=>t U λc=>(c=true->u U Y)/\(c=false->Y false)
def bOr(t u:TDb):TDb:=λU Y=>t U λc=>(c=true->Y true)/\(c=false->u U Y)
def bNot(t:TDb):TDb:=λU Y=>t U λc=>Y (!c)
def Xd(d:ET L X a tA):EW L X (.BoolOp .And [a] pos) tA:=λH_=>El (d H_)
def b9(d:ET L X a tA):EW L X (.BoolOp .Or [a] pos) tA:=λH_=>Ax (d H_)
def Wz(g:ET L X a tA)(e:EW L X (.BoolOp .And (b::rest) pos) tB'):EW L X (.BoolOp .And (a::b::rest) pos) (bAnd tA tB'):=λH_=>impW (Ay (g H_) (e H_)) λG H Q h=>by
 obtain⟨U,o,R,Y,d,k⟩:=h;refine⟨U,o,R,_,d,λc H1 s1 h1=>?_⟩;cases c with
 |true=>exact iteT ⟨U,o,R.to s1,Y,h1.1 rfl,λb H2 s2 q=>k b H2 (s1.trans s2) q⟩
 |false=>exact iteF (k false H1 s1 (h1.2 rfl))
def Z7(g:ET L X a tA)(e:EW L X (.BoolOp .Or (b::rest) pos) tB'):EW L X (.BoolOp .Or (a::b::rest) pos) (bOr tA tB'):=λH_=>impW (z4e (g H_) (e H_)) λG H Q h=>by
 obtain⟨U,o,R,Y,d,k⟩:=h;refine⟨U,o,R,_,d,λc H1 s1 h1=>?_⟩;cases c with
 |true=>exact iteT (k true H1 s1 (h1.1 rfl))
 |false=>exact iteF ⟨U,o,R.to s1,Y,h1.2 rfl,λb H2 s2 q=>k b H2 (s1.trans s2) q⟩
def EW.et(h:EW L X a tA):ET L X a tA:=λH_=>PW.pt (h H_)
def ba(e:ET L X a tA):ET L X (.UnaryOp .Not a pos) (bNot tA):=λH_=>impT (z0c (e H_)) λG H Q h=>by
 obtain⟨U,o,R,Y,d,k⟩:=h;exact⟨U,o,R,_,d,λc H1 s1 h1=>k _ H1 s1 h1⟩
def vAnd(ta tb:TD):TD:=λU Y=>ta U λx=>match x.d with
 |.bl c=>(c=true->tb U Y)/\(c=false->Y (dv (.bl false)))
 |_=>False
def vOr(ta tb:TD):TD:=λU Y=>ta U λx=>match x.d with
 |.bl c=>(c=true->Y (dv (.bl true)))/\(c=false->tb U Y)
 |_=>False
def vNot(ta:TD):TD:=λU Y=>ta U λx=>match x.d with
 |.bl c=>Y (dv (.bl (!c)))
 |_=>False
def V6 {op} (h:ED L X a ta):ED L X (.BoolOp op [a] pos) ta:=λH_=>z0l (h H_)
def Rl(x:ED L X a ta)(u:ED L X (.BoolOp .And (b::rest) pos) tb):ED L X (.BoolOp .And (a::b::rest) pos) (vAnd ta tb):=λH_=>impE (z0o (x H_) (u H_)) λG H Q h=>by
 obtain⟨U,o,R,Y,g,k⟩:=h;refine⟨U,o,R,_,g,λv r H1 s1 l h1=>?_⟩;obtain⟨y,d⟩:=r;cases d with
 |bl c =>
  refine⟨c,l.view,?_⟩;cases c with
  |true=>exact iteT ⟨U,o,R.to s1,Y,h1.1 rfl,λj r2 H2 s2 e q=>k j r2 H2 (s1.trans s2) (e.start s1) q⟩
  |false=>exact iteF (k _ _ H1 s1 aH (h1.2 rfl))
 |_=>exact h1.elim
def z5e(x:ED L X a ta)(u:ED L X (.BoolOp .Or (b::rest) pos) tb):ED L X (.BoolOp .Or (a::b::rest) pos) (vOr ta tb):=λH_=>impE (z4i (x H_) (u H_)) λG H Q h=>by
 obtain⟨U,o,R,Y,g,k⟩:=h;refine⟨U,o,R,_,g,λv r H1 s1 l h1=>?_⟩;obtain⟨y,d⟩:=r;cases d with
 |bl c =>
  refine⟨c,l.view,?_⟩;cases c with
  |true=>exact iteT (k _ _ H1 s1 aH (h1.1 rfl))
  |false=>exact iteF ⟨U,o,R.to s1,Y,h1.2 rfl,λj r2 H2 s2 e q=>k j r2 H2 (s1.trans s2) (e.start s1) q⟩
 |_=>exact h1.elim
def F3(j:ED L X a ta):ED L X (.UnaryOp .Not a pos) (vNot ta):=λH_=>impE (z0m (j H_)) λG H Q h=>by
 obtain⟨U,o,R,Y,e,k⟩:=h;refine⟨U,o,R,_,e,λv r H1 s1 g h1=>?_⟩;obtain⟨l,d⟩:=r;cases d with
 |bl c=>exact⟨c,g.view,k _ _ H1 s1 aH h1⟩
 |_=>exact h1.elim
def vIf(t:TDb)(ta tb:TD):TD:=λU Y=>t U λc=>(c=true->ta U Y)/\(c=false->tb U Y)
def jl(j:ET L X c tA)(r:ED L X a ta)(l:ED L X b tb):ED L X (.IfExp c a b pos) (vIf tA ta tb):=λH_=>impE (Kn (j H_) (r H_) (l H_)) λG H Q h=>by
 obtain⟨U,o,R,Y,g,k⟩:=h;refine⟨U,o,R,_,g,λc H1 s1 h1=>?_⟩;cases c with
 |true=>exact iteT ⟨U,o,R.to s1,Y,h1.1 rfl,λe r2 H2 s2 d q=>k e r2 H2 (s1.trans s2) (d.start s1) q⟩
 |false=>exact iteF ⟨U,o,R.to s1,Y,h1.2 rfl,λe r2 H2 s2 d q=>k e r2 H2 (s1.trans s2) (d.start s1) q⟩
def aNil:TDs:=λ_ Y=>Y []
def u9(te:TD)(t:TDs):TDs:=λU Y=>te U λr=>t U λrs=>Y (r::rs)
def zb:EA L X [] aNil:=λH_=>impA uc λG H Q h=>by
 obtain⟨U,o,R,Y,a,k⟩:=h;exact k [] [] H (Same.refl H) aH a
def za(l:ED L X e te)(hr:EA L X es t)(j:autoParam (S_ X e es) zSr):EA L X (e::es) (u9 te t):=λH_=>impA (wg (l H_) (hr H_) j) λG H Q h=>by
 obtain⟨U,o,R,Y,d,k⟩:=h;refine⟨U,o,R,_,d,λv r H1 s1 g h1=>⟨U,o,R.to s1,_,h1,λvs rs H2 s2 a h2=>?_⟩⟩;exact k (v::vs) (r::rs) H2 (s1.trans s2) ⟨v,vs,rfl,g.same s2,a.start s1⟩ h2
noncomputable def da:List EV->Bool
 |[]=>true
 |r::rs=>(match r.k with|.own=>false|_=>true)&&da rs
theorem rz:∀{rs:List EV},da rs=true->∀r∈rs,r.k≠.own
 |[],_=>λr h=>nomatch h
 |⟨k,d⟩::rs,h=>λr hr=>by
  rw[da,zcL]at h;rcases zam.mp hr with rfl|hr
  .intro z;have a:k=.own:=z;subst a;exact absurd h.1 aE
  exact rz h.2 r hr
def dTup(t:TDs):TD:=λU Y=>t U λrs=>da rs=true/\Nat.ble rs.length 1000=true/\Y (dv (.tup (rs.map EV.d)))
def dLst(t:TDs):TD:=λU Y=>t U λrs=>da rs=true/\Nat.ble rs.length 1000=true/\Y (df (.lst (rs.map EV.d)))
def vf(h:Nat.ble n 1000=true):n<=sizeLine:=zak (zaD h) aB
theorem RVs.length{K:W.Frag}{H0 H:Hp}{O:List Addr}:∀{rs:List EV}{vs:List V},RVs K H0 H O rs vs->vs.length=rs.length
 |[],_,h=>by cases h;rfl
 |r::rs,vs,h=>by
  obtain⟨v,ws,rfl,_,t⟩:=h;simp[RVs.length t]
def zh {x1} (h:EA L X es t):ED L X (.Tuple es x1 pos) (dTup t):=λH_=>impE (Ol (h H_)) λG H Q q=>by
 obtain⟨U,o,R,Y,d,k⟩:=q;refine⟨U,o,R,_,d,λvs rs H1 s1 a h1=>⟨by rw[a.length];exact vf h1.2.1,λp e=>?_⟩⟩
 exact k _ _ _ (s1.trans (ye e _)) (RV.start (Tz e (a.reps (rz h1.1))) s1) h1.2.2
def ym(h:EA L X es t):ED L X (.List es pos) (dLst t):=λH_=>impE (G8 (h H_)) λG H Q q=>by
 obtain⟨U,o,R,Y,g,k⟩:=q;refine⟨U,o,R,_,g,λvs rs H1 s1 d h1=>⟨by rw[d.length];exact vf h1.2.1,λp j=>?_⟩⟩
 exact k _ _ _ (s1.trans (ye j _)) (RV.start (sk (λa e=>R.ofree (s1.free e)) j (d.reps (rz h1.1))) s1) h1.2.2
def sIx1:D->D->(EV->Prop)->Prop:=λx y Y=>match x,y with
 |.lst S,.int i=>match atI S i with
  |some d=>Y (dv d)
  |none=>False
 |.tup S,.int i=>match atI S i with
  |some d=>Y (dv d)
  |none=>False
 |.scr ns,.int i=>match atI ns i with
  |some n=>Y (dv (.int n))
  |none=>False
 |.str z,.int i=>z.length<=sizeLine/\match atI z.cps.toList i with
  |some c=>Y (dv (.str ⟨#[c]⟩))
  |none=>False
 |_,_=>False
def Rt{K:W.Frag}{H:Hp}{O:List Addr}{S:List D}{E:List V}{i:Int}{d:D}(r:Reps K H O S E)(h:atI S i=some d):∃v,atI E i=some v/\Rep K H O d v:=by
 unfold atI at h ⊢;rw[r.length];cases e:ixN S.length i with
 |none=>rw[e]at h;cases h
 |some j =>
  rw[e]at h;exact r.get h
def Do:gf X.K (rIx X.K) sIx1:=by
 intro H O x y G D Y Q ho l g h k;unfold sIx1 at h;split at h
 .obtain⟨a,E,rfl,q,r⟩:=l;split at h
  .rename_i d e;obtain⟨v,z,u⟩:=Rt r e;exact .inl ⟨a,E,_,v,rfl,g,SqL.of q,z,k _ _ H (Same.refl H) (RV.val u) h⟩
  exact h.elim
 .obtain⟨a,E,rfl,q,r⟩:=l;split at h
  .rename_i d e;obtain⟨v,z,u⟩:=Rt r e;exact .inr (.inl ⟨a,E,_,v,rfl,g,q.1,z,k _ _ H (Same.refl H) (RV.val u) h⟩)
  exact h.elim
 .obtain⟨a,rfl,q⟩:=l;split at h
  .rename_i n e;refine .inl ⟨a,_,_,.int n,rfl,g,q.seq,?_,k _ _ H (Same.refl H) aH h⟩
   unfold atI at e ⊢;rw[zLm];cases e2:ixN _ _ with
   |none=>rw[e2]at e;cases e
   |some j =>
    rw[e2]at e;exact(zai ..).trans (zbO (Option.map V.int) e)
  exact h.elim
 .obtain⟨B,h⟩:=h;split at h
  .rename_i c e;exact .inr (.inr ⟨_,_,c,l,g,B,e,k _ _ H (Same.refl H) aH h⟩)
  exact h.elim
 exact h.elim
abbrev TDo:=DE->(Option Int->Prop)->Prop
def z4p(K:W.Frag)(H_:Hp)(t:TDo):TO:=λG H Q=>∃U o,REnv K H_ H G U o/\∃Y,t U Y/\∀b H',Same H H'->Y b->Q b H'
def EO(G:Hp->Prop)(X:Cx)(e:Option Expr)(t:TDo):Prop:=∀H_:{H:Hp // G H},PO X e (z4p X.K H_.1 t)
def Dj:TDo:=λ_ Y=>Y none
def Di(t:TD):TDo:=λU Y=>t U λr=>match r.d with
 |.int i=>Y (some i)
 |_=>False
def impO{e:Option Expr}{t t':TO}(h:PO X e t)(i:∀ G H Q,t' G H Q->t G H Q):PO X e t':=λpn s G H Q I q=>h pn s G H Q I (i G H Q q)
def vh:EO L X none Dj:=λH_=>impO Es λG H Q h=>by
 obtain⟨U,o,R,Y,a,k⟩:=h;exact k none H (Same.refl H) a
def yz(h:ED L X e te):EO L X (some e) (Di te):=λH_=>impO (Er (h H_)) λG H Q q=>by
 obtain⟨U,o,R,Y,a,k⟩:=q;refine⟨U,o,R,_,a,λv r H1 s1 g h1=>?_⟩;obtain⟨j,d⟩:=r;cases d with
 |int i=>exact⟨i,g.view,k _ H1 s1 h1⟩
 |_=>exact h1.elim
noncomputable def cutD(E:List D)(lo hi:Option Int):List D:=(E.drop (ZZ.sIx E.length 0 lo)).take (ZZ.sIx E.length E.length hi-ZZ.sIx E.length 0 lo)
def Yl{K:W.Frag}{H:Hp}{O:List Addr}{S:List D}{E:List V}(r:Reps K H O S E)(lo hi:Option Int):Reps K H O (cutD S lo hi) (cutV E lo hi):=by
 unfold cutD cutV;rw[r.length];exact(r.drop _).take _
def sSl:D->Option Int->Option Int->(EV->Prop)->Prop:=λx lo hi Y=>match x with
 |.lst S=>Y (df (.lst (cutD S lo hi)))
 |.scr ns=>Y (df (.lst (cutD (ns.map D.int) lo hi)))
 |.tup S=>¬ (ZZ.sIx S.length 0 lo=0/\ZZ.sIx S.length S.length hi=S.length)/\Y (dv (.tup (cutD S lo hi)))
 |_=>False
def dSl(te:TD)(tl th:TDo):TD:=λU Y=>te U λx=>tl U λl=>th U λu=>sSl x.d l u Y
def xa{lo hi:Option Expr}{tl th:TDo}{p2:Pos}(J:ED L X e te)(hl:EO L X lo tl)(hu:EO L X hi th):ED L X (.Subscript e (.Slice lo hi none p2) pos) (dSl te tl th):=λH_ =>
 impE (Km (Fw.or A0) (J H_) (hl H_) (hu H_)) λG H Q q=>by
  obtain⟨U,o,R,Y,B,k⟩:=q;refine⟨U,o,R,_,B,λv r H1 s1 I h1=>⟨U,o,R.to s1,_,h1,λl H2 s2 h2=>⟨U,o,R.to (s1.trans s2),_,h2,λu N D x=>?_⟩⟩⟩;have z:=s1.trans s2;have g:=z.trans D;have y:=(I.same (s2.trans D)).view;obtain⟨M,d⟩:=r;cases d with
  |lst S =>
   obtain⟨a,E,rfl,q,r⟩:=y;refine .inl ⟨a,E,rfl,SqL.of q,λp j=>?_⟩;exact k _ _ _ (g.trans (ye j _)) (RV.start (sk (λa e=>R.ofree (g.free e)) j (Yl r l u)) g) x
  |scr ns =>
   obtain⟨a,rfl,q⟩:=y;refine .inl ⟨a,_,rfl,q.seq,λp j=>?_⟩;exact k _ _ _ (g.trans (ye j _)) (RV.start (sk (λa e=>R.ofree (g.free e)) j (Yl (zp.ints ns) l u)) g) x
  |tup S =>
   obtain⟨a,E,rfl,q,r⟩:=y;refine .inr ⟨a,E,rfl,q.1,by rw[r.length];exact x.1,λp j=>?_⟩
   exact k _ _ _ (g.trans (ye j _)) (RV.start (Tz j (Yl r l u)) g) x.2
  |_=>exact x.elim
end
def su(r:EV):Prop:=match r.k with
 |.val=>zw r.d
 |.own=>False
 |.fre=>match r.d with
  |.lst S=>y7 S
  |.dk _ S=>y7 S
  |_=>False
 |.new=>True
def RV.lift{K:W.Frag}{H0 H:Hp}{O:List Addr}{r:EV}{v:V}(h:RV K H0 H [] r v)(p:su r)(ho:∀ a,H0 a=none->a∉O):RV K H0 H O r v:=by
 obtain⟨k,d⟩:=r;cases k with
 |val=>exact RepN.pure _ _ p h
 |own=>exact p.elim
 |fre =>
  obtain⟨a,e,m,n,c⟩:=h;refine⟨a,e,m,ho a m,?_⟩;cases d with
  |lst S=>obtain⟨E,q,r⟩:=c;exact⟨E,q,zp.pure _ _ p r⟩
  |dk ks S=>obtain⟨E,q,l,g,r⟩:=c;exact⟨E,q,l,g,zp.pure _ _ p r⟩
  |_=>exact c.elim
 |new=>exact RepN.to (Same.refl H) (λa z=>⟨ho a z.2,z.2⟩) _ _ h
abbrev FT:=List D->(EV->Prop)->Prop
def spD(K:W.Frag)(n:Nat)(T:FT):Sp:=λvs H Q _=>∃S Y,S.length=n/\Reps K H [] S vs/\T S Y/\∀v r H',Same H H'->RV K H H' [] r v->su r->Y r->Q v H'
structure FD(P:Program)(w:World)(K:W.Frag)(mg:Str->Option Value)(base:Heap)(k:Nat)(x:Str)(ps:List Str)(T:FT):Prop where
 ex:∃f fd,FnOk P w K mg base CX0 k f fd ps (spD K ps.length T)/\uj K fd ps []/\W.keepIn K (.ref f)=true/\mg x=some (.ref f)
def T6(n:Nat)(T:FT)(t:TDs):TD:=λU Y=>t U λrs=>Nat.beq rs.length n=true/\T (rs.map EV.d) Y
section
variable{x:Str}{ps:List Str}{T:FT}{k:Nat}{e:Expr}{es:List Expr}{t:TDs}{p pos:Pos}
def N9:∀G H Q,ql X.K H_ (T6 ps.length T t) G H Q->Bv (spD X.K ps.length T) [] E0 (Dq X.K H_ t) G H Q:=λG H Q q=>by
 obtain⟨U,o,R,Y,j,l⟩:=q;refine⟨U,o,R,_,j,λvs rs H1 s1 g h1=>?_⟩;show spD X.K ps.length T (vs++[]) H1 Q E0;rw[zbT];refine⟨rs.map EV.d,Y,by rw[zLm];exact zeG h1.1,g.reps0,h1.2,λv r H2 s2 k pr h2=>?_⟩
 exact l v r H2 (s1.trans s2) (RV.start (k.lift pr λa e=>R.ofree (s1.free e)) s1) h2
def y8(F:FD X.prog X.w X.K X.mg X.base k x ps T)(hr:Room k X.A)(q:EA L X (e::es) t)(j:autoParam (Gl X x) zSr)(d:autoParam (D_ x) zSd)(l:autoParam (S_ X e es) zSr)(a:autoParam (B_ X es pos) zSr):ED L X (.Call (.Name x p) (e::es) [] pos) (T6 ps.length T t):=λH_=>by
 obtain⟨f,fd,ok,b,g,m⟩:=F.ex;exact impE (D7 ok hr j m g b .nil U2 (q H_) d l a) N9
def Cu(K:W.Frag)(H:Hp)(O:List Addr):List D->List V->Prop
 |[],vs=>vs=[]
 |d::S,vs=>∃v ws,vs=v::ws/\View K H O d v/\Cu K H O S ws
theorem RVs.views{K:W.Frag}{H0 H:Hp}{O:List Addr}:∀{rs:List EV}{vs:List V},RVs K H0 H O rs vs->Cu K H O (rs.map EV.d) vs
 |[],_,h=>h
 |r::rs,vs,h=>by
  obtain⟨v,ws,e,q,t⟩:=h;exact⟨v,ws,e,q.view,t.views⟩
def L9(K:W.Frag)(r:List V->Hp->VK->Prop)(s:FT):Prop :=
 ∀(H:Hp)(O:List Addr)(S:List D)(vs:List V)(Y:EV->Prop)(Q:VK),(∀a,H a=none->a∉O)->Cu K H O S vs->s S Y->(∀v r H',Same H H'->RV K H H' O r v->Y r->Q v H')->r vs H Q
def dCB(s:FT)(t:TDs):TD:=λU Y=>t U λrs=>s (rs.map EV.d) Y
def N8{r:List V->Hp->VK->Prop}{s:FT}(hl:L9 X.K r s):∀G H Q,ql X.K H_ (dCB s t) G H Q->tCB r (Dq X.K H_ t) G H Q:=λG H Q q=>by
 obtain⟨U,o,R,Y,g,k⟩:=q;refine⟨U,o,R,_,g,λvs rs H1 s1 d h1=>?_⟩;exact hl H1 _ _ vs Y Q (λa e=>R.ofree (s1.free e)) d.views h1 λv r H2 s2 j h2=>k v r H2 (s1.trans s2) (j.start s1) h2
def ut{id:String}{r:List V->Hp->VK->Prop}{s:FT}(u:ui X (.builtin id) r)(hl:L9 X.K r s)(k:X.mg x=none)(g:bootBuiltins x=some (.builtin id))(v:EA L X (e::es) t)(l:autoParam (Gl X x) zSr)(j:autoParam (x≠"__name__") zSd)(d:autoParam (D_ x) zSd)(q:autoParam (S_ X e es) zSr)(a:autoParam (B_ X es pos) zSr):ED L X (.Call (.Name x p) (e::es) [] pos) (dCB s t):=λH_ =>
 impE (fj u l k g (v H_) j d q a) (N8 hl)
def jn{T:String}{r:List V->Hp->VK->Prop}{s:FT}(u:ui X (.type T) r)(hl:L9 X.K r s)(k:X.mg x=none)(g:bootBuiltins x=some (.type T))(v:EA L X (e::es) t)(l:autoParam (Gl X x) zSr)(j:autoParam (x≠"__name__") zSd)(d:autoParam (D_ x) zSd)(q:autoParam (S_ X e es) zSr)(a:autoParam (B_ X es pos) zSr):ED L X (.Call (.Name x p) (e::es) [] pos) (dCB s t):=λH_ =>
 impE (c5 u l k g (v H_) j d q a) (N8 hl)
def sLen:FT:=λS Y=>match S with
 |[.lst l]=>Y (dv (.int l.length))
 |[.tup l]=>Y (dv (.int l.length))
 |[.scr l]=>Y (dv (.int l.length))
 |[.str z]=>z.length<=sizeLine/\Y (dv (.int z.length))
 |_=>False
def Kx:L9 X.K (λE H Q=>(∃p ys,E=[.ref p]/\(SqL X.K H p ys\/SqT X.K H p ys)/\Q (.int ys.length) H)\/∃z,E=[.str z]/\z.length<=sizeLine/\Q (.int z.length) H) sLen:=by
 intro H O S vs Y Q ho d h k;unfold sLen at h;split at h
 .obtain⟨v,ws,rfl,⟨a,E,rfl,q,r⟩,rfl⟩:=d;refine .inl ⟨a,E,rfl,.inl (SqL.of q),?_⟩;rw[r.length];exact k _ _ H (Same.refl H) aH h
 .obtain⟨v,ws,rfl,⟨a,E,rfl,q,r⟩,rfl⟩:=d;refine .inl ⟨a,E,rfl,.inr q.1,?_⟩;rw[r.length];exact k _ _ H (Same.refl H) aH h
 .obtain⟨v,ws,rfl,⟨a,rfl,q⟩,rfl⟩:=d;refine .inl ⟨a,_,rfl,.inl q.seq,?_⟩;rw[zLm];exact k _ _ H (Same.refl H) aH h
 .obtain⟨v,ws,rfl,e,rfl⟩:=d;cases (show v=_ from e);exact .inr ⟨_,rfl,h.1,k _ _ H (Same.refl H) aH h.2⟩
 exact h.elim
def w8(d:X.mg "len" = none)(k:EA L X (e::es) t)(g:autoParam (Gl X "len") zSr)(j:autoParam (S_ X e es) zSr)(a:autoParam (B_ X es pos) zSr):ED L X (.Call (.Name "len" p) (e::es) [] pos) (dCB sLen t) :=
 ut (rm.or Vd) Kx d zfM k g aB aB j a
end
noncomputable def EV.sto(r:EV):EV:=⟨match r.k with
 |.fre=>.own
 |.new=>.val
 | k=>k,r.d⟩
noncomputable def EV.ret(r:EV):EV:=⟨match r.k with
 |.own=>.fre
 | k=>k,r.d⟩
noncomputable def setS:DE->Nat->EV->DE
 |[],_,_=>[]
 |_::r,0,v=>some v::r
 |x::r,i+1,v=>x::setS r i v
theorem xx:∀(U:DE)(i:Nat)(v:EV),setS U i v=U.set i (some v)
 |[],_,_=>rfl
 |_::_,0,_=>rfl
 |x::r,i+1,v=>by rw[setS,xx r i v,List.set_cons_succ]
def Con1.grow{K:W.Frag}{H H':Hp}{O O':List Addr}{d:D}{a:Addr}(h:Con1 K H O d a)(s:∀ u,H a=some u->H' a=some u)(g:Grow O O' H H'):Con1 K H' O' d a:=by
 cases d with
 |lst S=>obtain⟨E,q,r⟩:=h;exact⟨E,s _ q,zp.grow g _ _ r⟩
 |dk ks S=>obtain⟨E,q,l,n,r⟩:=h;exact⟨E,s _ q,l,n,zp.grow g _ _ r⟩
 |_=>exact h.elim
def Con1.mtb{K:W.Frag}{H:Hp}{O:List Addr}{d:D}{a:Addr}(h:Con1 K H O d a):(∃u,H a=some u)/\(∀E,H a≠some (.tup E))/\∀e u,H a≠some (.frz e u):=by
 cases d with
 |lst S=>obtain⟨E,q,r⟩:=h;exact⟨⟨_,q⟩,(λE z=>by rw[q]at z;cases z),(λe u z=>by rw[q]at z;cases z)⟩
 |dk ks S=>obtain⟨E,q,r⟩:=h;exact⟨⟨_,q⟩,(λE z=>by rw[q]at z;cases z),(λe u z=>by rw[q]at z;cases z)⟩
 |_=>exact h.elim
def REnv.setV(R:REnv K H_ H G U o)(i:Nat)(h:Rep K H (o.map Prod.snd) d v):REnv K H_ H (G.set i (some v)) (setS U i (dv d)) o where
 same:=R.same
 fresh:=R.fresh
 trk:=R.trk
 mtb:=R.mtb
 nda:=R.nda
 len:=by rw[xx,zaY,zaY];exact R.len
 slots:=λj r e=>by
  rw[xx]at e;by_cases hj:j=i
  .subst hj;have hl:j<U.length:=by
    rcases zdF j U.length with z|z
    .exact z
    rw[zbM (by rw[zaY];exact z)]at e
    cases e
   rw[zaU hl]at e;cases e;exact⟨v,zaU (by rw[R.len];exact hl),.inl ⟨rfl,h⟩⟩
  rw[zaN (Ne.symm hj)]at e;obtain⟨w,a,q⟩:=R.slots j r e;exact⟨w,by rw[zaN (Ne.symm hj)];exact a,q⟩
def REnv.setO(R:REnv K H_ H G U o)(s:Same H H')(i:Nat)(v:H a=none)(c:Con1 K H' (a::o.map Prod.snd) d a) :
  REnv K H_ H' (G.set i (some (.ref a))) (setS U i (dO d)) ((i,a)::o)/\Grow (o.map Prod.snd) (((i,a)::o).map Prod.snd) H H':=by
 have g:Grow (o.map Prod.snd) (((i,a)::o).map Prod.snd) H H':=by
  refine⟨λb u h n=>⟨s b u h,λz=>?_⟩,λb E h=>s b _ h,λb D u h=>s b _ h⟩;rw[zaB]at z;rcases zam.mp z with z|z
  .exact zk h v z
  exact n z
 refine⟨?_,g⟩;have x:=R.to s;exact {
  same:=x.same
  fresh:=λp l=>by
   rcases zam.mp l with rfl|l
   .exact R.same.free v
   exact R.fresh p l
  trk:=λp l=>by
   rcases zam.mp l with rfl|l
   .exact c.mtb.1
   exact x.trk p l
  mtb:=λp l=>by
   rcases zam.mp l with rfl|l
   .exact c.mtb.2
   exact x.mtb p l
  nda:=by
   rw[zaB,zaQ];exact⟨λz=>R.ofree v z,R.nda⟩
  len:=by rw[xx,zaY,zaY];exact R.len
  slots:=λj r e=>by
   rw[xx]at e;by_cases hj:j=i
   .subst hj;have hl:j<U.length:=by
     rcases zdF j U.length with z|z
     .exact z
     rw[zbM (by rw[zaY];exact z)]at e
     cases e
    rw[zaU hl]at e;cases e;exact⟨_,zaU (by rw[R.len];exact hl),.inr ⟨rfl,a,rfl,zao ..,c⟩⟩
   rw[zaN (Ne.symm hj)]at e;obtain⟨w,y,q⟩:=R.slots j r e;refine⟨w,by rw[zaN (Ne.symm hj)];exact y,?_⟩
   rcases q with⟨k,q⟩|⟨k,a',e1,m,B⟩
   .exact .inl ⟨k,RepN.grow g _ _ q⟩
   exact .inr ⟨k,a',e1,zal _ m,B.grow (λu q=>s _ _ q) g⟩}
def REnv.put(R:REnv K H_ H G U o)(s:Same H H')(i:Nat)(h:RV K H H' (o.map Prod.snd) r v)(e:r.k≠.own) :
  ∃o',REnv K H_ H' (G.set i (some v)) (setS U i r.sto) o'/\Grow (o.map Prod.snd) (o'.map Prod.snd) H H':=by
 obtain⟨k,d⟩:=r;cases k with
 |val=>exact⟨_,(R.to s).setV i h,Grow.same s⟩
 |own=>exact absurd rfl e
 |fre =>
  obtain⟨a,rfl,m,n,c⟩:=h;exact⟨_,R.setO s i m c⟩
 |new=>exact⟨_,(R.to s).setV i (RepN.rep (λa z=>z.1) _ _ h),Grow.same s⟩
theorem X3:∀{o:List (Nat×Addr)},(o.map Prod.snd).Nodup->∀{p q:Nat×Addr},p∈o->q∈o->p.2=q.2->p=q
 |[],_,_,_,h,_,_=>nomatch h
 |x::o,nd,p,q,hp,hq,e=>by
  rw[zaB,zaQ]at nd;rcases zam.mp hp with h1|hp
  .rcases zam.mp hq with h2|hq
   .rw[h1,h2]
   exact absurd (zah.mpr ⟨q,hq,by rw[<- e,h1]⟩) nd.1
  rcases zam.mp hq with h2|hq
  .exact absurd (zah.mpr ⟨p,hp,by rw[e,h2]⟩) nd.1
  exact X3 nd.2 hp hq e
def REnv.chg(R:REnv K H_ H G U o){i:Nat}{a:Addr}{d d':D}{ho:HO}(O:U[i]?=some (some (dO d)))(I:G[i]?=some (some (.ref a)))(x:(i,a)∈o)(y:(∀ E,ho≠.tup E)/\∀ l u,ho≠.frz l u)(c:(∀ S E,Reps K H (o.map Prod.snd) S E->Reps K (upd H a ho) (o.map Prod.snd) S E)->Con1 K (upd H a ho) (o.map Prod.snd) d' a) :
  REnv K H_ (upd H a ho) G (setS U i (dO d')) o/\Grow (o.map Prod.snd) (o.map Prod.snd) H (upd H a ho):=by
 have W:a∈o.map Prod.snd:=zah.mpr ⟨_,x,rfl⟩;obtain⟨V,Q⟩:=R.mtb _ x;have g:Grow (o.map Prod.snd) (o.map Prod.snd) H (upd H a ho) :=
  ⟨λb u h n=>⟨by rw[y0 (show b≠a from λz=>n (by rw[z];exact W))];exact h,n⟩,λb E h=>by rw[y0 (show b≠a from λz=>V E (by rw[<- z];exact h))];exact h,λb l u h=>by rw[y0 (show b≠a from λz=>Q l u (by rw[<- z];exact h))];exact h⟩
 refine⟨?_,g⟩;exact {
  same:=λb u h=>by
   have:b≠a:=λz=>by
    have:=R.fresh _ x;rw[<- z,h]at this;cases this
   rw[y0 this];exact R.same b u h
  fresh:=R.fresh
  trk:=λp J=>by
   by_cases e:p.2=a
   .exact⟨ho,by rw[e];exact zu⟩
   rw[y0 e];exact R.trk p J
  mtb:=λp J=>by
   by_cases e:p.2=a
   .rw[e,zu];exact⟨λE z=>y.1 E (zaP z),λl u z=>y.2 l u (zaP z)⟩
   rw[y0 e];exact R.mtb p J
  nda:=R.nda
  len:=by rw[xx,zaY];exact R.len
  slots:=λj r e=>by
   rw[xx]at e;by_cases hj:j=i
   .subst hj;have hl:j<U.length:=(zag.mp O).1;rw[zaU hl]at e;cases e;obtain⟨v,N,q⟩:=R.slots j _ O;rcases q with⟨k,_⟩|⟨_,a',e1,B,_⟩
    .cases k
    have M:a'=a:=by
     rw[I]at N;cases N;cases e1;rfl
    subst M;exact⟨v,N,.inr ⟨rfl,a',e1,x,c λS E q=>zp.grow g _ _ q⟩⟩
   rw[zaN (Ne.symm hj)]at e;obtain⟨w,Z,q⟩:=R.slots j r e;refine⟨w,Z,?_⟩;rcases q with⟨k,q⟩|⟨k,a',e1,B,c'⟩
   .exact .inl ⟨k,RepN.grow g _ _ q⟩
   refine .inr ⟨k,a',e1,B,c'.grow (λu q=>?_) g⟩;have L:a'≠a:=λz=>by
    exact hj (zbO Prod.fst (X3 R.nda B x z))
   rw[y0 L];exact q}
section
variable{st:Stmt}{rest:List Stmt}{t u:TDS}{e:Expr}{te:TD}{tc:TDb}{pos:Pos}
def sNil:TDS:=λU Z=>Z.nx U
def sSeq(t u:TDS):TDS:=λU Z=>t U {Z with nx:=λρ'=>u ρ' Z}
def x8:SDs L X [] sNil:=λH_=>Uo Yn λD G H h=>by
 obtain⟨U,o,R,Z,d,a,_⟩:=h;exact a U G H o Grow.refl R d
def ze(h1:SD L X st t)(h2:SDs L X rest u):SDs L X (st::rest) (sSeq t u):=λH_=>Uo (vj (h1 H_) (h2 H_)) λD G H h=>by
 obtain⟨U,o,R,Z,y,x,r,l,k⟩:=h;refine⟨U,o,R,_,y,λρ' v H' o' g z q=>?_,r,l,k⟩;exact⟨ρ',o',z,Z,q,λd a H2 j g2 R2 e=>x d a H2 j (g.trans g2) R2 e,λd a H2 j g2 R2 e=>r d a H2 j (g.trans g2) R2 e,λd a H2 j g2 R2 e=>l d a H2 j (g.trans g2) R2 e,k⟩
def zm(h1:SD L X st t):SDs L X [st] t:=λH_=>qy (h1 H_)
def Vx:SD L X (.Continue pos) (λU Z=>Z.ct U):=λH_=>impS U1 λD G H h=>by
 obtain⟨U,o,R,Z,d,_,_,a,_⟩:=h;exact a U G H o Grow.refl R d
def qe:SD L X st (λ_ _=>False):=λH_=>impS Ke λD G H h=>by
 obtain⟨_,_,_,_,a,_⟩:=h;exact a.elim
def sRet(te:TD):TDS:=λU Z=>te U λr=>Z.rt r.ret
theorem RV.ret{K:W.Frag}{H_ H H':Hp}{G:St}{U:DE}{o:List (Nat×Addr)}(R:REnv K H_ H G U o){r:EV}{v:V}(h:RV K H H' (o.map Prod.snd) r v):RV K H_ H' [] r.ret v:=by
 obtain⟨k,d⟩:=r;cases k with
 |val=>exact RepN.sub (O':=[]) (λ_ z=>absurd z aE) _ _ h
 |own =>
  obtain⟨a,e,m,c⟩:=h;obtain⟨p,j,ep⟩:=zah.mp m;subst ep;exact⟨p.2,e,R.fresh p j,by simp,c.sub λb g=>by
   have:b=p.2:=by simpa using g
   rw[this];exact m⟩
 |fre =>
  obtain⟨a,e,m,n,c⟩:=h;exact⟨a,e,R.same.free m,by simp,c.sub λb g=>by
   have:b=a:=by simpa using g
   rw[this];exact zao ..⟩
 |new=>exact RepN.to (Same.refl H') (λa z=>⟨by simp,R.same.free z.2⟩) _ _ h
def yg(g:ED L X e te):SD L X (.Return (some e) pos) (sRet te):=λH_=>impS (Zm (g H_)) λD G H h=>by
 obtain⟨U,o,R,Z,j,q,l,k,d⟩:=h;refine⟨U,o,R,_,j,λv r H1 s1 a h1=>?_⟩;exact d v r.ret H1 (R.same.trans s1) (RV.ret R a) h1
def sIf(tc:TDb)(t u:TDS):TDS:=λU Z=>tc U λc=>(c=true->t U Z)/\(c=false->u U Z)
def wl{c:Expr}{a b:List Stmt}(B:ET L X c tc)(J:SDs L X a t)(I:SDs L X b u):SD L X (.If c a b pos) (sIf tc t u):=λH_=>impS (Kf (B H_) (J H_) (I H_)) λD G H h=>by
 obtain⟨U,o,R,Z,M,y,x,r,q⟩:=h;refine⟨U,o,R,_,M,λc H1 s1 h1=>?_⟩;have g:Grow (o.map Prod.snd) (o.map Prod.snd) H H1:=Grow.same s1;have l:∀{v:TDS},v U Z->Qi X.K H_.1 v D G H1:=λz=>⟨U,o,R.to s1,Z,z,λe d H2 k g2 R2 j=>y e d H2 k (g.trans g2) R2 j,λe d H2 k g2 R2 j=>x e d H2 k (g.trans g2) R2 j,λe d H2 k g2 R2 j=>r e d H2 k (g.trans g2) R2 j,q⟩;cases c with
 |true=>exact iteT (l (h1.1 rfl))
 |false=>exact iteF (l (h1.2 rfl))
def sCut(t:TDS):TDS:=λU Z=>∃J:DE->Prop,t U {Z with nx:=J}/\∀ρ',J ρ'->Z.nx ρ'
def xj(h:SD L X st t):SD L X st (sCut t):=λH_=>impS (h H_) λD G H h=>by
 obtain⟨U,o,R,Z,⟨J,r,u⟩,q,l,k,j⟩:=h;exact⟨U,o,R,_,r,λa d H2 g g2 R2 e=>q a d H2 g g2 R2 (u a e),l,k,j⟩
def E7(te:TD):TDS:=λU Z=>te U λ_=>Z.nx U
def Yk(g:ED L X e te)(d:autoParam (swapsWith e none pos.line X.env=pure false) zSr):SD L X (.Expr e pos) (E7 te):=λH_=>impS (sv (g H_) d) λD G H h=>by
 obtain⟨U,o,R,Z,j,a,u,q,l⟩:=h;exact⟨U,o,R,_,j,λv r H1 s1 k h1=>a U G H1 o (Grow.same s1) (R.to s1) h1⟩
def sSet(i:Nat)(te:TD):TDS:=λU Z=>te U λr=>(nw r)/\Z.nx (setS U i r.sto)
def vq{r:EV}(h:match r.k with|.own=>False|_=>True):r.k≠.own:=by
 obtain⟨k,d⟩:=r;cases k with
 |own=>exact h.elim
 |val=>exact λz=>nomatch z
 |fre=>exact λz=>nomatch z
 |new=>exact λz=>nomatch z
def zx(i:Nat){x:Str}(y:X.N.Nodup)(q:ED L X e te)(hi:autoParam (X.N[i]?=some x) zSr)(j:autoParam (Loc X.env.scope x) zSo)(k:autoParam (swapsWith e (some (.Name x pos')) pos.line X.env=pure false) zSr)(l:autoParam (X.fn x=true\/X.env.scope.names.lookup x=some .local) zSo):SD L X (.Assign [.Name x pos'] e pos) (sSet i te):=λH_=>impS (dw y hi j (q H_) k l) λD G H h=>by
 obtain⟨U,o,R,Z,u,d,J,I,B⟩:=h;refine⟨U,o,R,_,u,λv r H1 s1 a h1=>?_⟩;obtain⟨o',z,g⟩:=R.put s1 i a (vq h1.1);exact d _ _ H1 o' g z h1.2
abbrev TGD:=D->DE->(DE->Prop)->Prop
def gh(K:W.Frag)(g2:TG)(g:TGD):Prop:=∀(H_ H:Hp)(G:St)(U:DE)(o:List (Nat×Addr))(d:D)(v:V)(M:DE->Prop)(Q:St->Hp->Prop),REnv K H_ H G U o->Rep K H (o.map Prod.snd) d v->g d U M ->
 (∀ρ' σ',REnv K H_ H σ' ρ' o->M ρ'->Q σ' H)->g2 v G H Q
def gN(i:Nat):TGD:=λd U M=>M (setS U i (dv d))
def yj{K:W.Frag}(i:Nat):gh K (se i) (gN i):=λH_ H G U o d v M Q R h a k=>k _ _ (R.setV i h) a
def gT2(i j:Nat):TGD:=λd U M=>match d with
 |.tup [a,b]=>M (setS (setS U i (dv a)) j (dv b))
 |_=>False
def vg{K:W.Frag}(i j:Nat):gh K (gTup K 2 (k8 (se i) (k8 (se j) gNil))) (gT2 i j):=λH_ H G U o d v M Q R h e k=>by
 unfold gT2 at e;split at e
 .rename_i a b;obtain⟨p,E,rfl,q,r⟩:=h;obtain⟨l,x,rfl,h1,g,r2,rfl,h2,rfl⟩:=r;refine⟨p,_,rfl,q.1,rfl,l,_,rfl,g,_,rfl,rfl,?_⟩;have u:=R.setV i h1;have R2:=u.setV j h2;exact k _ _ R2 e
 exact e.elim
def sUn(te:TD)(g:TGD):TDS:=λU Z=>te U λr=>(nw r)/\g r.d U Z.nx
def E2{tg:Expr}{g2:TG}(y:ED L X e te)(x:PG X tg g2)(hl:gh X.K g2 g)(u:autoParam (swapsWithSole [tg] e pos.line X.env=pure false) zSr)(l:autoParam (swappedStores [tg] e X.env=pure none) zSr)(h1:autoParam ((assignEach [tg] X.env).map (·.2)=[assign tg X.env]) zSr):SD L X (.Assign [tg] e pos) (sUn te g):=λH_=>impS (W6 (y H_) x u l h1) λD G H h=>by
 obtain⟨U,o,R,Z,z,k,M,J,I⟩:=h;refine⟨U,o,R,_,z,λv r H1 s1 j h1=>?_⟩;exact hl H_.1 H1 G U o r.d v _ _ (R.to s1) (j.solid (vq h1.1)) h1.2 λρ' a B q=>k ρ' a H1 o (Grow.same s1) B q
def sWh(tc:TDb)(tb:TDS):TDS:=λU Z=>∃(P:DE->Prop)(μ:DE->Nat),P U/\∀U,P U->tc U λc =>
 (c=true->tb U {Z with nx:=λρ'=>P ρ'/\μ ρ'<μ U,ct:=λρ'=>P ρ'/\μ ρ'<μ U,bk:=Z.nx})/\(c=false->Z.nx U)
def Tv{c:Expr}(I:ET L X c tc)(J:SDs L X body tb)(B:PassesOwn X.mo X.A X.env X.xe:=by exact PassesOwn.never):SD L X (.While c body [] pos) (sWh tc tb):=λH_=>impS (Sn B (I H_) (J H_)) λD G H h=>by
 obtain⟨U,o,R,Z,⟨P,u,M,j⟩,x,Q,N,z⟩:=h;refine⟨λm a H'=>∃ρ' o',Grow (o.map Prod.snd) (o'.map Prod.snd) H H'/\REnv X.K H_ H' a ρ' o'/\P ρ'/\u ρ'=m,⟨_,U,o,Grow.refl,R,M,rfl⟩,?_⟩;rintro m r H1 ⟨d,k,g1,v,y,rfl⟩;refine⟨d,k,v,_,j d y,λc H2 s2 h2=>?_⟩;have g2:=g1.trans (Grow.same (O:=k.map Prod.snd) s2);cases c with
 |true =>
  refine iteT ⟨λa H'=>∃ρ' o',Grow (o.map Prod.snd) (o'.map Prod.snd) H H'/\REnv X.K H_ H' a ρ' o'/\P ρ'/\u ρ'<u d,λa H' ⟨ρ',o',g,e,p,l⟩=>⟨_,l,ρ',o',g,e,p,rfl⟩,?_⟩;exact⟨d,k,v.to s2,_,h2.1 rfl,λρ' a H' o' g e q=>⟨ρ',o',g2.trans g,e,q.1,q.2⟩,λρ' a H' o' g e q=>x ρ' a H' o' (g2.trans g) e q,λρ' a H' o' g e q=>⟨ρ',o',g2.trans g,e,q.1,q.2⟩,z⟩
 |false=>exact iteF (x d r H2 k g2 (v.to s2) (h2.2 rfl))
structure ItD(K:W.Frag)(J:It)(S:List D)(P:Hp->List Addr->Prop):Prop where
 go:∀(H:Hp)(O:List Addr)(i:Nat)(d:D),P H O->S[i]?=some d->J.go i H/\∀x H',J.yld i H x H'->Same H H'/\Rep K H' O d x
 stop:∀(H:Hp)(O:List Addr),P H O->J.stop S.length H
 keep:∀(O O':List Addr)(H H':Hp),P H O->Grow O O' H H'->P H' O'
abbrev TID:=DE->(List D->Prop)->Prop
def J2(K:W.Frag)(H_:Hp)(t:TID):TI:=λG H R=>∃U o,REnv K H_ H G U o/\∃Y,t U Y/\∀J S P H',Same H H'->ItD K J S P->P H' (o.map Prod.snd)->Y S->R J H'
def EI(G:Hp->Prop)(X:Cx)(tg iter:Expr)(t:TID):Prop:=∀H_:{H:Hp // G H},PI X tg iter (J2 X.K H_.1 t)
def sFor(ti:TID)(g:TGD)(tb:TDS):TDS:=λU Z=>ti U λS=>∃P:Nat->DE->Prop,P 0 U/\(∀i d U,S[i]?=some d->P i U->g d U λρ'=>tb ρ' {Z with nx:=P (i+1),ct:=P (i+1),bk:=Z.nx})/\∀U,P S.length U->Z.nx U
def wm{tg iter:Expr}{g2:TG}(hi:EI L X tg iter ti)(hg:PG X tg g2)(hl:gh X.K g2 g)(hb:SDs L X body tb)(hc:autoParam (X.calm=true) zSr)(hp:PassesOwn X.mo X.A X.env X.xe:=by exact PassesOwn.never)(hs:autoParam (∀ x,foldedSetIterable iter X.env x=pure x) zSi):SD L X (.For tg iter body [] pos) (sFor ti g tb):=λH_=>impS (z0d hp hc (hi H_) hg (hb H_) hs) λD G H h=>by
 obtain⟨U,o,R,Z,hZ,k1,k2,k3,k4⟩:=h;refine⟨U,o,R,_,hZ,λJ S PJ H1 s1 I hP Zh=>?_⟩;obtain⟨P,p0,q,V⟩:=Zh;refine⟨λi m d H'=>m=S.length-i/\i<=S.length/\∃ρ' o',Grow (o.map Prod.snd) (o'.map Prod.snd) H1 H'/\REnv X.K H_ H' d ρ' o'/\P i ρ',⟨_,rfl,zbW _,U,o,Grow.refl,R.to s1,p0⟩,?_⟩;rintro i m d H' ⟨rfl,a4,ρ',o',g',R',p'⟩;have v:=I.keep _ _ _ _ hP g';have gg:Grow (o.map Prod.snd) (o'.map Prod.snd) H H':=(Grow.same s1).trans g';by_cases hlt:i<S.length
 .have ed:S[i]?=some S[i]:=by simp[hlt]
  obtain⟨j1,j2⟩:=I.go H' _ i _ v ed;refine .inr ⟨j1,λl H2=>∃j N,Grow (o.map Prod.snd) (N.map Prod.snd) H1 H2/\REnv X.K H_ H2 l j N/\P (i+1) j,λl H2 ⟨j,N,g2,R2,p2⟩=>⟨_,(by lia:S.length-(i+1)<S.length-i),rfl,hlt,j,N,g2,R2,p2⟩,λx H2 y=>?_⟩
  obtain⟨s2,rp⟩:=j2 x H2 y;refine hl H_.1 H2 d ρ' o' _ x _ _ (R'.to s2) rp (q i _ ρ' ed p') λO a0 R3 q3=>?_;have B:Grow (o.map Prod.snd) (o'.map Prod.snd) H1 H2:=g'.trans (Grow.same s2);have Q:Grow (o.map Prod.snd) (o'.map Prod.snd) H H2:=gg.trans (Grow.same s2);exact⟨O,o',R3,_,q3,λa k W u z M r=>⟨a,u,B.trans z,M,r⟩,λa k W u z M r=>k1 a k W u (Q.trans z) M r,λa k W u z M r=>⟨a,u,B.trans z,M,r⟩,k4⟩
 have e:i=S.length:=by lia
 subst e;exact .inl ⟨I.stop H' _ v,k1 ρ' d H' o' gg R' (V ρ' p')⟩
end
section
variable{tg e:Expr}{te:TD}{t:TDs}{pos:Pos}
def impI{t t':TI}(h:PI X tg iter t)(i:∀ G H R,t' G H R->t G H R):PI X tg iter t':=λpn s G H R I q=>h pn s G H R I (i G H R q)
def PV(X:Cx)(tg:Expr)(r:V->Hp->(It->Hp->Prop)->Prop):Prop :=
 ∀(pn:List (Addr×Obj))(s:Shared)(G:St)(H:Hp)(x:V)(v:Value)(R:It->Hp->Prop),Inv X pn G H s->RelV x v->r x H R->wpAny X.mo X.A (pyIter v) (PIE X pn G tg R) X.xe s
def z0i{l:Expr}{tl:TE}{r:V->Hp->(It->Hp->Prop)->Prop}(hl:PE X l tl)(e:PV X tg r):PI X tg l (λG H R=>tl G H λx H1=>r x H1 R):=λpn s G H R I h =>
 thn (hl pn s G H _ I h) λv s1 ⟨x,H1,g,a,d⟩=>e pn s1 G H1 x v R g a d
def Em:PV X tg (λx H R=>∃a,x=.ref a/\(∃E,SqL X.K H a E)/\R (Itl X.K a) H):=by
 intro pn s1 G H1 x v R d g j;obtain⟨a,e,⟨E,k⟩,q⟩:=j;subst e;cases g;obtain⟨its,r,p,u⟩:=d.list k;refine zcP p.isList ?_;refine⟨s1.z,[s1.z],_,_,H1,rfl,d.kept (t':=s1.toks) λb o e=>zac _ e,Pg a _,⟨_,zad _ rfl,rfl,rfl⟩,λb l=>?_,q⟩;have e:b=s1.z:=by simpa using l
 subst e;exact d.fpOk (zaj _) (d.hok.fresh (zaj _))
def G5:PV X tg (λx H R=>∃a,x=.ref a/\(∃E,SqT X.K H a E)/\R (Itt X.K a) H):=by
 intro pn s1 G H1 x v R d g j;obtain⟨a,e,⟨E,k⟩,q⟩:=j;subst e;cases g;obtain⟨its,r,p,u⟩:=d.tuple k;refine zdN (show s1.heap.IsTuple a its.toArray from p) ?_;refine⟨s1.z,[s1.z],_,_,H1,rfl,d.kept (t':=s1.toks) λb o e=>zac _ e,Rz a _,⟨_,zad _ rfl,rfl,rfl⟩,λb l=>?_,q⟩;have e:b=s1.z:=by simpa using l
 subst e;exact d.fpOk (zaj _) (d.hok.fresh (zaj _))
def Az:PV X tg (λx H R=>∃z,x=.str z/\R (Itv z.cps.size (Cv z)) H):=by
 intro pn s1 G H1 x v R g j k;obtain⟨z,e,q⟩:=k;subst e;obtain⟨t,rfl⟩:=j;have a:∀(T:String),(∀A:Around,A.handled=none->Walks X.prog X.w A s1.z [s1.z] [s1.z] z.cps.size (SignAt z) (λi h=>h.IsStrIter s1.z T z t i)) ->
   (∀(A:Around)(i:Nat)(s:Shared)(Q:Value->Shared->Prop)(xs:Value->Shared->Prop),s.heap.IsStrIter s1.z T z t i->Q (.ref s1.z) s->wpAny X.mo A (pyIter (.ref s1.z)) Q xs s) ->
   ["enumerate","zip","dict_itemiterator","dict_reverseitemiterator","odict_iterator","itertools.zip_longest","itertools.pairwise"].contains T=false ->
   PIE X pn G tg R (.ref s1.z) {s1 with heap:=s1.heap.push {cls:=.type T,data:=.fields #[.str z t,.int 0 0]}}:=λT W l hT=>by
  have y:Inv X pn G H1 {s1 with heap:=s1.heap.push {cls:=.type T,data:=.fields #[.str z t,.int 0 0]}}:=g.kept (t':=s1.toks) λb u e=>zac _ e;refine⟨s1.z,[s1.z],_,_,H1,rfl,y,Lk W l hT,⟨_,zad _ rfl,rfl,rfl⟩,λb r=>?_,q⟩;have e:b=s1.z:=by simpa using r
  subst e;exact g.fpOk (zaj _) g.fresh
 cases ha:z.cps.all (·<128)
 .exact wpAny_pyIter_wide ha (a "str_iterator" (λA d=>Walks.strWide d _ z t) (λA i s Q xs st q=>wpAny_pyIter_striter_wide st q) aB)
 exact wpAny_pyIter_ascii ha (a "str_ascii_iterator" (λA d=>Walks.strAscii d _ z t) (λA i s Q xs st q=>wpAny_pyIter_striter_ascii st q) aB)
noncomputable def Gu:D->Option (List D)
 |.lst S=>some S
 |.tup S=>some S
 |.scr ns=>some (ns.map D.int)
 |.str z=>some (z.cps.toList.map λc=>D.str ⟨#[c]⟩)
 |_=>none
def iSeq(te:TD):TID:=λU Y=>te U λr=>(nw r)/\match Gu r.d with
 |some S=>Y S
 |none=>False
def z1z{K:W.Frag}{a:Addr}{S:List D}:ItD K (Itl K a) S (λH O=>∃E,H a=some (.lst E)/\a∉O/\Reps K H O S E) where
 go:=λH O i d ⟨E,q,n,r⟩ e=>by
  obtain⟨v,j,k⟩:=r.get e;refine⟨⟨E,v,SqL.of q,j⟩,λx H' y=>?_⟩;obtain⟨e1,y⟩:=y;subst e1;have:=y E (SqL.of q);rw[j]at this;cases this;exact⟨Same.refl _,k⟩
 stop:=λH O ⟨E,q,n,r⟩=>⟨E,SqL.of q,by rw[r.length];exact zaj _⟩
 keep:=λO O' H H' ⟨E,q,n,r⟩ g=>⟨E,(g.keep _ _ q n).1,(g.keep _ _ q n).2,zp.grow g _ _ r⟩
def Gv{K:W.Frag}{a:Addr}{S:List D}:ItD K (Itt K a) S (λH O=>∃E,SqT K H a E/\Reps K H O S E) where
 go:=λH O i d ⟨E,q,r⟩ e=>by
  obtain⟨v,j,k⟩:=r.get e;refine⟨⟨E,v,q,j⟩,λx H' y=>?_⟩;obtain⟨e1,y⟩:=y;subst e1;have:=y E q;rw[j]at this;cases this;exact⟨Same.refl _,k⟩
 stop:=λH O ⟨E,q,r⟩=>⟨E,q,by rw[r.length];exact zaj _⟩
 keep:=λO O' H H' ⟨E,q,r⟩ g=>⟨E,Pt g.tups g.frzs q,zp.grow g _ _ r⟩
def z1x{K:W.Frag}{a:Addr}{ns:List Int}:ItD K (Itl K a) (ns.map D.int) (λH _=>Scr K H a ns) where
 go:=λH O i d q e=>by
  rw[zai]at e;cases en:ns[i]? with
  |none=>rw[en]at e;cases e
  |some n =>
   rw[en]at e;cases e;have j:(ns.map V.int)[i]?=some (.int n):=by rw[zai,en];rfl
   refine⟨⟨_,_,q.seq,j⟩,λx H' y=>?_⟩;obtain⟨e1,y⟩:=y;subst e1;have:=y _ q.seq;rw[j]at this;cases this;exact⟨Same.refl _,rfl⟩
 stop:=λH O q=>⟨_,q.seq,by rw[zLm,zLm];exact zaj _⟩
 keep:=λO O' H H' q g=>Tw g.frzs q
def z1w{K:W.Frag}{z:Str}:ItD K (Itv z.cps.size (Cv z)) (z.cps.toList.map λc=>D.str ⟨#[c]⟩) (λ_ _=>True) where
 go:=λH O i d _ e=>by
  rw[zai]at e;cases en:z.cps.toList[i]? with
  |none=>rw[en]at e;cases e
  |some n =>
   rw[en]at e;cases e;have hl:=(zag.mp en).1;refine⟨(show i<z.cps.size by simpa using hl),λx H' y=>?_⟩
   obtain⟨e1,c,a,ex⟩:=y;subst e1 ex;have:z.cps.toList[i]?=some c:=by rw[zeF];exact a
   rw[en]at this;cases this;exact⟨Same.refl _,rfl⟩
 stop:=λH O _=>by show _=_;simp
 keep:=λ_ _ _ _ _ _=>trivial
noncomputable def rngD(lo:Int)(n:Nat):List D:=(List.range n).map λ(i:Nat)=>D.int (lo+(i:Int))
def Gw{K:W.Frag}{lo:Int}{n:Nat}:ItD K (Itr lo n) (rngD lo n) (λ_ _=>True) where
 go:=λH O i d _ e=>by
  unfold rngD at e;rw[zai]at e;cases en:(List.range n)[i]? with
  |none=>rw[en]at e;cases e
  |some m =>
   rw[en]at e;cases e;have hl:=(zag.mp en).1;rw[zcW]at hl;have:m=i:=by
    rw[List.getElem?_range hl]at en;exact(zaP en).symm
   subst this;refine⟨hl,λx H' y=>?_⟩;obtain⟨e1,ex⟩:=y;subst e1 ex;exact⟨Same.refl _,rfl⟩
 stop:=λH O _=>by show n<=_;unfold rngD;simp
 keep:=λ_ _ _ _ _ _=>trivial
def PV.or{r d:V->Hp->(It->Hp->Prop)->Prop}(h:PV X tg r)(h':PV X tg d):PV X tg (λx H R=>r x H R\/d x H R):=λpn s G H x v R I a q=>q.elim (h pn s G H x v R I a) (h' pn s G H x v R I a)
def xc(u:ED L X e te):EI L X tg e (iSeq te):=λH_=>impI (z0i (u H_) (Em.or (G5.or Az))) λG H R q=>by
 obtain⟨U,o,x,Y,j,k⟩:=q;refine⟨U,o,x,_,j,λv r H1 s1 l h1=>?_⟩;obtain⟨h0,h1⟩:=h1;have g:=l.solid (vq h0);obtain⟨y,d⟩:=r;cases d with
 |lst S =>
  obtain⟨a,E,rfl,q,n,r⟩:=g;exact .inl ⟨a,rfl,⟨E,SqL.of q⟩,k _ _ _ H1 s1 z1z ⟨E,q,n,r⟩ h1⟩
 |tup S =>
  obtain⟨a,E,rfl,q,r⟩:=g;exact .inr (.inl ⟨a,rfl,⟨E,q.1⟩,k _ _ _ H1 s1 Gv ⟨E,q.1,r⟩ h1⟩)
 |scr ns =>
  obtain⟨a,rfl,q⟩:=g;exact .inl ⟨a,rfl,⟨_,q.seq⟩,k _ _ _ H1 s1 z1x q h1⟩
 |str z =>
  cases (show v=_ from g)
  exact .inr (.inr ⟨z,rfl,k _ _ _ H1 s1 z1w trivial h1⟩)
 |_=>exact h1.elim
def iR1(t:TDs):TID:=λU Y=>t U λrs=>match rs with
 |[⟨_,.int j⟩]=>-(2 ^ 62)<=j/\j<2 ^ 62/\Y (rngD 0 j.toNat)
 |_=>False
def iR2(t:TDs):TID:=λU Y=>t U λrs=>match rs with
 |[⟨_,.int i⟩,⟨_,.int j⟩]=>(-(2 ^ 62)<=i/\i<2 ^ 62/\-(2 ^ 62)<=j/\j<2 ^ 62)/\Y (rngD i (j-i).toNat)
 |_=>False
def xk{a:Expr}(r:X.mg "range" = none)(x:EA L X [a] t)(u:autoParam (Gl X "range") zSr)(l:autoParam (starEach [a] X.env=[(false,eval a X.env)]) zSr):EI L X tg (.Call (.Name "range" p) [a] [] pos) (iR1 t):=λH_=>impI (Oh u r (x H_) l) λG H R q=>by
 obtain⟨U,o,y,Y,e,k⟩:=q;refine⟨U,o,y,_,e,λvs rs H1 s1 d h1=>?_⟩;split at h1
 .rename_i z j;obtain⟨v,ws,rfl,g,rfl⟩:=d;cases (show v=_ from g.view);exact⟨j,rfl,h1.1,h1.2.1,k _ _ _ H1 s1 Gw trivial h1.2.2⟩
 exact h1.elim
def V4{a b:Expr}(B:X.mg "range" = none)(I:EA L X [a,b] t)(D:autoParam (Gl X "range") zSr)(z:autoParam (starEach [a,b] X.env=[(false,eval a X.env),(false,eval b X.env)]) zSr)(l:autoParam (starEach [b] X.env=[(false,eval b X.env)]) zSr):EI L X tg (.Call (.Name "range" p) [a,b] [] pos) (iR2 t):=λH_=>impI (Og D B (I H_) z l) λG H R q=>by
 obtain⟨U,o,J,Y,g,k⟩:=q;refine⟨U,o,J,_,g,λvs rs H1 s1 d h1=>?_⟩;split at h1
 .rename_i M i y j;obtain⟨v,ws,rfl,x,u,r,rfl,e,rfl⟩:=d;cases (show v=_ from x.view);cases (show u=_ from e.view);exact⟨i,j,rfl,h1.1,k _ _ _ H1 s1 Gw trivial h1.2⟩
 exact h1.elim
end
section
variable{scope:Scope}{T F:List Str}{js:List Nat}{tg iter elt:Expr}{ifs:List Expr}{pos:Pos}{ti:TID}{g2:TG}{g:TGD}{tc:TDb}{te:TD}
noncomputable def ρ0(n:Nat)(js:List Nat)(U:DE):DE:=List.replicate n none++js.map λj=>slot U j
noncomputable def ixO(n:Nat)(js:List Nat)(j:Nat):Nat:=if j∈js then n+js.idxOf j else n+js.length+1+j
theorem Yg:∀{U:DE}{i:Nat}{r:EV},slot U i=some r ↔ U[i]?=some (some r)
 |[],_,_=>by simp[slot]
 |x::_,0,_=>by simp[slot]
 |_::l,i+1,r=>by rw[slot,zfB];exact Yg (U:=l)
def Q5{K:W.Frag}{H_ H H':Hp}{G:St}{U:DE}{o:List (Nat×Addr)}{n:Nat}{js:List Nat}{D:Addr}{ys:List V}(R:REnv K H_ H G U o)(O:js.Nodup)(I:H D=none)(s:Same H H')(x:H' D=some (.lst ys))(M:List Str)(hT:M.length=n) :
  REnv K H_ H' (st0 M js G) (ρ0 n js U) ((n+js.length,D)::o.map λp=>(ixO n js p.1,p.2)):=by
 have L:((n+js.length,D)::o.map λp=>(ixO n js p.1,p.2)).map Prod.snd=D::o.map Prod.snd:=by
  rw[zaB,zaV];rfl
 have g:Grow (o.map Prod.snd) (D::o.map Prod.snd) H H':=⟨λb u h Q=>⟨s b u h,λz=>(zam.mp z).elim (λe=>zk h I e) Q⟩,λb E h=>s b _ h,λb N u h=>s b _ h⟩;have J:=R.to s;exact {
  same:=J.same
  fresh:=λp d=>by
   rcases zam.mp d with rfl|d
   .exact R.same.free I
   obtain⟨q,y,rfl⟩:=zah.mp d;exact R.fresh q y
  trk:=λp d=>by
   rcases zam.mp d with rfl|d
   .exact⟨_,x⟩
   obtain⟨q,y,rfl⟩:=zah.mp d;exact J.trk q y
  mtb:=λp d=>by
   rcases zam.mp d with rfl|d
   .exact⟨(λE z=>by rw[x]at z;cases z),(λN u z=>by rw[x]at z;cases z)⟩
   obtain⟨q,y,rfl⟩:=zah.mp d;exact J.mtb q y
  nda:=by
   rw[L,zaQ];exact⟨R.ofree I,R.nda⟩
  len:=by
   unfold st0 ρ0;simp[hT]
  slots:=λi r e=>by
   rw[L];unfold ρ0 at e;have hi:n<=i:=by
    rcases zdF i n with z|z
    .rw[zaG (by simpa using z),zcE]at e
     split at e <;> cases e
    exact z
   rw[zaF (by simpa using hi),zcB,zai]at e
   cases ej:js[i-n]? with
   |none=>rw[ej]at e;cases e
   |some j =>
    rw[ej]at e;have e':slot U j=some r:=zaP e;obtain⟨v,Z,q⟩:=R.slots j r (xu e');refine⟨v,?_,?_⟩
    .unfold st0;rw[zaF (by simpa [hT] using hi),zcB,zai,hT,ej]
     show some ((G[j]?).join)=_;rw[Z];rfl
    rcases q with⟨k,q⟩|⟨k,a,e1,m,c⟩
    .exact .inl ⟨k,RepN.grow g _ _ q⟩
    refine .inr ⟨k,a,e1,zal _ (zah.mpr ⟨_,m,?_⟩),c.grow (λu q=>s _ _ q) g⟩;have l:j∈js:=zan ej;have B:js.idxOf j=i-n:=by
     have h1:=(zag.mp ej);have h2:=List.getElem_idxOf (List.idxOf_lt_length_iff.mpr l);exact(List.getElem_inj O).mp (h2.trans h1.2.symm)
    show(ixO n js j,a)=(i,a);unfold ixO;rw[zaK l,B]
    congr 1
    lia}
def bYes:TDb:=λ_ Y=>Y true
def Mn(ti:TID)(n:Nat)(js:List Nat)(g:TGD)(tc:TDb)(te:TD):TD:=λU Y=>ti U λS=>∃f:D->Option D,S.length<=100000 /\
 (∀d∈S,g d (ρ0 n js U) λρ'=>tc ρ' λc=>(c=true->te ρ' λr=>(nw r)/\f d=some r.d)/\(c=false->f d=none))/\Y (df (.lst (S.filterMap f)))
def EIf(G:Hp->Prop)(X:Cx)(ifs:List Expr)(t:TDb):Prop:=∀H_:{H:Hp // G H},PIf X ifs (Z0 X.K H_.1 t)
def yy:EIf L X [] bYes:=λH_ pn s G H Q I h=>by
 obtain⟨U,o,R,Y,a,k⟩:=h;exact Ew pn s G H Q I (k true H (Same.refl H) a)
def T2{c:Expr}(h:ET L X c tc):EIf L X [c] tc:=λH_=>Eu (h H_)
def RV.anew{K:W.Frag}{H0 H:Hp}{O:List Addr}{r:EV}{v:V}(h:RV K H0 H O r v)(p:su r):RepN K H (λa=>a∉O/\H0 a=none) r.d v:=by
 obtain⟨k,d⟩:=r;cases k with
 |val=>exact RepN.toN _ _ p h
 |own=>exact p.elim
 |new=>exact h
 |fre =>
  obtain⟨a,rfl,m,n,c⟩:=h;cases d with
  |lst S=>obtain⟨E,q,r⟩:=c;exact⟨a,E,rfl,q,⟨n,m⟩,zp.toN _ _ p r⟩
  |dk ks S=>obtain⟨E,q,l,e,r⟩:=c;exact⟨a,E,rfl,q,⟨n,m⟩,l,e,zp.toN _ _ p r⟩
  |_=>exact c.elim
def okP(b:Bool)(r:EV):Prop:=match b with
 |true=>su r
 |false=>match r.k with
  |.own=>False
  |_=>True
noncomputable def kdP:Bool->Kd
 |true=>.new
 |false=>.fre
def z5q(b:Bool)(n:Nat)(js:List Nat)(g:TGD)(tc:TDb)(te:TD)(U:DE)(S:List D)(Y:EV->Prop):Prop:=∃(P:Nat->List D->Prop)(A:Nat->List D->EV->Prop)(B:Nat->List D->Prop),S.length<=10000000/\P 0 [] /\
 (∀(i:Nat)(d:D)(es:List D),S[i]?=some d->es.length<=i->P i es->(g d (ρ0 n js U) λρ'=>tc ρ' λc=>(c=true->te ρ' (A i es))/\(c=false->B i es))/\(∀r,A i es r->okP b r/\P (i+1) (es++[r.d]))/\(B i es->P (i+1) es))/\∀es,P S.length es->Y ⟨kdP b,.lst es⟩
def Zp{H_:Hp}{W:DE->List D->(EV->Prop)->Prop}(b:Bool)(nd:js.Nodup)(hl:gh X.K g2 g)(hW:∀ U S Y,W U S Y->z5q b T.length js g tc te U S Y):∀G H Q,ql X.K H_ (λU Y=>ti U λS=>W U S Y) G H Q->Pn (J2 X.K H_ ti) T js g2 (Z0 X.K H_ tc) (ql X.K H_ te) G H Q:=λG H Q q=>by
  obtain⟨U,o,R,Y,a4,k⟩:=q;refine⟨U,o,R,_,a4,λJ S P H1 s1 I hP hw j a=>?_⟩;obtain⟨PP,PA,PB,a6,P0,N,a5⟩:=hW _ _ _ hw;have R1:=R.to s1;have gD:∀{H':Hp},Same H1 H'->Grow (o.map Prod.snd) (j::o.map Prod.snd) H1 H':=λs=>⟨λb u h nb=>⟨s b u h,λz=>(zam.mp z).elim (λe=>zk h a e) nb⟩,λb E h=>s b _ h,λb ob u h=>s b _ h⟩;refine⟨λi m ys H'=>m=S.length-i/\i<=S.length/\Same H1 H'/\H' j=some (.lst ys)/\∃es,es.length<=i/\PP i es/\zp X.K H' (λc=>c∉j::o.map Prod.snd/\(b=true->H1 c=none)) es ys,
   ⟨_,rfl,zbW _,ye a _,zu,[],zaj _,P0,rfl⟩,?_⟩
  rintro i m ys H' ⟨rfl,a8,s2,B,es,le,pe,O⟩;refine⟨B,?_⟩;have V:=I.keep _ _ _ _ hP (gD s2);by_cases hlt:i<S.length
  .have ed:S[i]?=some S[i]:=by simp[hlt]
   obtain⟨j1,j2⟩:=I.go H' _ i _ V ed;refine .inr ⟨j1,λzs H2=>Same H1 H2/\H2 j=some (.lst zs)/\∃es,es.length<=i+1/\PP (i+1) es/\zp X.K H2 (λc=>c∉j::o.map Prod.snd/\(b=true->H1 c=none)) es zs,λzs H2 ⟨a1,a2,a3⟩=>⟨_,(by lia:S.length-(i+1)<S.length-i),rfl,hlt,a1,a2,a3⟩,λx H2 y=>?_⟩
   obtain⟨s3,rx⟩:=j2 x H2 y;have l:=s2.trans s3;have a0:=s3 _ _ B;have hO:((T.length+js.length,j)::o.map λp=>(ixO T.length js p.1,p.2)).map Prod.snd=j::o.map Prod.snd:=by
    rw[zaB,zaV];rfl
   obtain⟨t1,t2,t3⟩:=N i _ es ed le pe;refine hl H_ H2 (st0 T js G) (ρ0 T.length js U) _ _ x _ _ (Q5 (n:=T.length) R1 nd a l a0 T rfl) (by rw[hO];exact rx) t1 λρ' a7 R' q'=>?_
   refine⟨ρ',_,R',_,q',λc H3 L h4=>?_⟩;have Z:=L _ _ a0;cases c with
   |false =>
    exact iteF ⟨l.trans L,Z,es,Nat.le_succ_of_le le,t3 (h4.2 rfl),zp.to (s3.trans L) aA _ _ O⟩
   |true =>
    refine iteT ⟨ρ',_,R'.to L,_,h4.1 rfl,λv r H4 s5 rv h5=>?_⟩;obtain⟨h5,h6⟩:=t2 r h5;have M:=s5 _ _ Z;have rd:RepN X.K H4 (λc=>c∉j::o.map Prod.snd/\(b=true->H1 c=none)) r.d v:=by
     cases b with
     |true=>exact RepN.to (Same.refl _) (λc z=>⟨hO▸z.1,λ_=>(l.trans L).free z.2⟩) _ _ (rv.anew h5)
     |false=>exact RepN.to (Same.refl _) (λc z=>⟨hO▸z,nofun⟩) _ _ (rv.solid (vq h5))
    refine⟨M,zeC (show ys.length<=10000000 by rw[O.length];lia) aB,⟨λb u h=>?_,zu,es++[r.d],by rw[zLa];exact Nat.succ_le_succ le,h6,?_⟩⟩
    .rw[y0 (zk h a)];exact s5 _ _ (L _ _ (l b u h))
    refine zp.go (λb E h=>?_) (λb ob u h=>?_) (λb u z h=>⟨?_,z⟩) _ _ ((zp.to (s3.trans (L.trans s5)) aA _ _ O).append (zp.one rd))
    .rw[y0 (λz=>by rw[z,M]at h;cases h)];exact h
    .rw[y0 (λz=>by rw[z,M]at h;cases h)];exact h
    rw[y0 (λy=>z.1 (zam.mpr (.inl y)))];exact h
  have e:i=S.length:=by lia
  subst e;refine .inl ⟨I.stop H' _ V,?_⟩;refine k (.ref j) ⟨kdP b,.lst es⟩ H' (s1.trans s2) ?_ (a5 es pe);cases b with
  |true=>exact⟨j,ys,rfl,B,⟨R.ofree (s1.free a),s1.free a⟩,zp.to (Same.refl _) (λb z=>⟨λy=>z.1 (zal _ y),s1.free (z.2 rfl)⟩) _ _ O⟩
  |false=>exact⟨j,rfl,s1.free a,R.ofree (s1.free a),ys,B,zp.to (Same.refl _) (λb z=>z.1) _ _ O⟩
def F5(b:Bool)(ti:TID)(n:Nat)(js:List Nat)(g:TGD)(tc:TDb)(te:TD):TD:=λU Y=>ti U λS=>∃P:Nat->List D->Prop,S.length<=10000000/\P 0 [] /\
 (∀(i:Nat)(d:D)(es:List D),S[i]?=some d->es.length<=i->P i es->g d (ρ0 n js U) λρ'=>tc ρ' λc=>(c=true->te ρ' λr=>okP b r/\P (i+1) (es++[r.d]))/\(c=false->P (i+1) es))/\∀es,P S.length es->Y ⟨kdP b,.lst es⟩
def Zq{H_:Hp}{b:Bool}(q:js.Nodup)(hl:gh X.K g2 g):∀G H Q,ql X.K H_ (F5 b ti T.length js g tc te) G H Q->Pn (J2 X.K H_ ti) T js g2 (Z0 X.K H_ tc) (ql X.K H_ te) G H Q :=
 Zp b q hl λU S Y ⟨P,hl,k,a,j⟩=>⟨P,_,_,hl,k,λi d es e l p=>⟨a i d es e l p,λ_ h=>h,λh=>h⟩,j⟩
def We(k:js.Nodup)(hl:gh X.K g2 g):∀G H Q,ql X.K H_ (Mn ti T.length js g tc te) G H Q->Pn (J2 X.K H_ ti) T js g2 (Z0 X.K H_ tc) (ql X.K H_ te) G H Q :=
 Zp false k hl λU S Y Zh=>by
  obtain⟨f,hl,a,j⟩:=Zh;refine⟨λi es=>es=(S.take i).filterMap f,λi es r=>okP false r/\(S[i]?).bind f=some r.d,λi es=>(S[i]?).bind f=none,zak hl aB,rfl,λi d es e _ p=>?_,λes p=>?_⟩
  .have l:(S[i]?).bind f=f d:=by rw[e];rfl
   have tk:(S.take (i+1)).filterMap f=es++(f d).toList:=by
    rw[show es=_ from p,zfN,e,List.filterMap_append];cases e:f d <;> simp[e]
   dsimp only
   rw[tk,l];exact⟨a d (zan e),λr h=>⟨h.1,by rw[h.2];rfl⟩,λh=>by rw[h];simp⟩
  rw[show es=_ from p,zbU];exact j
structure QF(L:Hp->Prop)(X:Cx)(tg iter elt:Expr)(ifs:List Expr)(scope:Scope)(T F:List Str)(js:List Nat)(ti:TID)(g2:TG)(g:TGD)(tc:TDb)(te:TD):Prop where
 mk(T F js)::
 i:EI L X tg iter ti
 r:∀ cl C fp s H,ED L (x4 X (T++F) scope cl C fp s H) elt te
 s:zy X.env.scope scope T F:=by walk_at "c"
 p:Paired (λx j=>X.N[j]?=some x) F js:=by walk_at "P"
 d:js.Nodup:=by decide
 q:∀ cl C fp s H,PG (x4 X (T++F) scope cl C fp s H) tg g2:=by walk_at "t"
 l:Za T.length g2:=by walk_at "l"
 h:gh X.K g2 g:=by walk_at "h"
 e:∀ cl C fp s H,EIf L (x4 X (T++F) scope cl C fp s H) ifs tc:=by walk_at "i"
 u:X.calm=true:=by rfl
 k:∀ x,foldedSetIterable iter X.env x=pure x:=by intro _;rfl
def wj(hC:QF L X tg iter elt ifs scope T F js ti g2 g tc te):ED L X (.ListComp elt [⟨tg,iter,ifs,0⟩] scope pos) (Mn ti T.length js g tc te):=λH_ =>
 impE (Oo (tc:=Z0 X.K H_.1 tc) (te:=ql X.K H_.1 te) hC.u (hC.i H_) hC.s hC.p hC.q hC.l (λcl C fp s H=>hC.e cl C fp s H H_) (λcl C fp s H=>hC.r cl C fp s H H_) hC.k) (We hC.d hC.h)
def qb(i:Nat)(V:X.N.Nodup)(hC:QF L X tg iter elt ifs scope T F js ti g2 g tc te)(u:autoParam (X.N[i]?=some y) zSr)(a:autoParam (X.env.scope.names.lookup y=some .local) zSr)(d:autoParam (swapsWith (.ListComp elt [⟨tg,iter,ifs,0⟩] scope pos) (some (.Name y py)) spos.line X.env=pure true) zSr):SD L X (.Assign [.Name y py] (.ListComp elt [⟨tg,iter,ifs,0⟩] scope pos) spos) (sSet i (Mn ti T.length js g tc te)):=λH_ =>
 impS (Zl (tc:=Z0 X.K H_.1 tc) (te:=ql X.K H_.1 te) hC.u V u (.inl a) (hC.i H_) hC.s hC.p hC.q hC.l (λcl C fp s H=>hC.e cl C fp s H H_) (λcl C fp s H=>hC.r cl C fp s H H_) d hC.k (.inr a)) λD G H h=>by
  obtain⟨U,o,R,Z,Q,q,k2,k3,k4⟩:=h;refine We hC.d hC.h G H _ ⟨U,o,R,_,Q,λv r H1 s1 k h1=>?_⟩;obtain⟨o',W,g'⟩:=R.put s1 i k (vq h1.1);exact q _ _ H1 o' g' W h1.2
end
section
variable{x:Str}{e a b:Expr}{es:List Expr}{t:TDs}{p pos:Pos}
structure Kit(K:W.Frag):Prop where
 ne:∀q∈([("NoneType","int"),("NoneType","bool"),("NoneType","str"),("NoneType","tuple"),("NoneType","list"),("NoneType","dict"),("bool","str"),("bool","tuple"),("bool","list"),("bool","dict"),
  ("int","bool"),("int","str"),("int","tuple"),("int","list"),("int","dict"),("str","int"),("str","bool"),("str","tuple"),("str","list"),("str","dict"),
  ("tuple","int"),("tuple","bool"),("tuple","str"),("tuple","list"),("tuple","dict"),("list","int"),("list","bool"),("list","str"),("list","tuple"),("list","dict"),
  ("dict","int"),("dict","bool"),("dict","str"),("dict","tuple"),("dict","list")]:List (String×String)),W.kitOne K (.type q.1) (.type q.2)=some false
 bi:W.kitOne K (.type "bool") (.type "int")=some true
def Nb{K:W.Frag}:Kit K:=by
 constructor
 .intro q a;simp only[zam,zaS,zdK]at a;rcases a with rfl|rfl|rfl|rfl|rfl|rfl|rfl|rfl|rfl|rfl|rfl|rfl|rfl|rfl|rfl|rfl|rfl|rfl|rfl|rfl|rfl|rfl|rfl|rfl|rfl|rfl|rfl|rfl|rfl|rfl|rfl|rfl|rfl|rfl|rfl <;> kernel_rfl
 kernel_rfl
def J8{K:W.Frag}{T:String}:W.kitOne K (.type T) (.type T)=some true:=by
 unfold W.kitOne;rw[zaK aE]
def bu:bootBuiltins "int" = some (.type "int"):=by decide +kernel
def Y2:bootBuiltins "bool" = some (.type "bool"):=by decide +kernel
def ka:bootBuiltins "tuple" = some (.type "tuple"):=by decide +kernel
def P4:bootBuiltins "list" = some (.type "list"):=by decide +kernel
def boot_dict':bootBuiltins "dict" = some (.type "dict"):=by decide +kernel
def fc:bootBuiltins "isinstance" = some (.builtin "isinstance"):=by decide +kernel
def z1n{K:W.Frag}(a T:String)(h:(a,T)∈([("NoneType","int"),("NoneType","bool"),("NoneType","str"),("NoneType","tuple"),("NoneType","list"),("NoneType","dict"),("bool","str"),("bool","tuple"),("bool","list"),("bool","dict"),
  ("int","bool"),("int","str"),("int","tuple"),("int","list"),("int","dict"),("str","int"),("str","bool"),("str","tuple"),("str","list"),("str","dict"),
  ("tuple","int"),("tuple","bool"),("tuple","str"),("tuple","list"),("tuple","dict"),("list","int"),("list","bool"),("list","str"),("list","tuple"),("list","dict"),
  ("dict","int"),("dict","bool"),("dict","str"),("dict","tuple"),("dict","list")]:List (String×String))):W.kitOne K (.type a) (.type T)=some false:=Nb.ne (a,T) h
noncomputable def Hq:D->String
 |.non=>"NoneType"
 |.bl _=>"bool"
 |.int _=>"int"
 |.str _=>"str"
 |.tup _=>"tuple"
 |.lst _=>"list"
 |.dk _ _=>"dict"
 |.ty _=>"type"
 |.cn _=>"tuple"
 |.scr _=>"list"
 |.fo _=>"exc"
 |.sx _=>"exc"
 |.ob _ _ _=>"exc"
noncomputable def J9:List (String×String):=[("NoneType","int"),("NoneType","bool"),("NoneType","str"),("NoneType","tuple"),("NoneType","list"),("NoneType","dict"),("bool","str"),("bool","tuple"),("bool","list"),("bool","dict"),
  ("int","bool"),("int","str"),("int","tuple"),("int","list"),("int","dict"),("str","int"),("str","bool"),("str","tuple"),("str","list"),("str","dict"),
  ("tuple","int"),("tuple","bool"),("tuple","str"),("tuple","list"),("tuple","dict"),("list","int"),("list","bool"),("list","str"),("list","tuple"),("list","dict"),
  ("dict","int"),("dict","bool"),("dict","str"),("dict","tuple"),("dict","list")]
noncomputable def isN(a T:String):Option Bool:=if a=T then some true else if a = "bool"/\T = "int" then some true else if (a,T)∈J9 then some false else none
noncomputable def isT(d:D)(T:String):Option Bool:=match d with
 |.ty _=>none
 |.cn _=>none
 |.scr _=>none
 |.fo _=>none
 |.sx _=>none
 |.ob _ _ _=>none
 |d=>isN (Hq d) T
def Dw{K:W.Frag}{a T:String}{b:Bool}(h:isN a T=some b):W.kitOne K (.type a) (.type T)=some b:=by
 unfold isN at h;split at h
 .rename_i q;cases h;subst q;exact J8
 split at h
 .rename_i q;cases h;obtain⟨rfl,rfl⟩:=q;exact Nb.bi
 split at h
 .rename_i q;cases h;exact z1n a T q
 cases h
def Dv{K:W.Frag}{d:D}{T:String}{b:Bool}(h:isT d T=some b):W.kitOne K (.type (Hq d)) (.type T)=some b:=by
 cases d with
 |ty _=>cases h
 |cn _=>cases h
 |scr _=>cases h
 |fo _=>cases h
 |sx _=>cases h
 |ob _ _ _=>cases h
 |_=>exact Dw h
def Yv(l:List D):isT (.tup l) "tuple" = some true:=(aB:isN "tuple" "tuple" = some true)
def Hg:ui X (.builtin "isinstance") (λE H Q=>∃d x T b,E=[x,.ty T]/\Rep X.K H [] d x/\isT d T=some b/\Q (.bl b) H):=by
 intro pn s G H E us Q I r h;obtain⟨d,x,T,b,rfl,k,e,q⟩:=h;obtain⟨u,v,rfl,j,B⟩:=Lg r;cases B;have l:=Dv (K:=X.K) e;have g:∀tk,EP X pn G Q (.bool b) {s with toks:=tk}:=λtk=>⟨.bl b,H,I.tok tk,rfl,q⟩;cases d with
 |non=>cases (show x=_ from k);exact t6 I j .non l g
 |bl c=>cases (show x=_ from k);exact t6 I j (.bl c) l g
 |int c=>cases (show x=_ from k);exact t6 I j (.int c) l g
 |str c=>cases (show x=_ from k);exact t6 I j (.str c) l g
 |ty _=>cases e
 |cn _=>cases e
 |scr _=>cases e
 |fo _=>cases e
 |sx _=>cases e
 |ob _ _ _=>cases e
 |lst S=>obtain⟨a,E,rfl,y,_⟩:=k;exact t6 I j (.lst y) l g
 |dk ks S=>obtain⟨a,E,rfl,y,_⟩:=k;exact t6 I j (.dK y) l g
 |tup S =>
  obtain⟨a,E,rfl,y,_⟩:=k;cases (show u=Value.ref a from j);obtain⟨its,_,p,_⟩:=I.tuple y.1;obtain⟨o,h1,h2,_⟩:=p;exact zeE W.kitx_tuple I.kIn ⟨o,h1,h2⟩ l nofun g
def sIsI:FT:=λS Y=>match S with
 |[d,.ty T]=>match isT d T with
  |some b=>Y (dv (.bl b))
  |none=>False
 |_=>False
def t8(q:X.mg "isinstance" = none)(x:EA L X (e::es) t)(r:autoParam (Gl X "isinstance") zSr)(u:autoParam (S_ X e es) zSr)(a:autoParam (B_ X es pos) zSr):ED L X (.Call (.Name "isinstance" p) (e::es) [] pos) (dCB sIsI t) :=
 ut Hg (λH O S vs Y Q ho l h k=>by
  unfold sIsI at h;split at h
  .split at h
   .rename_i d T b y;obtain⟨v,ws,rfl,h1,j,g,rfl,h2,rfl⟩:=l;cases (show j=_ from h2);exact⟨_,v,_,_,rfl,h1.rep0,y,k _ _ H (Same.refl H) aH h⟩
   exact h.elim
  exact h.elim) q fc x r aB aB u a
def sTupC:FT:=λS Y=>match S with
 |[.lst l]=>Y (dv (.tup l))
 |[.tup l]=>Y (dv (.tup l))
 |_=>False
def va(j:X.mg "tuple" = none)(y:EA L X (e::es) t)(u:autoParam (Gl X "tuple") zSr)(x:autoParam (S_ X e es) zSr)(d:autoParam (B_ X es pos) zSr):ED L X (.Call (.Name "tuple" p) (e::es) [] pos) (dCB sTupC t) :=
 jn Xn (λH O S vs Y Q ho g h k=>by
  unfold sTupC at h;split at h
  .obtain⟨v,ws,rfl,⟨a,E,rfl,q,r⟩,rfl⟩:=g;exact⟨a,E,rfl,.inl ⟨SqL.of q,λl hl=>k _ _ _ (ye hl _) (Tz hl r) h⟩⟩
  .obtain⟨v,ws,rfl,⟨a,E,rfl,q,r⟩,rfl⟩:=g;exact⟨a,E,rfl,.inr ⟨q.1,k (.ref a) (dv (.tup _)) H (Same.refl H) ⟨a,E,rfl,q,r⟩ h⟩⟩
  exact h.elim) j ka y u aB aB x d
def sListC:FT:=λS Y=>match S with
 |[.lst l]=>Y (df (.lst l))
 |[.tup l]=>Y (df (.lst l))
 |_=>False
def Rj(j:X.mg "list" = none)(y:EA L X (e::es) t)(u:autoParam (Gl X "list") zSr)(x:autoParam (S_ X e es) zSr)(d:autoParam (B_ X es pos) zSr):ED L X (.Call (.Name "list" p) (e::es) [] pos) (dCB sListC t) :=
 jn Vc (λH O S vs Y Q ho g h k=>by
  unfold sListC at h;split at h
  .obtain⟨v,ws,rfl,⟨a,E,rfl,q,r⟩,rfl⟩:=g;exact⟨a,E,rfl,.inl (SqL.of q),λl hl=>k _ _ _ (ye hl _) (sk ho hl r) h⟩
  .obtain⟨v,ws,rfl,⟨a,E,rfl,q,r⟩,rfl⟩:=g;exact⟨a,E,rfl,.inr q.1,λl hl=>k _ _ _ (ye hl _) (sk ho hl r) h⟩
  exact h.elim) j P4 y u aB aB x d
def sIntC:FT:=λS Y=>match S with
 |[.bl b]=>Y (dv (.int (if b then 1 else 0)))
 |[.int i]=>Y (dv (.int i))
 |_=>False
def Xg(g:X.mg "int" = none)(q:EA L X (e::es) t)(j:autoParam (Gl X "int") zSr)(l:autoParam (S_ X e es) zSr)(a:autoParam (B_ X es pos) zSr):ED L X (.Call (.Name "int" p) (e::es) [] pos) (dCB sIntC t) :=
 jn Mx (λH O S vs Y Q ho d h k=>by
  unfold sIntC at h;split at h
  .obtain⟨v,ws,rfl,h1,rfl⟩:=d;cases (show v=_ from h1);exact .inr ⟨_,rfl,k _ _ H (Same.refl H) aH h⟩
  .obtain⟨v,ws,rfl,h1,rfl⟩:=d;cases (show v=_ from h1);exact .inl ⟨_,rfl,k _ _ H (Same.refl H) aH h⟩
  exact h.elim) g bu q j aB aB l a
end
section
variable{x:Str}{e:Expr}{te:TD}{apos np cpos pos:Pos}
def sApp(i:Nat)(te:TD):TDS:=λU Z=>match slot U i with
 |some ⟨.own,.lst S⟩=>te U λr=>(nw r)/\S.length<=100000/\Z.nx (setS U i (dO (.lst (S++[r.d]))))
 |_=>False
def wn(i:Nat)(W:ED L X e te)(hN:autoParam (X.N[i]?=some x) zSr)(O:autoParam (Vis X.env.scope x) zSo)(hd:autoParam (D_ x) zSd)(u:autoParam ((x==("__classdict__" : Str))=false) zSd)(Q:∀ {ta tb:TE},PE X (.Name x np) ta->PE X e tb->PS X (.Expr (.Call (.Attribute (.Name x np) "append" apos) [e] [] cpos) pos) (Vu (tBM X.K "list" U0 ta (Q2 tb tNil))):=by
   intro ta tb h1 h2;exact sv (Q9 zcH PySem.F.slot_list_append PySem.F.type_list_append cf h1 (wg h2 uc))) :
  SD L X (.Expr (.Call (.Attribute (.Name x np) "append" apos) [e] [] cpos) pos) (sApp i te):=λH_=>impS (Q (uq hN O hd u) (W H_)) λD G H h=>by
 obtain⟨U,o,R,Z,j,M,k2,k3,k4⟩:=h;unfold sApp at j;split at j
 .rename_i S es;obtain⟨v0,g,J⟩:=R.slots i _ (xu es);rcases J with⟨k,_⟩|⟨_,a,rfl,m,c⟩
  .cases k
  obtain⟨E,B,y⟩:=c;refine⟨.ref a,g,.inl ⟨rfl,E,SqL.of B⟩,?_⟩;refine⟨U,o,R,_,j,λv r H1 s1 I h1=>?_⟩;obtain⟨h0,hl,V⟩:=h1;have q:=s1 _ _ B;have R1:=R.to s1;have l:=zp.grow (Grow.same s1) _ _ y;refine⟨a,E,v,rfl,rfl,q,?_,?_⟩
  .rw[y.length];exact zeC hl aB
  obtain⟨R2,g2⟩:=R1.chg (d':=.lst (S++[r.d])) (ho:=.lst (E++[v])) (xu es) g m ⟨λ_ z=>(by cases z),λ_ _ z=>(by cases z)⟩ λgr=>⟨E++[v],zu,gr _ _ (l.append (zp.one (I.solid (vq h0))))⟩
  exact M _ G _ o ((Grow.same s1).trans g2) R2 V
 exact j.elim
end
variable{P:Program}
noncomputable def wb(n:Nat)(S:List D):DE:=S.map (λd=>some (dv d))++List.replicate (n-S.length) none
def Nz{x a:Str}{st:Stmt}{f:Addr}{fd:FuncData}{N ps:List Str}{k:Nat}{T:FT}(F:Fun K x a st f fd)(ds:zn N ps (zd st))(B:∀ (qZ:Value) (A:Around) (outer:List Env) (s:Shared) (H:Hp) (xs:XK) (S:List D) (Y:EV->Prop),Room k (A.deeper (envOfC a (zd st) s.z f qZ))->S.length=ps.length->T S Y ->
   ∃ t,SDs (λ_=>True) (cxOf CX0 P w K mg base N a (zd st) f qZ A outer s H xs).nox (yr st) t/\t (wb N.length S) {nx:=λ_=>Y (dv .non),rt:=λr=>su r/\Y r}):FnOk P w K mg base CX0 (k+1) f fd ps (spD K ps.length T):=by
 refine F.ok ds (λvs H Q xs h=>?_) (λqZ A outer s H vs Q xs hr h=>?_)
 .obtain⟨S,Y,hl,r,_⟩:=h;rw[r.length,hl]
 obtain⟨S,Y,hl,r,hT,l⟩:=h;obtain⟨t,G,I⟩:=B qZ A outer s H xs S Y hr hl hT;have j:=r.length;refine⟨Qi K H t,G ⟨H,zaA⟩,wb N.length S,[],⟨Same.refl H,(λ_ z=>absurd z aE),(λ_ z=>absurd z aE),(λ_ z=>absurd z aE),zcX,λi r' e=>?_,?_⟩,_,I,λρ' y H' o' g M q=>?_,λ_ _ _ _ _ _ q=>q.elim,λ_ _ _ _ _ _ q=>q.elim,λv r' H' s' d q=>l v r' H' s' d q.1 q.2⟩
 .unfold wb at e;rcases zdF i S.length with hi|hi
  .rw[zaG (by simpa using hi),zai]at e
   have u:S[i]?=some S[i]:=by simp[hi]
   rw[u]at e;have L:some (dv S[i])=some r':=zaP e;cases L;obtain⟨v,J,d⟩:=r.get u;refine⟨v,?_,.inl ⟨rfl,d⟩⟩;unfold ZZ.start;rw[zaG (by rw[zLm,j];exact hi),zai,J]
   rfl
  rw[zaF (by simpa using hi),zcE]at e
  split at e <;> cases e
 .unfold ZZ.start wb;simp[j]
 exact l .non (dv .non) H' M.same rfl trivial q
abbrev QD(P:Program)(w:World)(K:W.Frag)(mg:Str->Option Value)(base:Heap)(a:Str)(st:Stmt)(N ps:List Str)(k:Nat)(T:FT)(f:Addr):Prop:=∀ (qZ:Value) (A:Around) (outer:List Env) (s:Shared) (H:Hp) (xs:XK) (S:List D) (Y:EV->Prop),Room k (A.deeper (envOfC a (zd st) s.z f qZ))->S.length=ps.length->T S Y -> ∃ t,SDs (λ_=>True) (cxOf CX0 P w K mg base N a (zd st) f qZ A outer s H xs).nox (yr st) t/\t (wb N.length S) {nx:=λ_=>Y (dv .non),rt:=λr=>su r/\Y r}
def v8{x a:Str}{st:Stmt}{f:Addr}{fd:FuncData}{N ps:List Str}{k:Nat}{T:FT}(F:Fun K x a st f fd)(ds:zn N ps (zd st))(b:uj K fd ps [])(m:mg x=some (.ref f))(d:QD P w K mg base a st N ps k T f):FD P w K mg base (k+1) x ps T:=⟨f,fd,Nz F ds d,b,F.kp,m⟩
def lawT:FT:=λS Y=>∃ns:List Int,S=[.scr ns]/\ns.length<=63/\Y (dv (.bl true))
def walkD{l:W.OpenLaw}{XP:(Str->Option Value)->Heap->Prop}{YP:World->Heap->Prop}{d:DefRec}{K:Params->W.Frag}{x:Str}{k:Nat}(y:l.most=some 63)(g:d.params.defaults=[])(hr:Room k callerA)(B:∀ (w:World) (h:Heap),YP w h->(K w.params).In h)(F:∀ (w:World) (mg:Str->Option Value) (fa:Addr) (h:Heap),(K w.params).In h->h.Ns mainGlobals mg->mg d.name=some (.ref fa) ->
   ∃ fd:FuncData,(∀ (s:Shared) (u:Value),BindsTo s fd ⟨[u],[]⟩ [(x,u)])/\∀ base:Heap,(K w.params).In base->base.Ns mainGlobals mg->FnOk l.prog w (K w.params) mg base CX0 k fa fd [x] (spD (K w.params) 1 lawT)) :
  W.WalkO q loose XP YP l.row.toRowW d [] (λf vs=>PySem.call f vs) :=
 ZZ.walk_of (n:=63) (k:=k) (x:=x) (CX:=λ_=>CX0) (sp:=λw=>spD (K w.params) 1 lawT) y aB g hr B F (λw H a ns hl ho D=>by
  refine⟨[.scr ns],λr=>r=dv (.bl true),rfl,⟨.ref a,[],rfl,⟨a,rfl,?_⟩,rfl⟩,⟨ns,rfl,hl,rfl⟩,λv r H' s j p e=>by subst e;exact j⟩
  rcases D with(h|⟨o,h⟩)|h
  .rcases ho a with z|⟨o,E,z⟩
   .rw[z]at h;cases h
   rw[z]at h;cases h
  .exact .inl ⟨o,h⟩
  exact .inr h) λ_ _ _ _ _ z=>z
def Qc{E:Array Value}{x:Value}(hi:s.heap.IsTupleIter it l i)(hl:s.heap.IsTuple l E)(j:E[i]?=some x)(q:∀ g,g.IsTupleIter it l (i+1)->Heap.SameBut it s.heap g->Q x {s with heap:=g}):wpAny (model P w) A (Builtin.SmallTypes.nextOf (.ref it)) Q xs s:=by
 obtain⟨o,ho,k,a⟩:=id hi;obtain⟨r,d,_,u,e⟩:=hl;unfold Builtin.SmallTypes.nextOf;refine zaa (zbA (name:=Str.ofString "__next__") hi.typeIs zdL (zbF zdL hi.typeIs F.entry_tuple_iterator_next ?_ (F.args_tuple_iterator_next_1 _)));show wpAny _ _ (field (.ref it) 0 >>= _) _ _ s;refine zaa (zbE ho a (x:=.ref l) rfl ?_);show wpAny _ _ (if (Value.ref l==Value.none)=true then _ else _) _ _ s
 rw[zaI (show ¬ ((Value.ref l==Value.none)=true) from zaT)];show wpAny _ _ (field (.ref it) 1 >>= _) _ _ s;refine zaa (zbE ho a (x:=.int i 0) rfl ?_);show wpAny _ _ (seqItems? (.ref l) >>= _) _ _ s;refine zaa (zcK d e ?_);simp only[zcF,j];refine zaa (zdR ho a aE (zab ⟨x,rfl,zab (q _ ⟨_,zcO _ ho (zdO (zbY a _)),(zfI ..).trans k,?_⟩ (zbH ..))⟩))
 rw[zbY a];simp[rawInt]
def N0{E:Array Value}(q:A.handled=none)(hi:s.heap.IsTupleIter it l i)(hl:s.heap.IsTuple l E)(r:E[i]?=none)(u:∀ g e,Heap.ExtBut it s.heap g->(∃ o,g.get? e=some o/\o.cls=.type "StopIteration")->xs (.ref e) {s with heap:=g}):wpAny (model P w) A (Builtin.SmallTypes.nextOf (.ref it)) Q xs s:=by
 obtain⟨o,ho,z,k⟩:=id hi;obtain⟨v,d,_,y,j⟩:=hl;unfold Builtin.SmallTypes.nextOf;refine zaa (zbA (name:=Str.ofString "__next__") hi.typeIs zdL (zbF zdL hi.typeIs F.entry_tuple_iterator_next ?_ (F.args_tuple_iterator_next_1 _)));show wpAny _ _ (field (.ref it) 0 >>= _) _ _ s;refine zaa (zbE ho k (x:=.ref l) rfl ?_);show wpAny _ _ (if (Value.ref l==Value.none)=true then _ else _) _ _ s
 rw[zaI (show ¬ ((Value.ref l==Value.none)=true) from zaT)];show wpAny _ _ (field (.ref it) 1 >>= _) _ _ s;refine zaa (zbE ho k (x:=.int i 0) rfl ?_);show wpAny _ _ (seqItems? (.ref l) >>= _) _ _ s;refine zaa (zcK d j ?_);simp only[zcF,r];refine zaa (zfJ (zaa (zdR ho k aE ?_)))
 show wpAny _ _ (newExc (.type "StopIteration") [] >>= _) _ _ _;refine zaa ?_;simp only[newExc,newTuple];refine zaa (zbK ?_ (by size_fits))
 refine zaa (m:=firstArgMember _ _) (zdX (a:=Value.none) (by first|rfl|(simp only[firstArgMember];rfl)) ?_)
 refine zbK ?_ (by size_fits)
 simp only[raiseNew];refine zaa (wpAny_handled ?_)
 first|rw[show A.in1.handled=none from q]|rw[q]
 exact zaa (zab (wpAny_throw (u _ _ (((zbH ..).extBut.push _).push _) ⟨_,zad _ rfl,rfl⟩)))
def SqAt(b:Bool)(h:Heap)(l:Addr)(E:Array Value):Prop:=match b with
 |true=>h.IsTuple l E
 |false=>h.IsList l E
def ItAt(b:Bool)(h:Heap)(it l:Addr)(i:Nat):Prop:=match b with
 |true=>h.IsTupleIter it l i
 |false=>h.IsListIter it l i
theorem SqAt.at{b:Bool}{h g:Heap}{l:Addr}{E:Array Value}(x:SqAt b h l E)(k:∀ o,h.get? l=some o->g.get? l=some o):SqAt b g l E:=by
 cases b with
 |true=>exact Heap.IsTuple.at (show h.IsTuple l E from x) k
 |false=>exact Heap.IsList.at (show h.IsList l E from x) k
theorem ItAt.at{b:Bool}{h g:Heap}{it l:Addr}{i:Nat}(x:ItAt b h it l i)(k:∀ o,h.get? it=some o->g.get? it=some o):ItAt b g it l i:=by
 cases b with
 |true=>exact Heap.IsTupleIter.at (show h.IsTupleIter it l i from x) k
 |false=>exact Heap.IsListIter.at (show h.IsListIter it l i from x) k
def t4{E:Array Value}{x:Value}(hi:ItAt b s.heap it l i)(hl:SqAt b s.heap l E)(a:E[i]?=some x)(d:∀ g,ItAt b g it l (i+1)->Heap.SameBut it s.heap g->Q x {s with heap:=g}):wpAny (model P w) A (Builtin.SmallTypes.nextOf (.ref it)) Q xs s:=by
 cases b with
 |true=>exact Qc hi hl a d
 |false=>exact wpAny_nextOf_list_item hi hl a d
def c9{E:Array Value}(d:A.handled=none)(hi:ItAt b s.heap it l i)(hl:SqAt b s.heap l E)(a:E[i]?=none)(j:∀ g e,Heap.ExtBut it s.heap g->(∃ o,g.get? e=some o/\o.cls=.type "StopIteration")->xs (.ref e) {s with heap:=g}):wpAny (model P w) A (Builtin.SmallTypes.nextOf (.ref it)) Q xs s:=by
 cases b with
 |true=>exact N0 d hi hl a j
 |false=>exact wpAny_nextOf_list_end d hi hl a j
structure ZAt(b1 b2:Bool)(g:Heap)(z ti to i1 i2 l1 l2:Addr)(f:Value)(k:Nat):Prop where
 zz:IsZip g z ti to f
 its:IsPair g ti (.ref i1) (.ref i2)
 out:∃a b,IsPair g to a b
 one:ItAt b1 g i1 l1 k
 two:ItAt b2 g i2 l2 k
structure ZNe(z ti to i1 i2:Addr):Prop where
 ab:ti≠z
 ac:to≠z
 ad:i1≠z
 ae:i2≠z
 bc:ti≠to
 bd:ti≠i1
 be:ti≠i2
 cd:to≠i1
 ce:to≠i2
 de:i1≠i2
def ZOff(z to i1 i2 c:Addr):Prop:=c≠z/\c≠to/\c≠i1/\c≠i2
def Lc{b1 b2:Bool}{k:Nat}{E ys:Array Value}{x y:Value}{Q:Value->Shared->Prop}(D:ZNe z ti to i1 i2)(d1:ZOff z to i1 i2 l1)(d2:ZOff z to i1 i2 l2)(Z:ZAt b1 b2 s.heap z ti to i1 i2 l1 l2 .none k)(t1:SqAt b1 s.heap l1 E)(t2:SqAt b2 s.heap l2 ys)(hx:E[k]?=some x)(hy:ys[k]?=some y)(hQ:∀ g,ZAt b1 b2 g z ti to i1 i2 l1 l2 (rawInt s.z) (k+1)->IsPair g s.z x y->(∀ c o,ZOff z to i1 i2 c->s.heap.get? c=some o->g.get? c=some o)->Q (.ref s.z) {s with heap:=g}) :
  wpAny (model P w) A (Builtin.«zip.__next__» ⟨[.ref z],[]⟩) (λa0 s'=>∃v,a0=.done (.ret v)/\Q v s') xs s:=by
 obtain⟨L,M,⟨a,b,W⟩,h1,h2⟩:=Z;show wpAny _ _ (field (.ref z) 2 >>= _) _ _ _;refine zaa (zbE L rfl (x:=.bool false) rfl ?_);show wpAny _ _ (field (.ref z) 3 >>= _) _ _ _;refine zaa (zbE L rfl (x:=.ref ti) rfl ?_);refine zaa (zcK M rfl ?_);show wpAny _ _ (Builtin.SmallTypes.ownedTupleIsFree (.ref z) >>= _) _ _ _;refine zaa ?_;unfold Builtin.SmallTypes.ownedTupleIsFree;refine zaa (zbE L rfl (x:=.none) rfl (zab ?_));simp only[if_true];refine zaa (zfJ ?_);refine zaa (zbE L rfl (x:=.ref to) rfl ?_);refine zaa (zdA L aE λg1 V s1=>?_)
 replace V:IsZip g1 z ti to .ellipsis:=V
 refine zaa ?_;simp only[List.zipIdx_cons,List.zipIdx_nil,zfA,List.forIn_nil];refine zaa (zaa (wpAny_onRaise ?_));show wpAny _ _ (Builtin.SmallTypes.nextOf (.ref i1) >>= _) _ _ _;refine zaa (t4 (h1.at λo e=>s1.extBut _ o D.ad e) (t1.at λo e=>s1.extBut _ o d1.1 e) hx λg2 p2 s2=>zab ?_);have B:IsPair g2 to a b:=s2.extBut _ _ D.cd (s1.extBut _ _ D.ac W);refine zaa (zcK B rfl (zaa (wpAny_updateSeq_pair B λg3 l r=>?_)))
 replace l:IsPair g3 to x b:=l
 refine zaa (wpAny_letGo (zab (zaa (zaa (wpAny_onRaise ?_)))));show wpAny _ _ (Builtin.SmallTypes.nextOf (.ref i2) >>= _) _ _ _;refine zaa (t4 (h2.at λo e=>r.extBut _ o D.ce.symm (s2.extBut _ o D.de.symm (s1.extBut _ o D.ae e))) (t2.at λo e=>r.extBut _ o d2.2.1 (s2.extBut _ o d2.2.2.1 (s1.extBut _ o d2.1 e))) hy λg4 p4 I=>zab ?_);have u:IsPair g4 to x b:=I.extBut _ _ D.ce l;refine zaa (zcK u rfl (zaa (wpAny_updateSeq_pair u λd j G=>?_)))
 replace j:IsPair d to x y:=j
 refine zaa (wpAny_letGo (zab (zab (zaa (zcK j rfl (zaa (wpAny_newTuple ?_)))))));have sz:d.objs.size=s.z:=by rw[G.1,I.1,r.1,s2.1,s1.1]
 have z5:IsZip d z ti to .ellipsis:=G.extBut _ _ D.ac.symm (I.extBut _ _ D.ae.symm (r.extBut _ _ D.ac.symm (s2.extBut _ _ D.ad.symm V)));have J:∀c o,ZOff z to i1 i2 c->s.heap.get? c=some o->d.get? c=some o:=λc o q e=>G.extBut _ _ q.2.1 (I.extBut _ _ q.2.2.2 (r.extBut _ _ q.2.1 (s2.extBut _ _ q.2.2.1 (s1.extBut _ _ q.1 e))));have q1:ItAt b1 d i1 l1 (k+1):=p2.at λo e=>G.extBut _ o D.cd.symm (I.extBut _ o D.de (r.extBut _ o D.cd.symm e));have q2:ItAt b2 d i2 l2 (k+1):=p4.at λo e=>G.extBut _ o D.ce.symm e;have lz:z<d.objs.size:=zae z5;show wpAny _ _ (Builtin.SmallTypes.ownedTupleHandOut (.ref z) (.ref d.objs.size) >>= _) _ _ _;refine zaa ?_;unfold Builtin.SmallTypes.ownedTupleHandOut;have z6:IsZip (d.push {cls:=.type "tuple",data:=.seq #[x,y]}) z ti to .ellipsis:=zac _ z5;refine zaa (zdA z6 aE λg7 R s7=>?_)
 replace R:IsZip g7 z ti to (rawInt d.objs.size):=R
 refine zdA R aE λO N s8=>?_
 replace N:IsZip O z ti to (rawInt d.objs.size):=N
 have up:∀c o,c≠z->d.get? c=some o->O.get? c=some o:=λc o c1 e=>s8.extBut _ _ c1 (s7.extBut _ _ c1 (zac _ e));have pr:IsPair O d.objs.size x y:=s8.extBut _ _ (zcA lz) (s7.extBut _ _ (zcA lz) (zad _ rfl));rw[sz]at N pr;refine zab ⟨_,rfl,?_⟩;show Q (.ref d.objs.size) _;rw[sz];exact hQ O ⟨N,up _ _ D.ab (J _ _ ⟨D.ab,D.bc,D.bd,D.be⟩ M),⟨_,_,up _ _ D.ac j⟩,q1.at λo e=>up _ o D.ad e,q2.at λo e=>up _ o D.ae e⟩ pr λc o q e=>up c o q.1 (J c o q e)
def Fe{E ys:Array Value}{Q:Fin->Shared->Prop}(R:A.handled=none)(D:ZNe z ti to i1 i2)(d1:ZOff z to i1 i2 l1)(d2:ZOff z to i1 i2 l2)(Z:ZAt b1 b2 s.heap z ti to i1 i2 l1 l2 .none k)(t1:SqAt b1 s.heap l1 E)(t2:SqAt b2 s.heap l2 ys)(v:E[k]?=none\/ys[k]?=none)(V:∀ g e,(∀ c o,ZOff z to i1 i2 c->s.heap.get? c=some o->g.get? c=some o)->(∃ o,g.get? e=some o/\o.cls=.type "StopIteration")->xs (.ref e) {s with heap:=g}) :
  wpAny (model P w) A (Builtin.«zip.__next__» ⟨[.ref z],[]⟩) Q xs s:=by
 obtain⟨u,G,⟨a,b,B⟩,h1,h2⟩:=Z;show wpAny _ _ (field (.ref z) 2 >>= _) _ _ _;refine zaa (zbE u rfl (x:=.bool false) rfl ?_);show wpAny _ _ (field (.ref z) 3 >>= _) _ _ _;refine zaa (zbE u rfl (x:=.ref ti) rfl ?_);refine zaa (zcK G rfl ?_);show wpAny _ _ (Builtin.SmallTypes.ownedTupleIsFree (.ref z) >>= _) _ _ _;refine zaa ?_;unfold Builtin.SmallTypes.ownedTupleIsFree;refine zaa (zbE u rfl (x:=.none) rfl (zab ?_));simp only[if_true];refine zaa (zfJ ?_);refine zaa (zbE u rfl (x:=.ref to) rfl ?_);refine zaa (zdA u aE λg1 y s1=>?_)
 replace y:IsZip g1 z ti to .ellipsis:=y
 refine zaa ?_;simp only[List.zipIdx_cons,List.zipIdx_nil,zfA,List.forIn_nil];refine zaa (zaa (wpAny_onRaise ?_));show wpAny _ _ (Builtin.SmallTypes.nextOf (.ref i1) >>= _) _ _ _;cases hx:E[k]? with
 |none =>
  refine zaa (c9 R (h1.at λo e=>s1.extBut _ o D.ad e) (t1.at λo e=>s1.extBut _ o d1.1 e) hx λg2 e s2 I=>?_);obtain⟨oe,d,j⟩:=I;have M:IsZip g2 z ti to .ellipsis:=s2 _ _ D.ad.symm y;have J:e≠z:=λx=>by subst x;rw[M]at d;cases d;simp at j
  exact zdA M aE λg3 _ l=>V g3 e (λc o q x=>l.extBut _ _ q.1 (s2 _ _ q.2.2.1 (s1.extBut _ _ q.1 x))) ⟨oe,l.extBut _ _ J d,j⟩
 |some x =>
  have hy:ys[k]?=none:=by rcases v with h|h;rw[hx]at h;cases h;exact h
  refine zaa (t4 (h1.at λo e=>s1.extBut _ o D.ad e) (t1.at λo e=>s1.extBut _ o d1.1 e) hx λg2 p2 s2=>zab ?_);have r:IsPair g2 to a b:=s2.extBut _ _ D.cd (s1.extBut _ _ D.ac B);refine zaa (zcK r rfl (zaa (wpAny_updateSeq_pair r λg3 W l=>?_)));refine zaa (wpAny_letGo (zab (zaa (zaa (wpAny_onRaise ?_)))));show wpAny _ _ (Builtin.SmallTypes.nextOf (.ref i2) >>= _) _ _ _;refine zaa (c9 R (h2.at λo e=>l.extBut _ o D.ce.symm (s2.extBut _ o D.de.symm (s1.extBut _ o D.ae e))) (t2.at λo e=>l.extBut _ o d2.2.1 (s2.extBut _ o d2.2.2.1 (s1.extBut _ o d2.1 e))) hy λg4 e O I=>?_);obtain⟨oe,d,j⟩:=I;have L:IsZip g4 z ti to .ellipsis:=O _ _ D.ae.symm (l.extBut _ _ D.ac.symm (s2.extBut _ _ D.ad.symm y));have J:e≠z:=λx=>by subst x;rw[L]at d;cases d;simp at j
  exact zdA L aE λg5 _ N=>V g5 e (λc o q x=>N.extBut _ _ q.1 (O _ _ q.2.2.2 (l.extBut _ _ q.2.1 (s2.extBut _ _ q.2.2.1 (s1.extBut _ _ q.1 x))))) ⟨oe,N.extBut _ _ J d,j⟩
def Wb{E ys:Array Value}{x y:Value}{Q:Option Value->Shared->Prop}(D:ZNe z ti to i1 i2)(d1:ZOff z to i1 i2 l1)(d2:ZOff z to i1 i2 l2)(Z:ZAt b1 b2 s.heap z ti to i1 i2 l1 l2 .none k)(t1:SqAt b1 s.heap l1 E)(t2:SqAt b2 s.heap l2 ys)(e:E[k]?=some x)(d:ys[k]?=some y)(j:∀ g,ZAt b1 b2 g z ti to i1 i2 l1 l2 (rawInt s.z) (k+1)->IsPair g s.z x y->(∀ c o,ZOff z to i1 i2 c->s.heap.get? c=some o->g.get? c=some o)->Q (some (.ref s.z)) {s with heap:=g}) :
  wpAny (model P w) A (pyNext (.ref z)) Q xs s:=by
 have ty:s.TypeIs (.ref z) "zip":=⟨_,Z.zz,rfl⟩;unfold pyNext;exact zaa (zdP (zbA (name:=Str.ofString "__next__") ty zdI (zbF zdI ty zfU (Lc D d1 d2 Z t1 t2 e d λg a b c=>zab (j g a b c)) (zfK _))))
def Sv{E ys:Array Value}{Q:Option Value->Shared->Prop}(j:A.handled=none)(D:ZNe z ti to i1 i2)(d1:ZOff z to i1 i2 l1)(d2:ZOff z to i1 i2 l2)(Z:ZAt b1 b2 s.heap z ti to i1 i2 l1 l2 .none k)(t1:SqAt b1 s.heap l1 E)(t2:SqAt b2 s.heap l2 ys)(a:E[k]?=none\/ys[k]?=none)(r:∀ g,(∀ c o,ZOff z to i1 i2 c->s.heap.get? c=some o->g.get? c=some o)->Q none {s with heap:=g}):wpAny (model P w) A (pyNext (.ref z)) Q xs s:=by
 have ty:s.TypeIs (.ref z) "zip":=⟨_,Z.zz,rfl⟩;unfold pyNext;refine zaa (zdP (zbA (name:=Str.ofString "__next__") ty zdI (zbF zdI ty zfU (Fe j D d1 d2 Z t1 t2 a λg e d l=>?_) (zfK _))));obtain⟨o,ho,q⟩:=l;refine zaa (zdY (T:="StopIteration") (b:=true) ⟨o,ho,q⟩ isSubtype_stop ?_);exact zab (r _ d)
noncomputable def Gx(b:Bool):String:=match b with
 |true=>"tuple_iterator"
 |false=>"list_iterator"
noncomputable abbrev zh1(b1:Bool)(h:Heap)(l1:Addr):Heap:=h.push {cls:=.type (Gx b1),data:=.fields #[.ref l1,.int 0 0]}
noncomputable abbrev zh2(b1 b2:Bool)(h:Heap)(l1 l2:Addr):Heap:=(zh1 b1 h l1).push {cls:=.type (Gx b2),data:=.fields #[.ref l2,.int 0 0]}
noncomputable abbrev zh3(b1 b2:Bool)(h:Heap)(l1 l2:Addr):Heap:=(zh2 b1 b2 h l1 l2).push {cls:=.type "tuple",data:=.seq #[.ref h.objs.size,.ref (zh1 b1 h l1).objs.size]}
noncomputable abbrev zh4(b1 b2:Bool)(h:Heap)(l1 l2:Addr):Heap:=(zh3 b1 b2 h l1 l2).push {cls:=.type "tuple",data:=.seq #[.none,.none]}
noncomputable abbrev zh5(b1 b2:Bool)(h:Heap)(l1 l2:Addr):Heap:=(zh4 b1 b2 h l1 l2).push {cls:=.type "zip",data:=.fields #[.none,.bool false,.bool false,.ref (zh2 b1 b2 h l1 l2).objs.size,.ref (zh3 b1 b2 h l1 l2).objs.size]}
def Fb(b1 b2:Bool)(l1 l2:Addr)(E ys:Array Value) :
  Meets (Builtin.«zip.__new__» ⟨[.type "zip",.ref l1,.ref l2],[]⟩) (λ_ R s=>SqAt b1 s.heap l1 E/\SqAt b2 s.heap l2 ys/\R (.ok (.ret (.ref (zh4 b1 b2 s.heap l1 l2).objs.size))) {s with heap:=zh5 b1 b2 s.heap l1 l2}) :=
 .of_wp λprog w A R s h=>by
  obtain⟨e,g,d,tk,a⟩:=s;obtain⟨a1,a2,h⟩:=h;have j:=sub_zip;cases b1 <;> cases b2
  .have b1:Heap.IsList (Shared.heap ⟨e,g,d,tk,a⟩) l1 E:=a1;have b2:Heap.IsList (Shared.heap ⟨e.push {cls:=.type "list_iterator",data:=.fields #[.ref l1,.int 0 0]},g,d,tk,a⟩) l2 ys:=Heap.IsList.push a2 _;wp_walk using zcP b1,zcP b2;exact⟨_,rfl,h⟩
  .have b1:Heap.IsList (Shared.heap ⟨e,g,d,tk,a⟩) l1 E:=a1;have b2:Heap.IsTuple (Shared.heap ⟨e.push {cls:=.type "list_iterator",data:=.fields #[.ref l1,.int 0 0]},g,d,tk,a⟩) l2 ys:=Heap.IsTuple.push a2 _;wp_walk using zcP b1,zdN b2;exact⟨_,rfl,h⟩
  .have b1:Heap.IsTuple (Shared.heap ⟨e,g,d,tk,a⟩) l1 E:=a1;have b2:Heap.IsList (Shared.heap ⟨e.push {cls:=.type "tuple_iterator",data:=.fields #[.ref l1,.int 0 0]},g,d,tk,a⟩) l2 ys:=Heap.IsList.push a2 _;wp_walk using zdN b1,zcP b2;exact⟨_,rfl,h⟩
  have b1:Heap.IsTuple (Shared.heap ⟨e,g,d,tk,a⟩) l1 E:=a1;have b2:Heap.IsTuple (Shared.heap ⟨e.push {cls:=.type "tuple_iterator",data:=.fields #[.ref l1,.int 0 0]},g,d,tk,a⟩) l2 ys:=Heap.IsTuple.push a2 _;wp_walk using zdN b1,zdN b2;exact⟨_,rfl,h⟩
def Th{E ys:Array Value}(t1:SqAt b1 s.heap l1 E)(t2:SqAt b2 s.heap l2 ys)(h:∀ g,ZAt b1 b2 g (s.z+4) (s.z+2) (s.z+3) s.z (s.z+1) l1 l2 .none 0->(∀ c o,s.heap.get? c=some o->g.get? c=some o)->Q (.ref (s.z+4)) {s with heap:=g}) :
  wpAny (model P w) A (call (.type "zip") [.ref l1,.ref l2]) Q xs s:=by
 refine callType_new F.called_zip aB (F.typeCall_zip_2 _ _) (F.newCall_zip_2 _ _) (λa=>F.args_object_init_3 a _ _) F.entry_zip_new (Fb b1 b2 l1 l2 E ys) ⟨t1,t2,?_⟩
 have k:(zh1 b1 s.heap l1).objs.size=s.z+1:=zcR ..;have j:(zh2 b1 b2 s.heap l1 l2).objs.size=s.z+2:=by rw[zcR,k]
 have d:(zh3 b1 b2 s.heap l1 l2).objs.size=s.z+3:=by rw[zcR,j]
 have q:(zh4 b1 b2 s.heap l1 l2).objs.size=s.z+4:=by rw[zcR,d]
 have l:(zh5 b1 b2 s.heap l1 l2).get? (zh4 b1 b2 s.heap l1 l2).objs.size=some _:=zad _ rfl;have r:(zh5 b1 b2 s.heap l1 l2).get? (zh3 b1 b2 s.heap l1 l2).objs.size=some _:=zac _ (zad _ rfl);have g3:(zh5 b1 b2 s.heap l1 l2).get? (zh2 b1 b2 s.heap l1 l2).objs.size=some _:=zac _ (zac _ (zad _ rfl));have g2:(zh5 b1 b2 s.heap l1 l2).get? (zh1 b1 s.heap l1).objs.size=some _:=zac _ (zac _ (zac _ (zad _ rfl)));have g1:(zh5 b1 b2 s.heap l1 l2).get? s.z=some _:=zac _ (zac _ (zac _ (zac _ (zad _ rfl))));show _/\_;rw[j,d,q]at l;rw[k,j]at g3;rw[d]at r;rw[k]at g2;rw[q];exact⟨⟨_,l,rfl⟩,h _ ⟨l,g3,⟨_,_,r⟩,(by cases b1 <;> exact⟨_,g1,rfl,rfl⟩),(by cases b2 <;> exact⟨_,g2,rfl,rfl⟩)⟩ λc o e=>zac _ (zac _ (zac _ (zac _ (zac _ e))))⟩
def ItAt.there(x:ItAt b h it l i):∃o,h.get? it=some o/\∀v,o.data≠.cell v:=by
 cases b with
 |true =>
  obtain⟨o,e,c,d⟩:=(show h.IsTupleIter it l i from x);exact⟨o,e,λv q=>by rw[d]at q;cases q⟩
 |false =>
  obtain⟨o,e,c,d⟩:=(show h.IsListIter it l i from x);exact⟨o,e,λv q=>by rw[d]at q;cases q⟩
def SqK(b:Bool)(K:W.Frag)(H:Hp)(l:Addr)(E:List V):Prop:=match b with
 |true=>SqT K H l E
 |false=>SqL K H l E
def Xz(I:Inv X pn G H s)(h:SqK b X.K H l E):∃its,Vals E its/\SqAt b s.heap l its.toArray:=by
 cases b with
 |true =>
  obtain⟨its,r,p,_⟩:=I.tuple h;exact⟨its,r,(show s.heap.IsTuple l its.toArray from p)⟩
 |false =>
  obtain⟨its,r,p,_⟩:=I.list h;exact⟨its,r,p.isList⟩
def Hx(I:Inv X pn G H s)(h:SqK b X.K H l E)(h':SqK b X.K H l ys):E=ys:=by
 cases b with
 |true=>exact I.tuple_inj h h'
 |false=>exact I.list_inj h h'
def u7{l c:Addr}(I:Inv X pn G H s)(h:SqK b X.K H l E)(f:FpOk X pn H c):l≠c:=by
 have d:∀{o:Obj},X.K.lookup l=some o->l≠c:=λ{o} a z=>by
  subst z;have e:=I.ok.mod.kin _ _ a;rcases f.2.2.2.1 with q|q
  .exact I.ok.noex _ _ e q
  exact absurd (zaW (zae e) I.ok.bsz) (Nat.not_lt.mpr q)
 cases b with
 |true =>
  rcases h with(h|⟨o,h⟩)|⟨o,its,n,a,_⟩
  .exact zk h f.1
  .exact zk h f.1
  exact d a
 |false =>
  rcases h with(h|⟨o,h⟩)|⟨o,its,n,a,_⟩
  .exact zk h f.1
  .exact zk h f.1
  exact d a
noncomputable def Itz(b1 b2:Bool)(K:W.Frag)(l1 l2:Addr):It :=
 ⟨λi H=>∃E ys x y,SqK b1 K H l1 E/\SqK b2 K H l2 ys/\E[i]?=some x/\ys[i]?=some y,
  λi H v H'=>∃T x y,H T=none/\v=.ref T/\(∀E,SqK b1 K H l1 E->E[i]?=some x)/\(∀ys,SqK b2 K H l2 ys->ys[i]?=some y)/\H'=upd H T (.tup [x,y]),
  λi H=>∃E ys,SqK b1 K H l1 E/\SqK b2 K H l2 ys/\(E.length<=i\/ys.length<=i)⟩
def Lj{P:Program}{w:World}{K:W.Frag}{es:List Expr}{kk:Nat}{tp:Pos}{b1 b2:Bool}{z ti to i1 i2 l1 l2:Addr}(D:ZNe z ti to i1 i2) :
  Turn P w K (.Tuple es kk tp) (Itz b1 b2 K l1 l2) [z,ti,to,i1,i2] z (λi h=>ZAt b1 b2 h z ti to i1 i2 l1 l2 .none i) where
 mem:=by simp
 obj:=λi h Z b d=>by
  obtain⟨hz,l,⟨u,v,j⟩,h1,h2⟩:=Z;obtain⟨o1,e1,d1⟩:=h1.there;obtain⟨o2,e2,d2⟩:=h2.there;simp only[zam,zaS,zdK]at d;rcases d with rfl|rfl|rfl|rfl|rfl
  .exact⟨_,hz,λv q=>(by cases q)⟩
  .exact⟨_,l,λv q=>(by cases q)⟩
  .exact⟨_,j,λv q=>(by cases q)⟩
  .exact⟨o1,e1,λv q=>d1 v q⟩
  exact⟨o2,e2,λv q=>d2 v q⟩
 keep:=λi h h' Z k=>by
  obtain⟨hz,l,⟨u,v,j⟩,h1,h2⟩:=Z;exact⟨k z aE _ hz,k ti aE _ l,⟨u,v,k to aE _ j⟩,h1.at λo e=>k i1 aE o e,h2.at λo e=>k i2 aE o e⟩
 item:=by
  intro X hP hw hK O i pn s G H xs I J Z hg;subst hP hw hK;obtain⟨E,ys,x,y,e1,e2,B,hy⟩:=hg;obtain⟨a4,r1,g1⟩:=Xz I e1;obtain⟨a0,r2,g2⟩:=Xz I e2;obtain⟨u,hu,ru⟩:=r1.get B;obtain⟨v,hv,rv⟩:=r2.get hy;have N:=J z aE
  have r:=J to aE
  have f1:=J i1 aE
  have V:=J i2 aE
  have L:∀b ho,H b=some ho->ZOff z to i1 i2 b:=λb ho e=>⟨zk e N.1,zk e r.1,zk e f1.1,zk e V.1⟩;refine Wb D ⟨u7 I e1 N,u7 I e1 r,u7 I e1 f1,u7 I e1 V⟩ ⟨u7 I e2 N,u7 I e2 r,u7 I e2 f1,u7 I e2 V⟩ Z g1 g2 (x:=u) (y:=v) (by simpa using hu) (by simpa using hv) λg Z2 pr Q=>?_
  have hn:H s.z=none:=I.fresh;have a:∀b,b∉[z,to,i1,i2]->ZOff z to i1 i2 b:=λb d=>by
   simp only[zam,zaS,zdK,not_or]at d;exact d
  have un:Un (frs X.stack) [z,to,i1,i2] H (upd H s.z (.tup [x,y])) s.heap g :=
   ⟨λb o q _ _ B=>Q b o (a b B) q,λb o q _ _ B=>⟨o.slots,Q b o (a b B) q⟩,λb o q n _=>by rw[y0 (zaL (zae q))];exact n,λb o q B=>⟨o,Q b o (a b B) q⟩,
    λb zs q=>by rw[y0 (zk q hn)];exact q,λb o zs q=>by rw[y0 (zk q hn)];exact q,λb ps q=>⟨#[],by rw[y0 (zk q hn),q];simp⟩⟩
  have hok:HOk X.prog X.w (upd H s.z (.tup [x,y])) g:=λb o e=>by
   by_cases d:b=s.z
   .subst d;rw[zu]at e;cases e;refine⟨by simp only[zLc,zLn];rw[zbC];decide,[u,v],.cons ru (.cons rv .nil),⟨_,pr,rfl,_,rfl⟩,_,pr,rfl⟩
   rw[y0 d]at e;refine(I.hok b o e).stay (λc ob O q=>Q c ob ?_ q) (λc q=>by rw[y0 (zk q hn)];exact q) λc zs q=>by rw[y0 (zk q hn)];exact q
   rcases O with rfl|O
   .exact L _ _ e
   exact L _ _ O
  have I2:Inv X pn G (upd H s.z (.tup [x,y])) {s with heap:=g}:=I.call' (s':={s with heap:=g}) (ch:=[z,to,i1,i2]) rfl un hok I.bare λb d=>by
   have R:b∈[z,ti,to,i1,i2]:=by
    simp only[zam,zaS,zdK]at d ⊢;rcases d with rfl|rfl|rfl|rfl <;> simp
   have q:=J b R;exact⟨q.2.2.2.1,q.2.1,q.2.2.2.2.1,q.2.2.2.2.2⟩
  have M:∀b∈[z,ti,to,i1,i2],upd H s.z (.tup [x,y]) b=none:=λb d=>by
   have lb:b<s.z:=by
    obtain⟨hz,l,⟨u,v,j⟩,h1,h2⟩:=Z;obtain⟨_,q1,_⟩:=h1.there;obtain⟨_,q2,_⟩:=h2.there;simp only[zam,zaS,zdK]at d;rcases d with rfl|rfl|rfl|rfl|rfl
    .exact zae hz
    .exact zae l
    .exact zae j
    .exact zae q1
    exact zae q2
   rw[y0 (zaL lb)];exact(J b d).1
  refine⟨_,rfl,wpAny_letOwnedTupleGo_zip Z2.zz λg2 z3 sb=>?_⟩;refine⟨.ref s.z,_,I2.turned (t':=s.toks) (λb o d e=>sb.extBut b o d e) (M z aE) N.2.1 N.2.2.2.1 N.2.2.2.2.1 N.2.2.2.2.2,rfl,⟨_,x,y,hn,rfl,(λzs q=>by rw[<- Hx I e1 q];exact B),(λzs q=>by rw[<- Hx I e2 q];exact hy),rfl⟩,?_,M⟩
  obtain⟨_,l,⟨u2,v2,j⟩,h1,h2⟩:=Z2;exact⟨z3,sb.extBut _ _ D.ab l,⟨u2,v2,sb.extBut _ _ D.ac j⟩,h1.at λo e=>sb.extBut _ o D.ad e,h2.at λo e=>sb.extBut _ o D.ae e⟩
 done:=by
  intro X hP hw hK O i pn s G H xs I J Z hg;subst hP hw hK;obtain⟨E,ys,e1,e2,a5⟩:=hg;obtain⟨a4,r1,g1⟩:=Xz I e1;obtain⟨a0,r2,g2⟩:=Xz I e2;have N:=J z aE
  have r:=J to aE
  have f1:=J i1 aE
  have V:=J i2 aE
  have L:∀b ho,H b=some ho->ZOff z to i1 i2 b:=λb ho e=>⟨zk e N.1,zk e r.1,zk e f1.1,zk e V.1⟩;have a7:=r1.length;have a6:=r2.length;refine Sv (I.ok.hd O) D ⟨u7 I e1 N,u7 I e1 r,u7 I e1 f1,u7 I e1 V⟩ ⟨u7 I e2 N,u7 I e2 r,u7 I e2 f1,u7 I e2 V⟩ Z g1 g2 ?_ λg Q=>?_
  .rcases a5 with q|q
   .exact .inl (by simp;lia)
   exact .inr (by simp;lia)
  refine⟨rfl,?_⟩;have a:∀b,b∉[z,to,i1,i2]->ZOff z to i1 i2 b:=λb d=>by
   simp only[zam,zaS,zdK,not_or]at d;exact d
  have un:Un (frs X.stack) [z,to,i1,i2] H H s.heap g :=
   ⟨λb o q _ _ B=>Q b o (a b B) q,λb o q _ _ B=>⟨o.slots,Q b o (a b B) q⟩,λb o q n _=>n,λb o q B=>⟨o,Q b o (a b B) q⟩,
    λb zs q=>q,λb o zs q=>q,λb ps q=>⟨#[],by rw[q];simp⟩⟩
  refine I.call' (s':={s with heap:=g}) (ch:=[z,to,i1,i2]) rfl un (λb o e=>(I.hok b o e).stay (λc ob O q=>Q c ob ?_ q) aA λc zs q=>q) I.bare λb d=>?_
  .rcases O with rfl|O
   .exact L _ _ e
   exact L _ _ O
  have R:b∈[z,ti,to,i1,i2]:=by
   simp only[zam,zaS,zdK]at d ⊢;rcases d with rfl|rfl|rfl|rfl <;> simp
  have q:=J b R;exact⟨q.2.2.2.1,q.2.1,q.2.2.2.2.1,q.2.2.2.2.2⟩
 self:=λ_ _ _ _ _ Z h=>wpAny_pyIter_zip Z.zz h
def Vf:bootBuiltins "zip" = some (.type "zip"):=by kernel_rfl
def iZip(K:W.Frag)(ta:TA):TI:=λG H R=>ta G H λvs H1=>∃b1 b2 l1 l2 E ys,vs=[.ref l1,.ref l2]/\SqK b1 K H1 l1 E/\SqK b2 K H1 l2 ys/\R (Itz b1 b2 K l1 l2) H1
def z0g{X:Cx}{es:List Expr}{N:Nat}{B:Pos}{a b:Expr}{ta:TA}{p pos:Pos}(Q:Gl X "zip")(O:X.mg "zip" = none)(W:PA X [a,b] ta)(V:autoParam (starEach [a,b] X.env=(false,eval a X.env)::starEach [b] X.env) zSr)(l:autoParam ((backTo pos (starEach [b] X.env)).any (·.1)=false) zSr):PI X (.Tuple es N B) (.Call (.Name "zip" p) [a,b] [] pos) (iZip X.K ta):=by
 intro pn s G H R I h;refine zbR (sw I Q O Vf ?_ aB aB)
 refine zbB (thn (W pos pn s G H _ I h) λus s1 Zh=>?_) V l;obtain⟨vs,H1,k,r,b1,b2,l1,l2,E,ys,e,e1,e2,q⟩:=Zh;subst e;obtain⟨u,v,rfl,L,J⟩:=Lg r;cases L;cases J;obtain⟨j,r,g1⟩:=Xz k e1;obtain⟨d,r2,g2⟩:=Xz k e2;refine Th (E:=j.toArray) (ys:=d.toArray) g1 g2 λg Z M=>wpAny_pyIter_zip Z.zz ?_;have D:ZNe (s1.z+4) (s1.z+2) (s1.z+3) s1.z (s1.z+1):=by
  constructor <;> (intro z;exact absurd (show(_:Nat)=_ from z) aD)
 refine⟨_,_,_,_,H1,rfl,k.kept (t':=s1.toks) M,Lj D,Z,λb y=>?_,q⟩;have x:s1.z<=b:=by
  simp only[zam,zaS,zdK]at y;rcases y with rfl|rfl|rfl|rfl|rfl
  .exact zdD _ _
  .exact zdD _ _
  .exact zdD _ _
  .exact zaj _
  exact zdD _ _
 exact k.fpOk x (k.hok.fresh x)
structure FlyB(P:Program)(w:World)(outer:List Env)(H:Hp)(h:Heap)(H':Hp)(B:Heap)(h':Heap):Prop where
 un:Un (frs outer) [] H H' h h'
 hok:HOk P w H' h'
 cov:∀b o,h'.get? b=some o->b∉frs outer->(H' b≠none\/∃o0,h.get? b=some o0)->B.get? b=some o
def CX1(P:Program)(w:World):CXT:=λouter H s xs e s'=>∃(a C:Addr)(t:Value)(H':Hp)(B:Heap),e=.ref a/\s'.os=s.os/\AllBare s'.gens/\FlyB P w outer H s.heap H' B s'.heap /\
 Heap.FlyingW B outer a (.ref C) t s'.heap/\xs (.ref C) none H'
noncomputable def sg(t b:Int):Int:=if b<0 then -(Int.gcd t b:Int) else Int.gcd t b
noncomputable def rt(t b:Int):Int×Int:=(t.fdiv (sg t b),b.fdiv (sg t b))
open PySem.Builtin.Int (intBits)
def fdOk{i j:Int}{m:Nat}(h:j≠0)(a:intBits j<=m)(d:m<=8999:=by lia):FdOk i j:=by
 refine⟨h,?_⟩;unfold intBits at a;rw[zaI (by simpa using h)]at a
 lia
def xg{n:Nat}{i:Int}:okD n (.int i)=True:=by cases n <;> rfl
def yt{n:Nat}:okD n (.str i)=True:=by cases n <;> rfl
def Df{n:Nat}(h:0<n):okD n (.tup S)=∀x∈S,okD (n-1) x:=by
 cases n with
 |zero=>lia
 |succ n=>rfl
def bh{a b:Int}:eqD (.int a) (.int b)=(a==b):=rfl
def Xe{a b:Str}:eqD (.str a) (.str b)=(a==b):=rfl
def w1(g:Int->(EV->Prop)->Prop):FT:=λS Y=>match S with
 |[.int a]=>g a Y
 |_=>False
def r2(g:Int->Int->Int->Int->(EV->Prop)->Prop):FT:=λS Y=>match S with
 |[.tup [.int a,.int b],.tup [.int c,.int d]]=>g a b c d Y
 |_=>False
def z4m{x y:Int}(d:intBits x<=3000)(a:intBits y<=3000):IntMulOk x y:=IntMulOk.of_bits (zak d aB) (zak a aB)
def Hj{α:Type}{x:α}{l:List α}:atI (x::l) 0=some x:=by
 rw[show(0:Int)=((0:Nat):Int) from rfl];exact Xr rfl
def z3c{α:Type}{x y:α}{l:List α}:atI (x::y::l) 1=some y:=by
 rw[show(1:Int)=((1:Nat):Int) from rfl];exact Xr rfl
def z5s{α:Type}{x y z:α}{l:List α}:atI (x::y::z::l) 2=some z:=by
 rw[show(2:Int)=((2:Nat):Int) from rfl];exact Xr rfl
variable{κ:Type}[DecidableEq κ]
noncomputable def valV(kvs:List (κ×V))(k:κ):Option V:=(kvs.find? λa=>decide (a.1=k)).map (·.2)
noncomputable def putK(kvs:List (κ×V))(k:κ)(v:V):List (κ×V) :=
 if (kvs.any λa=>decide (a.1=k))=true then kvs.map (λa=>if a.1=k then(a.1,v) else a) else kvs++[(k,v)]
def fg{p:κ×V}{r:List (κ×V)}{k:κ}(e:p.1=k):valV (p::r) k=some p.2:=by simp[valV,zeH,e]
def fh{p:κ×V}{r:List (κ×V)}{k:κ}(e:¬ p.1=k):valV (p::r) k=valV r k:=by simp[valV,zeH,e]
theorem Tj(k:κ):∀kvs:List (κ×V),(kvs.any λa=>decide (a.1=k))=(valV kvs k).isSome
 |[]=>rfl
 |p::r=>by
  rw[zdW];by_cases e:p.1=k
  .simp only[fg e,zdQ e,Bool.true_or,Option.isSome_some]
  rw[fh e,zbS e,Bool.false_or];exact Tj k r
def qz(kvs:List (κ×V))(k:κ)(v:V):(putK kvs k v).length<=kvs.length+1:=by
 unfold putK;split
 .rw[zLm];lia
 rw[zLa,zLc,zLn];lia
def RelO.isSome_eq{o:Option V}{u:Option Value}(r:RelO o u):o.isSome=u.isSome:=by
 cases o with
 |none=>cases u with
  |none=>rfl
  |some _=>exact(show False from r).elim
 |some _=>cases u with
  |none=>exact(show False from r).elim
  |some _=>rfl
theorem RelO.getD{o:Option V}{u:Option Value}{d:V}{d':Value}(r:RelO o u)(a:RelV d d'):RelV (o.getD d) (u.getD d'):=by
 cases o with
 |none=>cases u with
  |none=>exact a
  |some _=>exact(show False from r).elim
 |some _=>cases u with
  |none=>exact(show False from r).elim
  |some _=>exact r
def KV.val{kvs:List (κ×V)}{vs:List (κ×Value)}(r:KV kvs vs)(k:κ):RelO (valV kvs k) (valueAt vs k):=by
 unfold KV at r
 induction r with
 |nil=>exact zcV
 |@cons p q ps qs h t ih =>
  obtain⟨h1,h2⟩:=h;by_cases e:p.1=k
  .have a:q.1=k:=h1.symm.trans e;have b:valueAt (q::qs) k=some q.2:=by simp[valueAt,zeH,a]
   rw[fg e,b];exact h2
  have a:¬ q.1=k:=λz=>e (h1.trans z);have b:valueAt (q::qs) k=valueAt qs k:=by simp[valueAt,zeH,a]
  rw[fh e,b];exact ih
theorem KV.any{kvs:List (κ×V)}{vs:List (κ×Value)}(r:KV kvs vs)(k:κ):(kvs.any λa=>decide (a.1=k))=vs.any λa=>decide (a.1=k):=by
 unfold KV at r
 induction r with
 |nil=>rfl
 |cons h t ih=>rw[zdW,zdW,ih,h.1]
def KV.repl{kvs:List (κ×V)}{vs:List (κ×Value)}(r:KV kvs vs)(k:κ){y:V}{u:Value}(d:RelV y u) :
  KV (kvs.map λa=>if a.1=k then(a.1,y) else a) (vs.map λa=>if a.1=k then(a.1,u) else a):=by
 unfold KV at r ⊢
 induction r with
 |nil=>exact .nil
 |@cons p q ps qs h t ih =>
  rw[zaB,zaB];refine .cons ?_ ih;obtain⟨h1,h2⟩:=h;by_cases e:p.1=k
  .rw[zaK e,zaK (h1.symm.trans e)];exact⟨h1,d⟩
  rw[zaI e,zaI (λz=>e (h1.trans z))];exact⟨h1,h2⟩
def KV.put{kvs:List (κ×V)}{vs:List (κ×Value)}(r:KV kvs vs)(k:κ){y:V}{u:Value}(a:RelV y u):KV (putK kvs k y) (stored vs k u):=by
 unfold putK stored;rw[r.any k];by_cases e:(vs.any λd=>decide (d.1=k))=true
 .rw[zaK e,zaK e];exact r.repl k a
 rw[zaI e,zaI e];exact Paired.snoc r ⟨rfl,a⟩
theorem KV.length{kvs:List (κ×V)}{vs:List (κ×Value)}(r:KV kvs vs):kvs.length=vs.length:=zfW r
def Qk{P:Program}{w:World}{k:Key}{u:Value}(r:RelV (kV k) u):(yq P w).is k u=true:=by
 cases k with
 |inl i=>obtain⟨t,e⟩:=(show ∃t,u=Value.int i t from r);subst e;exact U5 P w i t
 |inr x=>obtain⟨t,e⟩:=(show ∃t,u=Value.str x t from r);subst e;exact ci P w x t
theorem Wh{P:Program}{w:World}:∀{ks:List Key}{us:List Value},Vals (ks.map kV) us->ItemsAre (yq P w) ks us
 |[],_,r=>by rw[zbV]at r;cases r;exact .nil
 |k::ks,_,r=>by
  rw[zaB]at r;cases r with
  |cons h t=>exact .cons (Qk h) (Wh t)
abbrev KT(H:Hp):List (List Key×V)->List (List Key×Addr×Value)->Prop:=Paired λp q=>p.1=q.1/\H q.2.1=some (.tup (p.1.map kV))/\RelV p.2 q.2.2
def KT.val{H:Hp}{kvs:List (List Key×V)}{E:List (List Key×Addr×Value)}(r:KT H kvs E)(k:List Key):RelO (valV kvs k) ((atKey E k).map (·.2)):=by
 induction r with
 |nil=>exact zcV
 |@cons p q ps qs h t ih =>
  obtain⟨h1,_,h2⟩:=h;by_cases e:p.1=k
  .have a:q.1=k:=h1.symm.trans e;have b:atKey (q::qs) k=some q.2:=by simp[atKey,zeH,a]
   rw[fg e,b];exact h2
  have a:¬ q.1=k:=λz=>e (h1.trans z);have b:atKey (q::qs) k=atKey qs k:=by simp[atKey,zeH,a]
  rw[fh e,b];exact ih
def KT.repl{H:Hp}{kvs:List (List Key×V)}{E:List (List Key×Addr×Value)}(r:KT H kvs E)(k:List Key){y:V}{u:Value}(d:RelV y u) :
  KT H (kvs.map λa=>if a.1=k then(a.1,y) else a) (E.map (putAt k u)):=by
 induction r with
 |nil=>exact .nil
 |@cons p q ps qs h t ih =>
  rw[zaB,zaB];refine .cons ?_ ih;obtain⟨h1,h2,g⟩:=h;unfold putAt;by_cases e:p.1=k
  .rw[zaK e,zaK (h1.symm.trans e)];exact⟨h1,h2,d⟩
  rw[zaI e,zaI (λz=>e (h1.trans z))];exact⟨h1,h2,g⟩
def KT.put{H:Hp}{kvs:List (List Key×V)}{E:List (List Key×Addr×Value)}(r:KT H kvs E)(k:List Key){b:Addr}{y:V}{u:Value}(g:H b=some (.tup (k.map kV)))(a:RelV y u) :
  KT H (putK kvs k y) (storedH E k b u):=by
 have e:(kvs.any λd=>decide (d.1=k))=(atKey E k).isSome:=by
  rw[Tj,(r.val k).isSome_eq,Option.isSome_map]
 unfold putK storedH;rw[e];by_cases q:(atKey E k).isSome=true
 .rw[zaK q,zaK q];exact r.repl k a
 rw[zaI q,zaI q];exact Paired.snoc r ⟨rfl,g,a⟩
def KT.keeps{H H':Hp}{kvs:List (List Key×V)}{E:List (List Key×Addr×Value)}(r:KT H kvs E)(a:∀ b ys,H b=some (.tup ys)->H' b=some (.tup ys)):KT H' kvs E :=
 Paired.mapP r λ_ _ z=>⟨z.1,a _ _ z.2.1,z.2.2⟩
def Am{u:HO}(ok:HOk P w H h)(e:Rd H a u):wk P w H h a u:=e.ok ok
def P1{kvs:List (Key×V)}(ok:HOk P w H h)(e:Rd H a (.dK kvs)):kvs.length<=sizeLine/\(a==sysModules)=false/\∃vs,KV kvs vs/\h.DictOf (yq P w) a vs :=
 show wk P w H h a (.dK kvs) from Am ok e
def Hc{kvs:List (Key×V)}(ok:HOk P w H h)(e:H a=some (.dK kvs)):kvs.length<=sizeLine/\(a==sysModules)=false/\∃vs,KV kvs vs/\h.DictOf (yq P w) a vs:=P1 ok (.inl e)
def R5{ks:List Key}(ok:HOk P w H h)(e:H a=some (.tup (ks.map kV))):(tupleKind (yq P w)).is h ks a:=by
 obtain⟨_,its,r,⟨o,h1,h2,n,d⟩,_⟩:=(show wk P w H h a (.tup (ks.map kV)) from ok a _ e);exact⟨o,its.toArray,n,h1,h2,d,by simpa using Wh r⟩
def Mh{kvs:List (List Key×V)}(ok:HOk P w H h)(e:Rd H a (.dT kvs)):kvs.length<=sizeLine/\(a==sysModules)=false /\
  ∃E,KT H kvs E/\h.DictOfH (tupleKind (yq P w)) a E:=by
 obtain⟨z,y,E,r,o,es,ep,h1,h2,k,j,g⟩:=(show wk P w H h a (.dT kvs) from Am ok e);refine⟨z,y,E,r,o,es,ep,h1,h2,k,j,λx d=>?_,g⟩;have all:∀{l:List (List Key×V)}{m:List (List Key×Addr×Value)},KT H l m->∀x∈m,(tupleKind (yq P w)).is h x.1 x.2.1:=by
  intro l m q
  induction q with
  |nil=>intro x d;exact nomatch d
  |@cons p q ps qs hq t ih =>
   intro x d;rcases zam.mp d with e|d
   .subst e;exact R5 ok (by rw[<- hq.1];exact hq.2.1)
   exact ih x d
 exact all r x d
def z5k{kvs:List (List Key×V)}(ok:HOk P w H h)(e:H a=some (.dT kvs)):kvs.length<=sizeLine/\(a==sysModules)=false /\
  ∃E,KT H kvs E/\h.DictOfH (tupleKind (yq P w)) a E:=Mh ok (.inl e)
def DGet(H:Hp)(a:Addr)(y:V)(r:Option V):Prop :=
 (∃kvs k,Rd H a (.dK kvs)/\y=kV k/\r=valV kvs k)\/∃kvs k b,Rd H a (.dT kvs)/\y=.ref b/\H b=some (.tup (k.map kV))/\r=valV kvs k
def DPut(H:Hp)(a:Addr)(y v:V)(H':Hp):Prop :=
 (∃kvs k,H a=some (.dK kvs)/\y=kV k/\kvs.length<sizeLine/\H'=upd H a (.dK (putK kvs k v))) \/
 ∃kvs k b,H a=some (.dT kvs)/\y=.ref b/\H b=some (.tup (k.map kV))/\kvs.length<sizeLine/\H'=upd H a (.dT (putK kvs k v))
def DGet.k{H:Hp}{a:Addr}{kvs:List (Key×V)}{k:Key}(e:H a=some (.dK kvs)):DGet H a (kV k) (valV kvs k):=.inl ⟨kvs,k,.inl e,rfl,rfl⟩
def DGet.t{H:Hp}{a b:Addr}{kvs:List (List Key×V)}{k:List Key}(e:H a=some (.dT kvs))(d:H b=some (.tup (k.map kV))):DGet H a (.ref b) (valV kvs k):=.inr ⟨kvs,k,b,.inl e,rfl,d,rfl⟩
def DPut.k{H:Hp}{a:Addr}{kvs:List (Key×V)}{k:Key}{v:V}(e:H a=some (.dK kvs))(hl:kvs.length<sizeLine):DPut H a (kV k) v (upd H a (.dK (putK kvs k v))):=.inl ⟨kvs,k,e,rfl,hl,rfl⟩
def DPut.t{H:Hp}{a b:Addr}{kvs:List (List Key×V)}{k:List Key}{v:V}(e:H a=some (.dT kvs))(d:H b=some (.tup (k.map kV)))(hl:kvs.length<sizeLine) :
  DPut H a (.ref b) v (upd H a (.dT (putK kvs k v))):=.inr ⟨kvs,k,b,e,rfl,d,hl,rfl⟩
variable{y:V}{u r:Value}{o:Option V}
def Inv.big(I:Inv X pn G H s):sysModules<s.z:=by
 have h:mainGlobals<s.z:=(I.mod.glob.keeps I.bk).lt;exact zfQ aB h
def Mj{Q:Value->Shared->Prop}(hu:A.units+1<cLine)(I:Inv X pn G H s)(g:DGet H a y (some v))(D:RelV y u)(h:∀ q s',Inv X pn G H s'->RelV v q->Q q s') :
  wpAny X.mo A (getItem (.ref a) u) Q xs s:=by
 rcases g with⟨kvs,k,e,B,l⟩|⟨kvs,k,b,e,B,M,l⟩
 .subst B;obtain⟨z,L,vs,j,dd⟩:=P1 I.hok e;obtain⟨q,r,d⟩:=RelO.some_of (v:=v) (o:=valueAt vs k) (by rw[l];exact j.val k)
  exact wpAny_getItem_of (Qk D) dd.mapOf r (h q _ (I.tok _) d)
 subst B;cases (show u=Value.ref b from D);obtain⟨z,L,E,j,dd⟩:=Mh I.hok e;obtain⟨q,r,d⟩:=RelO.some_of (v:=v) (o:=(atKey E k).map (·.2)) (by rw[l];exact j.val k)
 obtain⟨p,J,x⟩:=zar.mp r;refine wpAny_getItem_heap (tupleKind_room_in1 hu) (R5 I.hok M) dd J ?_;rw[x];exact h q _ (I.tok _) d
def d_in{Q:Value->Shared->Prop}(hu:A.units+1<cLine)(I:Inv X pn G H s)(g:DGet H a y o)(v:RelV y u)(h:∀ s',Inv X pn G H s'->Q (.bool o.isSome) s') :
  wpAny X.mo A (compareOp .In u (.ref a)) Q xs s:=by
 rcases g with⟨kvs,k,e,r,l⟩|⟨kvs,k,b,e,r,x,l⟩
 .subst r;obtain⟨z,j,vs,d,dd⟩:=P1 I.hok e;refine wpAny_in_of (Qk v) j dd.mapOf ?_;rw[<- (d.val k).isSome_eq,<- l];exact h _ (I.tok _)
 subst r;cases (show u=Value.ref b from v);obtain⟨z,j,E,d,dd⟩:=Mh I.hok e;refine wpAny_in_heap (tupleKind_room_in1 hu) (R5 I.hok x) j dd ?_;have q:=(d.val k).isSome_eq;rw[Option.isSome_map]at q;rw[<- q,<- l];exact h _ (I.tok _)
def Xk{h':Heap}{t':Nat}{d:HO}(I:Inv X pn G H s)(j:Mut (H a))(k:Heap.SameBut a s.heap h')(l:∃ q,h'.get? a=some q)(g:wk X.prog X.w (upd H a d) h' a d) :
  Inv X pn G (upd H a d) {s with heap:=h',toks:=t'} :=
 I.write (x:=a) (e:=a) j (.inl rfl) (λb q r z=>(k.2 b r).trans z) l g
def V7{P:Program}{w:World}{H':Hp}{h':Heap}{kvs:List (Key×V)}{vs:List (Key×Value)}(z:kvs.length<=sizeLine)(e:(a==sysModules)=false)(d:KV kvs vs)(dd:h'.DictOf (yq P w) a vs) :
  wk P w H' h' a (.dK kvs):=⟨z,e,vs,d,dd⟩
def Mi{H':Hp}{Q:Unit->Shared->Prop}(hu:A.units+1<cLine)(I:Inv X pn G H s)(g:DPut H a y v H')(N:RelV y u)(O:RelV v r)(h:∀ s',Inv X pn G H' s'->Q () s') :
  wpAny X.mo A (setItem (.ref a) u r) Q xs s:=by
 rcases g with⟨kvs,k,e,L,l,M⟩|⟨kvs,k,b,e,L,V,l,M⟩
 .subst L M;obtain⟨z,J,vs,d,dd⟩:=Hc I.hok e;have B:vs.length<=sizeLine:=by rw[<- d.length];exact z
  have hl:(putK kvs k v).length<=sizeLine:=by have:=qz kvs k v;lia
  refine wpAny_setItem_pairs (hsz:=B) (Qk N) dd λh' j D=>h _ ?_;have W:∃q,h'.get? a=some q:=by obtain⟨q,_,_,x,_⟩:=j;exact ⟨q,x⟩
  exact Xk I (by rw[e];exact zcV) D W (V7 hl J (d.put k O) j)
 subst L M;cases (show u=Value.ref b from N);obtain⟨z,J,E,d,dd⟩:=z5k I.hok e;have B:E.length<=sizeLine:=by rw[<- zfW d];exact z
 have hl:(putK kvs k v).length<=sizeLine:=by have:=qz kvs k v;lia
 refine wpAny_setItem_heap (hsz:=B) (tupleKind_room_in1 hu) (R5 I.hok V) dd λh' j D=>h _ ?_;obtain⟨q,es,ep,x,h2,h3,h4,_,Z⟩:=j;refine Xk I (by rw[e];exact zcV) D ⟨q,x⟩ ⟨hl,J,_,(d.put k V O).keeps λc ys R=>?_,q,es,ep,x,h2,h3,h4,Z⟩
 rw[y0 (z4l R e nofun)];exact R
variable{kvs:List (Key×V)}
def z5l{Q:Value->Shared->Prop}(I:Inv X pn G H s)(e:Rd H a (.dK kvs))(h:∀ t s',Inv X pn G H s'->Q (.int kvs.length t) s'):wpAny X.mo A (call (.builtin "len") [.ref a]) Q xs s:=by
 obtain⟨z,g,vs,d,dd⟩:=P1 I.hok e;refine call_len_dict g dd (by rw[<- d.length];rw[zbC]at z;lia) ?_
 rw[<- d.length];exact h _ _ (I.tok _)
def T5{X:Cx}{pn:List (Addr×Obj)}{G:St}{H:Hp}{s:Shared}{a:Addr}{y:V}{o:Option V}(I:Inv X pn G H s)(g:DGet H a y o):s.TypeIs (.ref a) "dict":=by
 rcases g with⟨kvs,k,e,_,_⟩|⟨kvs,k,b,e,_,_,_⟩
 .obtain⟨_,_,vs,_,dd⟩:=P1 I.hok e;exact dd.typeIs
 obtain⟨_,_,E,_,dd⟩:=Mh I.hok e;exact dd.typeIs
def z3z(td ty tv:TE):TS:=λD G H=>tv G H λv H1=>td G H1 λx H2=>ty G H2 λy d=>∃a H4,x=.ref a/\DPut d a y v H4/\D.nx G H4
section
variable{o i value:Expr}{pos pos':Pos}{td ty tv:TE}
def Eo(hu:X.A.units+1<cLine)(ho:PE X o td)(hi:PE X i ty)(z:PE X value tv)(B:swapsWith value (some (.Subscript o i pos')) pos.line X.env=pure false) :
  PS X (.Assign [.Subscript o i pos'] value pos) (z3z td ty tv):=by
 intro pn s G H D I h;refine wpAny_Assign_Subscript (thn (z pn s G H _ I h) λr s1 ⟨v,H1,N,j,q⟩=>thn (ho pn s1 G H1 _ N q) λu s2 ⟨x,H2,M,e,l⟩=>thn (hi pn s2 G H2 _ M l) λV R Zh=>?_) B;obtain⟨y,W,L,d,a,O,ex,g,k⟩:=Zh;subst ex;obtain rfl:u=Value.ref a:=e;exact Mi hu L g d j λQ J=>⟨G,O,J,k⟩
end
def Ro{P:Program}{w:World}{H:Hp}(h:Heap)(a:sysModules<h.objs.size):wk P w H (h.push {cls:=.type "dict",data:=.dict #[]}) h.objs.size (.dK []) :=
 ⟨zbW _,zbN.mpr (Ne.symm (zaL a)),[],.nil,Heap.DictOf.new h⟩
def Br:TE:=λ_ H Q=>∀p,H p=none->Q (.ref p) (upd H p (.dK []))
section
variable{pos:Pos}
def Ko:PE X (.Dict [] [] pos) Br:=λpn s G H Q I h =>
 wpAny_Dict_empty ⟨.ref s.z,_,I.laid (a:=s.z) (o:=.dK []) (t':=s.toks) (λ_ _ q=>zac _ q) (zaj _) (Ro s.heap I.big),rfl,h _ (I.hok.fresh (zaj _))⟩
end
def Pm:List (TE×TE)->St->Hp->(List (V×V)->Hp->Prop)->Prop
 |[],_,H,Q=>Q [] H
 |(tk,tv)::r,G,H,Q=>tk G H λx H1=>tv G H1 λy H2=>Pm r G H2 λps a=>Q ((x,y)::ps) a
abbrev VV:List (V×V)->List (Value×Value)->Prop:=Paired λp q=>RelV p.1 q.1/\RelV p.2 q.2
def PPs(X:Cx)(pos:Pos)(d:List (Option Expr))(a:List Expr)(e:List (TE×TE)):Prop :=
 ∀(pn:List (Addr×Obj))(s:Shared)(G:St)(H:Hp)(Q:List (V×V)->Hp->Prop),Inv X pn G H s->Pm e G H Q ->
  wpAny X.mo X.A (evalPairs (pairTrees d a X.env pos)) (λvs s'=>∃ps H',Inv X pn G H' s'/\VV ps vs/\Q ps H') X.xe s
def Od{X:Cx}{pos:Pos}:PPs X pos [] [] []:=λpn s G H Q I h=>pairTrees_nil_walk ⟨[],H,I,.nil,h⟩
def ki{X:Cx}{pos:Pos}{k v:Expr}{ks:List (Option Expr)}{vs:List Expr}{tk tv:TE}{a:List (TE×TE)}(z:PE X k tk)(r:PE X v tv)(hr:PPs X pos ks vs a) :
  PPs X pos (some k::ks) (v::vs) ((tk,tv)::a):=λpn s G H Q I h =>
 pairTrees_cons_walk (thn (z pn s G H _ I h) λu s1 ⟨x,H1,J,g,q⟩=>thn (r pn s1 G H1 _ J q) λM s2 ⟨y,H2,D,e,l⟩ =>
  thn (hr pn s2 G H2 _ D l) λws N ⟨ps,L,B,d,j⟩=>⟨(x,y)::ps,L,B,.cons ⟨g,e⟩ d,j⟩)
noncomputable def kn(kvs more:List (Key×V)):List (Key×V):=more.foldl (λa d=>putK a d.1 d.2) kvs
def KV.merge:∀{more:List (Key×V)}{rs:List (Key×Value)}{kvs:List (Key×V)}{vs:List (Key×Value)},KV more rs->KV kvs vs->KV (kn kvs more) (merged vs rs):=by
 intro more rs kvs vs r;unfold KV at r
 induction r generalizing kvs vs with
 |nil=>intro q;exact q
 |@cons p q ps qs h t ih =>
  intro a;have e:KV (putK kvs p.1 p.2) (stored vs q.1 q.2):=by
   have:=a.put p.1 h.2;rw[<- h.1];exact this
  exact ih e
theorem ky:∀(more kvs:List (Key×V)),(kn kvs more).length<=kvs.length+more.length
 |[],kvs=>by show kvs.length<=kvs.length+0;lia
 |p::r,kvs=>by
  have h1:=ky r (putK kvs p.1 p.2);have h2:=qz kvs p.1 p.2;show(kn (putK kvs p.1 p.2) r).length<=_;rw[zLc];lia
theorem Y1{P:Program}{w:World}:∀{kvs:List (Key×V)}{ws:List (Value×Value)},VV (kvs.map λd=>(kV d.1,d.2)) ws->∃rs,Carries (yq P w) ws rs/\KV kvs rs
 |[],_,r=>by rw[zbV]at r;cases r;exact⟨[],zcV,.nil⟩
 |p::kvs,_,r=>by
  rw[zaB]at r;cases r with
  |@cons a b as bs h t =>
   obtain⟨rs,c,q⟩:=Y1 (P:=P) (w:=w) t;obtain⟨b1,b2⟩:=b;exact⟨(p.1,b2)::rs,⟨Qk h.1,rfl,c⟩,.cons ⟨rfl,h.2⟩ q⟩
def z3u(a:List (TE×TE)):TE:=λG H Q=>∀p,H p=none->Pm a G (upd H p (.dK [])) λps H2=>H2 p=some (.dK [])/\∃kvs:List (Key×V),ps=kvs.map (λd=>(kV d.1,d.2))/\kvs.length<=15/\Q (.ref p) (upd H2 p (.dK (kn [] kvs)))
def On{X:Cx}{pos:Pos}{d:List (Option Expr)}{g:List Expr}{j:List (TE×TE)}(h:PPs X pos d g j)(k:d.all (·.isSome)=true)(hl:d.length=g.length)(h0:d≠[])(u:d.length<=15):PE X (.Dict d g pos) (z3u j):=by
 intro pn s G H Q I q;have M:=I.hok.fresh (zaj s.z);have R:=I.laid (a:=s.z) (o:=.dK []) (h':=s.heap.push {cls:=.type "dict",data:=.dict #[]}) (t':=s.toks) (λ_ _ q=>zac _ q) (zaj _) (Ro s.heap I.big);refine wpAny_Dict_walk (knd:=yq X.prog X.w) k hl h0 u (thn (h pn _ G _ _ R (q _ M)) λws s2 Zh=>?_);obtain⟨ps,H2,v,r,e,kvs,ep,V,D⟩:=Zh;subst ep;obtain⟨rs,c,y⟩:=Y1 (P:=X.prog) (w:=X.w) r;obtain⟨z,O,x,B,dd⟩:=Hc v.hok e;cases B;refine⟨rs,c,dd,λh' l L=>⟨.ref s.z,_,?_,rfl,D⟩⟩;have J:(kn [] kvs).length<=sizeLine:=by
  have h1:=ky kvs [];rw[zLn]at h1;rw[zbC];lia
 have N:∃q,h'.get? s.z=some q:=by obtain⟨q,_,_,hq,_⟩:=l;exact ⟨q,hq⟩
 exact Xk v (by rw[e];exact zcV) L N (V7 J O (y.merge .nil) l)
structure M1(X:Cx)(o:Expr)(m:Str)(apos:Pos)(e:Expr)(cpos:Pos):Prop where
 base:attributeBase o m X.env (eval o X.env)=eval o X.env
 few:((backTo cpos (starEach [e] X.env)).all (λx=>!x.1)&&(backToKw cpos (keywordEach [] X.env)).all (λx=>x.1.isSome)
  && decide (([e]:List Expr).length+([]:List Keyword).length+(if ([]:List Keyword).isEmpty then 0 else 1)<30))=true
 line:(apos.endLine==cpos.line)=true
 trees:backTo cpos (starEach [e] X.env)=[(false,eval e X.env)]
def IsD(H:Hp)(a:Addr):Prop:=(∃kvs,Rd H a (.dK kvs))\/∃kvs,Rd H a (.dT kvs)
def z2a{X:Cx}{pn:List (Addr×Obj)}{G:St}{H:Hp}{s:Shared}{a:Addr}(I:Inv X pn G H s)(d:IsD H a) :
  s.TypeIs (.ref a) "dict"/\(∀b,Value.ref a=.ref b->∃g,s.heap.get? b=some g/\g.dict=none)/\(a==sysModules)=false:=by
 rcases d with⟨kvs,e⟩|⟨kvs,e⟩
 .obtain⟨_,j,vs,_,dd⟩:=P1 I.hok e;refine⟨dd.typeIs,λb q=>?_,j⟩;cases q;obtain⟨g,_,_,h1,h2,_⟩:=dd;exact⟨g,h1,h2.2.1⟩
 obtain⟨_,j,E,_,dd⟩:=Mh I.hok e;refine⟨dd.typeIs,λb q=>?_,j⟩;cases q;obtain⟨g,_,_,h1,h2,_⟩:=dd;exact⟨g,h1,h2.2.1⟩
def Mw:ui X (.builtin "len") (λE H Q=>∃a kvs,E=[V.ref a]/\H a=some (.dK kvs)/\Q (.int kvs.length) H):=by
 intro pn s G H E us Q I r h;obtain⟨a,kvs,rfl,e,q⟩:=h;obtain⟨u,rfl,d⟩:=sj r;cases d;exact z5l I (.inl e) λt s' g=>⟨.int kvs.length,H,g,⟨t,rfl⟩,q⟩
instance decMemKey (k:Key) (ks:List Key):Decidable (k∈ks):=decidable_of_iff (ks.any (λx=>decide (x=k))=true) aE
variable{α:Type}
noncomputable def ue:List Key->List α->Key->Option α
 |k'::ks,d::S,k=>if k'=k then some d else ue ks S k
 |_,_,_=>none
noncomputable def kput(ks:List Key)(k:Key):List Key:=if k∈ks then ks else ks++[k]
noncomputable def dput:List Key->List α->Key->α->List α
 |k'::ks,d'::S,k,d=>if k'=k then d::S else d'::dput ks S k d
 |_,_,_,d=>[d]
theorem Y7:∀(ks:List Key)(E:List V)(k:Key),valV (ks.zip E) k=ue ks E k
 |[],E,k=>by cases E <;> rfl
 |k'::ks,[],k=>rfl
 |k'::ks,x::E,k=>by
  rw[zaM,ue];by_cases e:k'=k
  .rw[zaK e,fg (by exact e)]
  rw[zaI e,fh (by exact e),Y7 ks E k]
theorem jy{α:Type}:∀{ks:List Key}{E:List α}{k:Key},ks.length=E.length->(ue ks E k=none ↔ k∉ks)
 |[],E,k,h=>by cases E <;> simp[ue] at *
 |k'::ks,[],k,h=>by simp at h
 |k'::ks,x::E,k,h=>by
  rw[ue];by_cases e:k'=k
  .simp[e]
  rw[zaI e,jy (by simpa using h)]
  simp[e,Ne.symm e]
theorem N3:∀(ks:List Key)(E:List V)(k:Key)(v:V),k∉ks->(ks.zip E).map (λa=>if a.1=k then(a.1,v) else a)=ks.zip E
 |[],E,k,v,_=>by cases E <;> rfl
 |k'::ks,[],k,v,_=>rfl
 |k'::ks,x::E,k,v,h=>by
  rw[zaM,zaB,N3 ks E k v λz=>h (zal _ z)];rw[zaI (by intro z;exact h (zam.mpr (.inl z.symm)))]
theorem Tc:∀{ks:List Key}{E:List V}{k:Key},ks.length=E.length->(((ks.zip E).any λa=>decide (a.1=k))=true ↔ k∈ks)
 |[],E,k,h=>by cases E <;> simp at *
 |k'::ks,[],k,h=>by simp at h
 |k'::ks,x::E,k,h=>by
  rw[zaM,zdW,Bool.or_eq_true,Tc (by simpa using h)]
  simp[eq_comm]
theorem Gk:∀{ks:List Key}{E:List V}{k:Key}{v:V},ks.Nodup->ks.length=E.length->k∈ks->(ks.zip E).map (λa=>if a.1=k then(a.1,v) else a)=ks.zip (dput ks E k v)
 |[],_,_,_,_,_,h=>by cases h
 |k'::ks,[],_,_,_,h,_=>by simp at h
 |k'::ks,x::E,k,v,nd,hl,h=>by
  obtain⟨g,d⟩:=zaQ.mp nd;rw[zaM,zaB,dput];by_cases e:k'=k
  .subst e;rw[zaK rfl,zaK rfl,N3 ks E k' v g,zaM]
  rw[zaI e,zaI e,zaM,Gk d (by simpa using hl) ((zam.mp h).resolve_left (Ne.symm e))]
theorem jo{α:Type}:∀{ks:List Key}{E:List α}{k:Key}{v:α},ks.length=E.length->k∉ks->dput ks E k v=E++[v]
 |[],E,k,v,h,_=>by
  cases E with
  |nil=>rfl
  |cons=>simp at h
 |k'::ks,[],_,_,h,_=>by simp at h
 |k'::ks,x::E,k,v,h,hn=>by
  rw[dput,zaI (λz=>hn (zam.mpr (.inl z.symm))),jo (by simpa using h) λz=>hn (zal _ z)]
  rfl
def K9(a:ks.Nodup)(hl:ks.length=E.length):putK (ks.zip E) k v=(kput ks k).zip (dput ks E k v):=by
 unfold putK kput;by_cases h:k∈ks
 .rw[zaK ((Tc hl).mpr h),zaK h,Gk a hl h]
 rw[zaI (λz=>h ((Tc hl).mp z)),zaI h,jo hl h,List.zip_append hl];rfl
def Hb{α:Type}:∀{ks:List Key}{E:List α}{k:Key}{v:α},ks.length=E.length->(kput ks k).length=(dput ks E k v).length:=λ{ks E k v} h=>by
 by_cases hk:k∈ks
 .unfold kput;rw[zaK hk]
  induction ks generalizing E with
  |nil=>cases hk
  |cons k' ks ih =>
   cases E with
   |nil=>simp at h
   |cons x E =>
    rw[dput];by_cases e:k'=k
    .rw[zaK e];simpa using h
    rw[zaI e];have:=ih (E:=E) (by simpa using h) ((zam.mp hk).resolve_left (Ne.symm e))
    simp[this]
 rw[jo h hk];unfold kput;rw[zaI hk];simp[h]
def Qj(d:ks.Nodup):(kput ks k).Nodup:=by
 unfold kput;split
 .exact d
 rename_i h;exact zaO.mpr ⟨d,by simp,by intro a j b g e;simp at g;subst g;exact h (e▸j)⟩
theorem W3:∀{ks:List Key}{S:List D}{E:List V}{k:Key},Reps K H O S E->(∀d,ue ks S k=some d->∃v,ue ks E k=some v/\Rep K H O d v)/\(ue ks S k=none->ue ks E k=none)
 |[],S,E,k,r=>⟨(λd h=>by cases S <;> cases h),(λ_=>by cases E <;> rfl)⟩
 |k'::ks,[],E,k,r=>by
  cases r
  exact⟨(λd h=>by cases h),λ_=>rfl⟩
 |k'::ks,d'::S,E,k,r=>by
  obtain⟨v,ws,rfl,q,t⟩:=r;rw[ue,ue];by_cases e:k'=k
  .rw[zaK e,zaK e];exact⟨(λd h=>by cases h;exact⟨v,rfl,q⟩),(λh=>by cases h)⟩
  rw[zaI e,zaI e];exact W3 t
theorem W4:∀{ks:List Key}{S:List D}{E:List V}{k:Key}{d:D}{v:V},Reps K H O S E->Rep K H O d v->Reps K H O (dput ks S k d) (dput ks E k v)
 |[],S,E,k,d,v,r,q=>by
  have e1:dput ([]:List Key) S k d=[d]:=by cases S <;> rfl
  have e2:dput ([]:List Key) E k v=[v]:=by cases E <;> rfl
  rw[e1,e2];exact zp.one q
 |k'::ks,[],E,k,d,v,r,q=>by
  cases r
  exact zp.one q
 |k'::ks,d'::S,E,k,d,v,r,q=>by
  obtain⟨a,ws,rfl,g,t⟩:=r;rw[dput,dput];by_cases e:k'=k
  .rw[zaK e,zaK e];exact⟨v,ws,rfl,q,t⟩
  rw[zaI e,zaI e];exact⟨a,_,rfl,g,W4 t q⟩
noncomputable def keyD:D->Option Key
 |.int i=>some (.inl i)
 |.str x=>some (.inr x)
 |_=>none
def Yu{K:W.Frag}{H:Hp}{O:List Addr}{d:D}{v:V}{k:Key}(h:View K H O d v)(e:keyD d=some k):v=kV k:=by
 cases d with
 |int i=>cases e;exact h
 |str i=>cases e;exact h
 |_=>cases e
section
variable{a b e o:Expr}{ta tb td:TD}{t:TDs}{pos:Pos}
def qj:ED L X (.Dict [] [] pos) (λ_ Y=>Y (df (.dk [] []))):=λH_=>impE Ko λG H Q q=>by
 obtain⟨U,o,R,Y,a,k⟩:=q;intro p d;exact k (.ref p) (df (.dk [] [])) _ (ye d _) ⟨p,rfl,d,R.ofree d,[],zu,rfl,zcX,rfl⟩ a
def Gg(hu:X.A.units+1<cLine):OpR X (compareOp .In) (λx y H Q=>∃a kvs k,y=.ref a/\H a=some (.dK kvs)/\x=kV k/\Q (.bl (valV kvs k).isSome) H):=by
 intro pn s G H x y v u Q I e d h;obtain⟨a,kvs,k,rfl,g,rfl,q⟩:=h;cases d;exact d_in hu I (DGet.k g) e λs' j=>⟨.bl _,H,j,rfl,q⟩
def Uk{α:Type}{ks:List Key}{E:List α}(h:ks.length=E.length):(ue ks E k).isSome=decide (k∈ks):=by
 by_cases hk:k∈ks
 .rw[zdQ hk];cases e:ue ks E k with
  |none=>exact absurd hk ((jy h).mp e)
  |some _=>rfl
 rw[zbS hk,(jy h).mpr hk];rfl
noncomputable def X8:D->Bool
 |.non=>true
 |.bl _=>true
 |.int _=>true
 |.str _=>true
 |_=>false
noncomputable def inD(x:D)(l:List D):Bool:=l.any λy=>eqD y x
def sIn(a:Bool):D->D->(EV->Prop)->Prop:=λx y Y=>match y with
 |.dk ks _=>(match keyD x with|some k=>Y (dv (.bl (if a then !decide (k∈ks) else decide (k∈ks))))|none=>False)
 |.lst l=>X8 x=true/\l.all X8=true/\Y (dv (.bl (if a then !inD x l else inD x l)))
 |.tup l=>X8 x=true/\l.all X8=true/\Y (dv (.bl (if a then !inD x l else inD x l)))
 |.str z=>(match x with|.str p=>Y (dv (.bl (if a then !(!(Builtin.Str.occurrences z p 0 z.length 1).isEmpty) else !(Builtin.Str.occurrences z p 0 z.length 1).isEmpty)))|_=>False)
 |_=>False
def cy{K:W.Frag}{H:Hp}{O:List Addr}{d:D}{v:V}(h:View K H O d v)(f:X8 d=true):Z4 v=true/\∀(e:D)(w:V),View K H O e w->X8 e=true->eqV v w=eqD d e:=by
 cases d with
 |non=>cases (show v=_ from h);exact⟨rfl,λe w a g=>by cases e <;> first|(cases (show w=_ from a);rfl)|cases g⟩
 |bl b=>cases (show v=_ from h);exact⟨rfl,λe w a g=>by cases e <;> first|(cases (show w=_ from a);rfl)|cases g⟩
 |int b=>cases (show v=_ from h);exact⟨rfl,λe w a g=>by cases e <;> first|(cases (show w=_ from a);rfl)|cases g⟩
 |str b=>cases (show v=_ from h);exact⟨rfl,λe w a g=>by cases e <;> first|(cases (show w=_ from a);rfl)|cases g⟩
 |_=>cases f
theorem Um{K:W.Frag}{H:Hp}{O:List Addr}{x:D}{v:V}(a:View K H O x v)(e:X8 x=true):∀{l:List D}{E:List V},Reps K H O l E->l.all X8=true->E.all Z4=true/\inV v E=inD x l
 |[],_,r,_=>by cases r;exact⟨rfl,rfl⟩
 |d::l,E,r,f=>by
  obtain⟨w,ws,rfl,q,t⟩:=r;rw[zeZ,zcL]at f;obtain⟨i1,i2⟩:=Um a e t f.2;obtain⟨g1,g2⟩:=cy q.view f.1;refine⟨by rw[zeZ,g1,i1];rfl,?_⟩
  unfold inV inD at *;rw[zdW,zdW,i2,g2 x v a e]
def N6{K:W.Frag}{d:Bool}:gf K (λx y H Q=>(∃a kvs k,y=.ref a/\H a=some (.dK kvs)/\x=kV k/\Q (.bl (if d then !(valV kvs k).isSome else(valV kvs k).isSome)) H)\/rIn K d x y H Q\/∃i j,x=.str i/\y=.str j/\Q (.bl (if d then !(!(Builtin.Str.occurrences j i 0 j.length 1).isEmpty) else !(Builtin.Str.occurrences j i 0 j.length 1).isEmpty)) H) (sIn d):=by
 intro H O x y G D Y Q ho e u h k;unfold sIn at h;split at h
 .split at h
  .rename_i ks S z B;obtain⟨a,E,rfl,q,l,I,r⟩:=u;refine .inl ⟨a,_,z,rfl,q,Yu e B,?_⟩;rw[Y7,Uk (by rw[l,r.length])]
   exact k _ _ H (Same.refl H) aH h
  exact h.elim
 .obtain⟨g,v,h⟩:=h;obtain⟨a,E,rfl,q,r⟩:=u;obtain⟨g1,g2⟩:=Um e g r v;refine .inr (.inl ⟨a,E,rfl,.inl (SqL.of q),(cy e g).1,g1,?_⟩);rw[g2];exact k _ _ H (Same.refl H) aH h
 .obtain⟨g,v,h⟩:=h;obtain⟨a,E,rfl,q,r⟩:=u;obtain⟨g1,g2⟩:=Um e g r v;refine .inr (.inl ⟨a,E,rfl,.inr q.1,(cy e g).1,g1,?_⟩);rw[g2];exact k _ _ H (Same.refl H) aH h
 .split at h
  .exact .inr (.inr ⟨_,_,e,u,k _ _ H (Same.refl H) aH h⟩)
  exact h.elim
 exact h.elim
def z5i(hu:X.A.units+64<cLine)(g:ED L X a ta)(e:ED L X b tb)(d:behindInMarks .In b=false:=by with_unfolding_all rfl):ED L X (.Compare a [.In] [b] pos) (d2 (sIn false) ta tb):=Zw ((Gg aD).or (W9.or W8)) N6 g e d
def z2l(hu:X.A.units+64<cLine)(g:ED L X a ta)(e:ED L X b tb)(d:behindInMarks .In b=false:=by with_unfolding_all rfl):ET L X (.Compare a [.In] [b] pos) (tBo (d2 (sIn false) ta tb)):=jg ((Gg aD).or (W9.or W8)) N6 g e d
def sIxx:D->D->(EV->Prop)->Prop:=λx y Y=>match x with
 | .dk ks S=>(match keyD y with
  | some k=>(match ue ks S k with
   |some d=>Y (dv d)
   | none=>False)
  | none=>False)
 |x=>sIx1 x y Y
def U7(hu:X.A.units+1<cLine):IxR X (λx y H Q=>∃a kvs k v,x=.ref a/\H a=some (.dK kvs)/\y=kV k/\valV kvs k=some v/\Q v H):=by
 intro value d pn s G H x y v u Q I r l h z;obtain⟨a,kvs,k,w,rfl,B,rfl,e,q⟩:=h;cases r;have g:DGet H a (kV k) (some w):=by rw[<- e];exact DGet.k B
 exact tail_any (T5 I g) PySem.F.slot_dict_getitem.lookup (Mj hu I g l λJ s' D j=>⟨w,H,D,j,q⟩) z
def Ky:gf X.K (λx y H Q=>rIx X.K x y H Q\/∃a kvs k v,x=.ref a/\H a=some (.dK kvs)/\y=kV k/\valV kvs k=some v/\Q v H) sIxx:=by
 intro H O x y z u Y Q ho j g h k;cases x with
 |dk ks S =>
  obtain⟨a,E,rfl,q,l,J,r⟩:=j;unfold sIxx at h
  dsimp only at h
  split at h
  .rename_i e G;split at h
   .rename_i d I;obtain⟨v,D,B⟩:=(W3 (ks:=ks) (k:=e) r).1 d I;exact .inr ⟨a,_,e,v,rfl,q,Yu g G,by rw[Y7];exact D,k _ _ H (Same.refl H) (RV.val B) h⟩
   exact h.elim
  exact h.elim
 |_=>exact .inl (Do H O _ y z u Y Q ho j g h k)
def zg(hu:X.A.units+64<cLine)(g:ED L X a ta)(e:ED L X b tb)(d:autoParam (gd b) zSj):ED L X (.Subscript a b pos) (d2 sIxx ta tb):=λH_=>impE (c4 (Gs.or (U7 aD)) (g H_) (e H_) d) (J3 Ky)
end
local macro_rules|`(tactic| walk_at "r")=>`(tactic| first|exact zc|exact zf|exact zb|exact vh|exact k9|exact ug|exact z9 0|exact z9 1|exact z9 2|exact z9 3|exact z9 4|exact z9 5|exact z9 6|exact z9 7|exact z9 8|exact z9 9|exact z9 10|exact z9 11|exact z9 12|exact z9 13|exact z9 14|exact z9 15|exact z9 16|exact z9 17|exact z9 18|(refine' za ?_ ?_ <;> try walk_at "r"; done)|(refine' yx ?_ ?_ <;> try walk_at "r"; done)|(refine' jm ?_ ?_ <;> try walk_at "r"; done)|(refine' zg $(Lean.mkIdent `hu) ?_ ?_ <;> try walk_at "r"; done)|(refine' w8 $(Lean.mkIdent `X.T.len) ?_ <;> try walk_at "r"; done)|(refine' ym ?_ <;> try walk_at "r"; done)|(refine' x6 ?_ ?_ <;> try walk_at "r"; done)|(refine' jk ?_ ?_ <;> try walk_at "r"; done)|(refine' xa ?_ ?_ ?_ <;> try walk_at "r"; done)|(refine' gu ?_ ?_ <;> try walk_at "r"; done)|(refine' zh ?_ <;> try walk_at "r"; done)|(refine' yz ?_ <;> try walk_at "r"; done)|(refine' xp $(Lean.mkIdent `hu) ?_ ?_ <;> try walk_at "r"; done)|(refine' Uz ?_ ?_ <;> try walk_at "r"; done)|(refine' Qv ?_ ?_ <;> try walk_at "r"; done)|(refine' V0 $(Lean.mkIdent `hu) ?_ ?_ <;> try walk_at "r"; done)|(refine' Wz ?_ ?_ <;> try walk_at "r"; done)|(refine' Xd ?_ <;> try walk_at "r"; done)|(refine' Z7 ?_ ?_ <;> try walk_at "r"; done)|(refine' b9 ?_ <;> try walk_at "r"; done)|(refine' EW.et ?_ <;> try walk_at "r"; done))
def aR{p:Prop}(h:p:=by walk_at "r"):p:=h
section
variable{x:Str}{e ke:Expr}{te tk:TD}{np pos pos':Pos}
def dh(i:Nat)(tk te:TD):TDS:=λU Z=>match slot U i with
 | some ⟨.own,.dk ks S⟩=>te U λr=>tk U λa=>(nw r)/\S.length<=100000/\(match keyD a.d with
  |some k=>Z.nx (setS U i (dO (.dk (kput ks k) (dput ks S k r.d))))
  | none=>False)
 |_=>False
def jt(i:Nat)(hu:X.A.units+64<cLine)(J:ED L X ke tk)(he:ED L X e te)(hN:autoParam (X.N[i]?=some x) zSr)(hv:autoParam (Vis X.env.scope x) zSo)(hd:autoParam (D_ x) zSd)(M:autoParam ((x==("__classdict__" : Str))=false) zSd)(hs:autoParam (swapsWith e (some (.Subscript (.Name x np) ke pos')) pos.line X.env=pure false) zSr):SD L X (.Assign [.Subscript (.Name x np) ke pos'] e pos) (dh i tk te):=λH_ =>
 impS (Eo aD (uq hN hv hd M) (J H_) (he H_) hs) λD G H h=>by
  obtain⟨U,o,R,Z,q,k1,k2,k3,k4⟩:=h;unfold dh at q;split at q
  .rename_i ks S es;obtain⟨v0,l,q0⟩:=R.slots i _ (xu es);rcases q0 with⟨k,_⟩|⟨_,a,rfl,m,c⟩
   .cases k
   obtain⟨E,hx,hl,Q,y⟩:=c;refine⟨U,o,R,_,q,λv r H1 s1 W h1=>⟨.ref a,l,U,o,R.to s1,_,h1,λV r2 H2 s2 B h2=>?_⟩⟩;obtain⟨h0,j,h2⟩:=h2;split at h2
   .rename_i k ek;have J:V=kV k:=Yu B.view ek;subst J;have g:=s1.trans s2;have I:=g _ _ hx;have u:=zp.grow (Grow.same g) _ _ y;have O:ks.length=E.length:=by rw[hl,y.length]
    refine⟨a,_,rfl,DPut.k I ?_,?_⟩
    .rw[zbI,O,zfR,y.length];exact zeC j aB
    rw[K9 Q O];obtain⟨R3,g3⟩:=(R.to g).chg (d':=.dk (kput ks k) (dput ks S k r.d)) (ho:=.dK ((kput ks k).zip (dput ks E k v))) (xu es) l m ⟨λ_ z=>(by cases z),λ_ _ z=>(by cases z)⟩ λgr =>
     ⟨dput ks E k v,zu,Hb hl,Qj Q,gr _ _ (W4 u ((W.same s2).solid (vq h0)))⟩
    exact k1 _ G _ o ((Grow.same g).trans g3) R3 h2
   exact h2.elim
  exact q.elim
end
def XP(L:Hp->Prop)(X:Cx)(d:DE->Addr->Prop):Prop:=∀(H_:Hp),L H_->∀(U:DE)(o:List (Nat×Addr))(pn:List (Addr×Obj))(G:St)(H:Hp)(s:Shared)(e:Value)(s':Shared),Inv X pn G H s->REnv X.K H_ H G U o ->
 CX1 X.prog X.w X.stack H s (λa _ H'=>Same H H'/\∃C,a=.ref C/\d U C) e s'->X.xe e s'
def qf(r:Reps K H [] S vs):REnv K H H (ZZ.start N vs) (wb N.length S) []:=by
 have a:=r.length;refine⟨Same.refl H,(λ_ z=>absurd z aE),(λ_ z=>absurd z aE),(λ_ z=>absurd z aE),zcX,λi r' e=>?_,?_⟩
 .unfold wb at e;rcases zdF i S.length with hi|hi
  .rw[zaG (by simpa using hi),zai]at e
   have d:S[i]?=some S[i]:=by simp[hi]
   rw[d]at e;have k:some (dv S[i])=some r':=zaP e;cases k;obtain⟨v,j,g⟩:=r.get d;refine⟨v,?_,.inl ⟨rfl,g⟩⟩;unfold ZZ.start;rw[zaG (by rw[zLm,a];exact hi),zai,j]
   rfl
  rw[zaF (by simpa using hi),zcE]at e
  split at e <;> cases e
 unfold ZZ.start wb;simp[a]
def cp10(h0:0<=j)(h1:j<=1000):CPow 10 j=True:=by
 refine eq_true ⟨h0,by lia,by decide⟩
def Pk:((10:Int) ^ k=0)=False:=by
 refine eq_false ?_;have:(0:Int)<10 ^ k:=Int.pow_pos aB
 lia
def Gy(h:j≠0)(h1:j.natAbs<=1000000000000):FdOk i j=True:=eq_true (fdOk (m:=64) h (PySem.intBits_le_iff.mpr aD))
def V9(l:List D)(k:Nat):cutD l none (some (k:Int))=l.take k:=by
 unfold cutD;rw[ZZ.sIx_none,ZZ.sIx_nat,List.drop_zero,Nat.sub_zero];rw[List.take_eq_take_iff];lia
def Mp(l:List D)(k:Nat):cutD l (some (k:Int)) none=l.drop k:=by
 unfold cutD;rw[ZZ.sIx_none,ZZ.sIx_nat];by_cases h:k<=l.length
 .rw[Nat.min_eq_left h,zcJ aE]
 rw[Nat.min_eq_right aD,zeB (zaj _),zeB aD]
 simp
def He(l:List D)(j k:Nat):cutD l (some (j:Int)) (some (k:Int))=(l.drop j).take (k-j):=by
 unfold cutD;rw[ZZ.sIx_nat,ZZ.sIx_nat];by_cases h:j<=l.length
 .rw[Nat.min_eq_left h,List.take_eq_take_iff,zdC];lia
 rw[show min j l.length=l.length by lia,zeB (zaj _),zeB aD]
 simp
def uu{α:Type}{l:List α}{i:Int}{x:α}(h0:0<=i)(h:l[i.toNat]?=some x):atI l i=some x:=by
 have:=Xr h
 rwa [zeT h0]at this
def Ct{α:Type}{l:List α}(h:l≠[])(x:Int):∃r∈l,atI l (x.fmod (l.length:Int))=some r:=by
 have a:(0:Int)<(l.length:Int):=by
  have:=List.length_pos_iff.mpr h;lia
 have h0:=zbD x a;have h1:=zcI x a;have hl:(x.fmod (l.length:Int)).toNat<l.length:=by lia
 exact⟨l[(x.fmod (l.length:Int)).toNat],zdM hl,uu h0 (by simp[hl])⟩
def z4f{α:Type}(a b:α)(x:Int):∃r,(r=a\/r=b)/\atI [a,b] (x.fmod 2)=some r:=by
 obtain⟨r,hr,e⟩:=Ct (l:=[a,b]) aE x
 exact⟨r,by simpa using hr,e⟩
def cg(x m:Int)(h:0<m):0<=x.fmod m/\x.fmod m<m:=⟨zbD x h,zcI x h⟩
def Rq{x:Int}(h:x.natAbs<2 ^ m):intBits x<=m:=PySem.intBits_le_iff.mpr h
def u4(S:List D)(h:∀ Y:List D->Prop,Y S->ti U Y)(P:Nat->DE->Prop)(h0:P 0 U)(a:∀ i d U,S[i]?=some d->P i U->g d U λρ'=>tb ρ' {Z with nx:=P (i+1),ct:=P (i+1),bk:=Z.nx})(e:∀ U,P S.length U->Z.nx U):sFor ti g tb U Z:=h _ ⟨P,h0,a,e⟩
def x3(S:List D)(h:∀ M:List D->Prop,M S->ti U M)(f:D->Option D)(hl:S.length<=100000)(e:∀ d∈S,g d (ρ0 n js U) λρ'=>tc ρ' λc=>(c=true->te ρ' λr=>(nw r)/\f d=some r.d)/\(c=false->f d=none))(a:Y (df (.lst (S.filterMap f)))):Mn ti n js g tc te U Y:=h _ ⟨f,hl,e,a⟩
def uv{lo:Int}(h:(rngD lo n)[i]?=some d):i<n/\d=.int (lo+(i:Int)):=by
 unfold rngD at h;rw[zai]at h;cases e:(List.range n)[i]? with
 |none=>rw[e]at h;cases h
 |some m =>
  rw[e]at h;have hi:=(zag.mp e).1;rw[zcW]at hi;rw[List.getElem?_range hi]at e;cases e;cases h;exact⟨hi,rfl⟩
def sn{lo:Int}:(rngD lo n).length=n:=by unfold rngD;simp
def L4{α a:Type}(f:α->a)(l:List α)(i:Int):atI (l.map f) i=(atI l i).map f:=by
 unfold atI;rw[zLm];cases ixN l.length i with
 |none=>rfl
 |some j=>simp
def z0f(a b x:Int):∃r:Int,(r=a\/r=b)/\atI [D.int a,D.int b] (x.fmod 2)=some (D.int r):=by
 obtain⟨r,hr,e⟩:=z4f (D.int a) (D.int b) x;rcases hr with rfl|rfl
 .exact⟨a,.inl rfl,e⟩
 exact⟨b,.inr rfl,e⟩
def ve(g:X.K=K0)(e:X.calm=true)(h:PGs X es t)(d:autoParam ((assignEach es X.env).length=n) zSr)(a:autoParam ((assignEach es X.env).findIdx? (·.1)=none) zSr):PG X (.Tuple es k pos) (gTup K0 n t):=by
 subst g;exact z0j e h d a
noncomputable def zipD(E ys:List D):List D:=List.zipWith (λx y=>D.tup [x,y]) E ys
noncomputable def seqD:D->Option (List D)
 |.lst S=>some S
 |.tup S=>some S
 |.scr ns=>some (ns.map D.int)
 |_=>none
def SeqP(b:Bool)(K:W.Frag)(H:Hp)(O:List Addr)(l:Addr)(d:D):Prop:=match d with
 |.lst S=>b=false/\∃E,H l=some (.lst E)/\l∉O/\Reps K H O S E
 |.tup S=>b=true/\∃E,SqT K H l E/\Reps K H O S E
 |.scr ns=>b=false/\Scr K H l ns
 |_=>False
def SeqP.of{K:W.Frag}{H:Hp}{O:List Addr}{d:D}{v:V}{S:List D}(h:Rep K H O d v)(e:seqD d=some S):∃b l,v=.ref l/\SeqP b K H O l d:=by
 cases d with
 |lst es=>obtain⟨a,E,rfl,q,n,r⟩:=h;exact⟨false,a,rfl,rfl,E,q,n,r⟩
 |tup es=>obtain⟨a,E,rfl,q,r⟩:=h;exact⟨true,a,rfl,rfl,E,q.1,r⟩
 |scr ns=>obtain⟨a,rfl,q⟩:=h;exact⟨false,a,rfl,rfl,q⟩
 |_=>cases e
def SeqP.sq{b:Bool}{K:W.Frag}{H:Hp}{O:List Addr}{l:Addr}{d:D}{S:List D}(h:SeqP b K H O l d)(e:seqD d=some S):∃E,SqK b K H l E/\Reps K H O S E:=by
 cases d with
 |lst es=>obtain⟨rfl,E,q,n,r⟩:=h;cases e;exact⟨E,SqL.of q,r⟩
 |tup es=>obtain⟨rfl,E,q,r⟩:=h;cases e;exact⟨E,q,r⟩
 |scr ns=>obtain⟨rfl,q⟩:=h;cases e;exact⟨_,q.seq,zp.ints ns⟩
 |_=>cases e
theorem SeqP.grow{b:Bool}{K:W.Frag}{H H':Hp}{O O':List Addr}{l:Addr}{d:D}(h:SeqP b K H O l d)(g:Grow O O' H H'):SeqP b K H' O' l d:=by
 cases d with
 |lst es=>obtain⟨rfl,E,q,n,r⟩:=h;exact⟨rfl,E,(g.keep _ _ q n).1,(g.keep _ _ q n).2,zp.grow g _ _ r⟩
 |tup es=>obtain⟨rfl,E,q,r⟩:=h;exact⟨rfl,E,Pt g.tups g.frzs q,zp.grow g _ _ r⟩
 |scr ns=>obtain⟨rfl,q⟩:=h;exact⟨rfl,Tw g.frzs q⟩
 |_=>exact h.elim
def z1v{K:W.Frag}{b1 b2:Bool}{l1 l2:Addr}{d1 d2:D}{E ys:List D}(e1:seqD d1=some E)(e2:seqD d2=some ys):ItD K (Itz b1 b2 K l1 l2) (zipD E ys) (λH O=>SeqP b1 K H O l1 d1/\SeqP b2 K H O l2 d2) where
 go:=λH O i d ⟨k,p2⟩ e=>by
  obtain⟨us,q,B⟩:=k.sq e1;obtain⟨vs,l,r2⟩:=p2.sq e2;unfold zipD at e;rw[List.getElem?_zipWith]at e;cases ex:E[i]? with
  |none=>rw[ex]at e;cases e
  |some x =>
   cases ey:ys[i]? with
   |none=>rw[ex,ey]at e;cases e
   |some y =>
    rw[ex,ey]at e;cases e;obtain⟨u,J,N⟩:=B.get ex;obtain⟨v,I,M⟩:=r2.get ey;refine⟨⟨us,vs,u,v,q,l,J,I⟩,λz H' L=>?_⟩;obtain⟨T,R,Q,hT,rfl,j,a,rfl⟩:=L;have j:=j _ q;have a:=a _ l;rw[J]at j;rw[I]at a;cases j;cases a;have r:Same H (upd H T (.tup [u,v])):=λb w G=>by rw[y0 (zk G hT)];exact G
    refine⟨r,T,[u,v],rfl,⟨.inl (.inl zu),zu⟩,?_⟩;exact⟨u,[v],rfl,RepN.grow (Grow.same r) _ _ N,v,[],rfl,RepN.grow (Grow.same r) _ _ M,rfl⟩
 stop:=λH O ⟨k,p2⟩=>by
  obtain⟨us,q,B⟩:=k.sq e1;obtain⟨vs,l,r2⟩:=p2.sq e2;refine⟨us,vs,q,l,?_⟩;have h1:=B.length;have h2:=r2.length;unfold zipD;rw[List.length_zipWith,h1,h2];lia
 keep:=λO O' H H' ⟨k,p2⟩ g=>⟨k.grow g,p2.grow g⟩
def iZ(t:TDs):TID:=λU Y=>t U λrs=>match rs with
 |[⟨k1,d1⟩,⟨k2,d2⟩]=>(match k1 with|.own=>False|_=>True)/\(match k2 with|.own=>False|_=>True)/\match seqD d1,seqD d2 with
  |some E,some ys=>Y (zipD E ys)
  |_,_=>False
 |_=>False
def Me{es:List Expr}{I:Nat}{v:Pos}{a b:Expr}{t:TDs}{p pos:Pos}(J:X.mg "zip" = none)(O:EA L X [a,b] t)(M:autoParam (Gl X "zip") zSr)(N:autoParam (starEach [a,b] X.env=(false,eval a X.env)::starEach [b] X.env) zSr)(g:autoParam ((backTo pos (starEach [b] X.env)).any (·.1)=false) zSr):EI L X (.Tuple es I v) (.Call (.Name "zip" p) [a,b] [] pos) (iZ t):=λH_=>impI (z0g M J (O H_) N g) λG H R q=>by
 obtain⟨U,o,Q,Y,e,k⟩:=q;refine⟨U,o,Q,_,e,λvs rs H1 s1 d h1=>?_⟩;split at h1
 .rename_i k1 d1 k2 d2;obtain⟨D,B,h1⟩:=h1;obtain⟨Z,w1,rfl,y,W,V,rfl,x,rfl⟩:=d;have z:=y.solid (vq D);have p2:=x.solid (vq B);split at h1
  .rename_i E ys e1 e2;obtain⟨b1,l1,rfl,l⟩:=SeqP.of z e1;obtain⟨b2,l2,rfl,j⟩:=SeqP.of p2 e2;obtain⟨us,u,_⟩:=l.sq e1;obtain⟨ws,r,_⟩:=j.sq e2;exact⟨b1,b2,l1,l2,us,ws,rfl,u,r,k _ _ _ H1 s1 (z1v e1 e2) ⟨l,j⟩ h1⟩
  exact h1.elim
 exact h1.elim
theorem Nh:∀{ns:List Int}{its:List Value},Vals (ns.map V.int) its->∃E:List (Int×Tok),its=E.map (λp=>Value.int p.1 p.2)/\E.map (·.1)=ns
 |[],_,h=>by cases h;exact⟨[],rfl,rfl⟩
 |n::ns,_,h=>by
  cases h with
  |cons r t =>
   obtain⟨E,e1,e2⟩:=Nh t;obtain⟨tk,rfl⟩:=r;exact⟨(n,tk)::E,by rw[e1];rfl,by rw[<- e2];rfl⟩
def Mt(j:X.calm=true):ui X (.builtin "sum") (λE H Q=>∃(p:Addr)(ns:List Int),E=[.ref p]/\SqL X.K H p (ns.map V.int)/\Q (.int ns.sum) H):=by
 intro pn s G H E us Q I r h;obtain⟨p,ns,rfl,e,q⟩:=h;obtain⟨u,rfl,a⟩:=sj r;cases a;obtain⟨its,d,pl,k⟩:=I.list e;obtain⟨E,e1,e2⟩:=Nh d;have hl:s.heap.IsList p (intItems E.toArray):=by
  have:=pl.isList;rw[e1]at this;unfold intItems;simpa using this
 refine sum_intListG (I.ok.hd j) hl λh' tk t' g=>?_;rw[preSum_eq,zcJ aE]
 rw[show E.toArray.toList.map (·.1)=ns from e2];exact⟨.int ns.sum,H,I.kept (t':=tk) g,⟨t',rfl⟩,q⟩
noncomputable def Z1:List D->Option (List Int)
 |[]=>some []
 |.int n::r=>(Z1 r).map (n::·)
 |_::_=>none
theorem R8:∀{S:List D}{ns:List Int},Z1 S=some ns->S=ns.map D.int
 |[],ns,h=>by cases h;rfl
 |d::r,ns,h=>by
  cases d with
  |int n =>
   cases e:Z1 r with
   |none=>unfold Z1 at h;rw[e]at h;cases h
   |some ms =>
    unfold Z1 at h;rw[e]at h;cases h;rw[R8 e];rfl
  |_=>cases h
theorem jb:∀(ns:List Int),Z1 (ns.map D.int)=some ns
 |[]=>rfl
 |n::ns=>by rw[zaB,Z1,jb ns];rfl
theorem kh{K:W.Frag}{H:Hp}{O:List Addr}:∀{ns:List Int}{E:List V},Reps K H O (ns.map D.int) E->E=ns.map V.int
 |[],_,h=>h
 |n::ns,E,h=>by
  obtain⟨v,r,rfl,q,t⟩:=h;rw[kh t];cases (show v=_ from q);rfl
def sSum:FT:=λS Y=>match S with
 |[.lst l]=>match Z1 l with
  |some ns=>Y (dv (.int ns.sum))
  |none=>False
 |_=>False
def T4{e:Expr}{es:List Expr}{t:TDs}{p pos:Pos}(j:X.mg "sum" = none)(z:EA L X (e::es) t)(y:autoParam (X.calm=true) zSr)(u:autoParam (Gl X "sum") zSr)(x:autoParam (S_ X e es) zSr)(d:autoParam (B_ X es pos) zSr):ED L X (.Call (.Name "sum" p) (e::es) [] pos) (dCB sSum t) :=
 ut (Mt y) (λH O S vs Y Q ho g h k=>by
  unfold sSum at h;split at h
  .rename_i l;split at h
   .rename_i ns B;obtain⟨v,ws,rfl,⟨a,E,rfl,q,r⟩,rfl⟩:=g;have D:=R8 B;subst D;have:=kh r;subst this;exact⟨a,ns,rfl,SqL.of q,k _ _ H (Same.refl H) aH h⟩
   exact h.elim
  exact h.elim) j (by kernel_rfl) z u aB aB x d
noncomputable def frzS:DE->Nat->DE
 |[],_=>[]
 |x::r,0=>x.map (λr=>dv r.d)::r
 |x::r,i+1=>x::frzS r i
theorem Rb:∀(U:DE)(i j:Nat),(frzS U i)[j]?=if j=i then U[j]?.map (λx=>x.map λr=>dv r.d) else U[j]?
 |[],i,j=>by simp[frzS]
 |x::r,0,0=>rfl
 |x::r,0,j+1=>by simp[frzS]
 |x::r,i+1,0=>by simp[frzS]
 |x::r,i+1,j+1=>by
  have:=Rb r i j;simp only[frzS,zfB,this];by_cases h:j=i
  .simp[h]
  rw[zaI h,zaI aD]
theorem Ra:∀(U:DE)(i:Nat),(frzS U i).length=U.length
 |[],_=>rfl
 |_::_,0=>rfl
 |x::r,i+1=>by simp[frzS,Ra r i]
def REnv.frz1{K:W.Frag}{H_ H:Hp}{G:St}{U:DE}{o:List (Nat×Addr)}(R:REnv K H_ H G U o)(i:Nat):∃o',REnv K H_ H G (frzS U i) o'/\∀p∈o',p∈o:=by
 refine⟨o.filter λp=>decide (p.1≠i),?_,λp l=>(zcY.mp l).1⟩;have sub:∀p∈o.filter (λp=>decide (p.1≠i)),p∈o:=λp l=>(zcY.mp l).1;have g:∀a∈(o.filter (λp=>decide (p.1≠i))).map Prod.snd,a∈o.map Prod.snd:=λa B=>by
  obtain⟨p,l,e⟩:=zah.mp B;exact zah.mpr ⟨p,sub p l,e⟩
 exact {
  same:=R.same
  fresh:=λp l=>R.fresh p (sub p l)
  trk:=λp l=>R.trk p (sub p l)
  mtb:=λp l=>R.mtb p (sub p l)
  nda:=List.Nodup.sublist (List.Sublist.map _ List.filter_sublist) R.nda
  len:=by rw[Ra];exact R.len
  slots:=λj r e=>by
   rw[Rb]at e;by_cases hj:j=i
   .rw[zaK hj]at e;cases e1:U[j]? with
    |none=>rw[e1]at e;cases e
    |some x =>
     rw[e1]at e;cases x with
     |none=>cases e
     |some r' =>
      have D:some (dv r'.d)=some r:=zaP e;cases D;obtain⟨v,y,q⟩:=R.slots j r' e1;refine⟨v,y,.inl ⟨rfl,?_⟩⟩;rcases q with⟨_,q⟩|⟨_,a,rfl,m,c⟩
      .exact RepN.sub g _ _ q
      refine(c.sub g).rep λz=>?_;obtain⟨p,l,ep⟩:=zah.mp z;have:=X3 R.nda (sub p l) m ep;have u:=zbQ (zcY.mp l).2;rw[this]at u;exact u hj
   rw[zaI hj]at e;obtain⟨v,y,q⟩:=R.slots j r e;refine⟨v,y,?_⟩;rcases q with⟨k,q⟩|⟨k,a,e1,m,c⟩
   .exact .inl ⟨k,RepN.sub g _ _ q⟩
   exact .inr ⟨k,a,e1,zcY.mpr ⟨m,zdQ hj⟩,c.sub g⟩}
def sFrz(i:Nat)(t:TDS):TDS:=λU Z=>t (frzS U i) Z
def xy(i:Nat){X:Cx}{st:Stmt}{t:TDS}(h:SD L X st t):SD L X st (sFrz i t):=λH_=>impS (h H_) λD G H h=>by
 obtain⟨U,o,R,Z,y,v,r,q,l⟩:=h;obtain⟨o',B,sub⟩:=R.frz1 i;have g:Grow (o.map Prod.snd) (o'.map Prod.snd) H H:=⟨λb u h n=>⟨h,λz=>n (by
  obtain⟨p,x,e⟩:=zah.mp z;exact zah.mpr ⟨p,sub p x,e⟩)⟩,λb E h=>h,λb I u h=>h⟩
 exact⟨_,o',B,Z,y,λd a H2 k g2 R2 j=>v d a H2 k (g.trans g2) R2 j,λd a H2 k g2 R2 j=>r d a H2 k (g.trans g2) R2 j,λd a H2 k g2 R2 j=>q d a H2 k (g.trans g2) R2 j,l⟩
section
variable{x:Str}{e ke:Expr}{te tk:TD}{np pos pos':Pos}
def Pz(i:Nat)(tk te:TD):TDS:=λU Z=>match slot U i with
 | some ⟨.own,.lst S⟩=>te U λr=>tk U λa=>(nw r)/\(match a.d with
  | .int k=>(match ixN S.length k with
   |some j=>Z.nx (setS U i (dO (.lst (S.set j r.d))))
   | none=>False)
  | _=>False)
 |_=>False
def E3(i:Nat)(hu:X.A.units+64<cLine)(hk:ED L X ke tk)(he:ED L X e te)(hN:autoParam (X.N[i]?=some x) zSr)(hv:autoParam (Vis X.env.scope x) zSo)(hd:autoParam (D_ x) zSd)(M:autoParam ((x==("__classdict__" : Str))=false) zSd)(hs:autoParam (swapsWithSole [.Subscript (.Name x np) ke pos'] e pos.line X.env=pure false) zSr)(hw:autoParam (swappedStores [.Subscript (.Name x np) ke pos'] e X.env=pure none) zSr)(h1:autoParam ((assignEach [.Subscript (.Name x np) ke pos'] X.env).map (·.2)=[assign (.Subscript (.Name x np) ke pos') X.env]) zSr)(ha:autoParam (∀ v,assign (.Subscript (.Name x np) ke pos') X.env v=(do
   let q <- holding [v] (eval (.Name x np) X.env)
   let I <- holding [v,q] (eval ke X.env)
   standAt pos'
   holding [v,q,I] (setItem q I v)
   release [v,q,I] [])) zSi):SD L X (.Assign [.Subscript (.Name x np) ke pos'] e pos) (Pz i tk te):=λH_ =>
 impS (W6 (he H_) (Oi (uq hN hv hd M) (hk H_) Yi ha) hs hw h1) λD G H h=>by
  obtain⟨U,o,R,Z,u,k1,k2,k3,k4⟩:=h;unfold Pz at u;split at u
  .rename_i S es;obtain⟨v0,l,q0⟩:=R.slots i _ (xu es);rcases q0 with⟨k,_⟩|⟨_,a,rfl,m,c⟩
   .cases k
   obtain⟨E,hx,Q⟩:=c;refine⟨U,o,R,_,u,λv r H1 s1 W h1=>⟨.ref a,l,U,o,R.to s1,_,h1,λV r2 H2 s2 B h2=>?_⟩⟩;obtain⟨h0,h2⟩:=h2;have O:=B.view;split at h2
   .rename_i k ek;rw[ek]at O;cases (show V=_ from O);split at h2
    .rename_i j ej;have g:=s1.trans s2;have J:=g _ _ hx;have y:=zp.grow (Grow.same g) _ _ Q;refine⟨a,E,k,j,rfl,rfl,J,by rw[Q.length];exact ej,?_⟩
     obtain⟨R3,g3⟩:=(R.to g).chg (d':=.lst (S.set j r.d)) (ho:=.lst (E.set j v)) (xu es) l m ⟨λ_ z=>(by cases z),λ_ _ z=>(by cases z)⟩ λgr =>
      ⟨E.set j v,zu,gr _ _ (y.set j ((W.same s2).solid (vq h0)))⟩
     exact k1 _ G _ o ((Grow.same g).trans g3) R3 h2
    exact h2.elim
   exact h2.elim
  exact u.elim
end
noncomputable def blsD:List D->Option (List Bool)
 |[]=>some []
 |.bl b::r=>(blsD r).map (b::·)
 |_::_=>none
theorem Mz:∀{S:List D}{bs:List Bool},blsD S=some bs->S=bs.map D.bl
 |[],bs,h=>by cases h;rfl
 |d::r,bs,h=>by
  cases d with
  |bl n =>
   cases e:blsD r with
   |none=>unfold blsD at h;rw[e]at h;cases h
   |some ms =>
    unfold blsD at h;rw[e]at h;cases h;rw[Mz e];rfl
  |_=>cases h
theorem Xq:∀(bs:List Bool),blsD (bs.map D.bl)=some bs
 |[]=>rfl
 |b::bs=>by rw[zaB,blsD,Xq bs];rfl
theorem Sd{K:W.Frag}{H:Hp}{O:List Addr}:∀{bs:List Bool}{E:List V},Reps K H O (bs.map D.bl) E->E=bs.map V.bl
 |[],_,h=>h
 |n::bs,E,h=>by
  obtain⟨v,r,rfl,q,t⟩:=h;rw[Sd t];cases (show v=_ from q);rfl
section
variable{e:Expr}{es:List Expr}{t:TDs}{p pos:Pos}
def Ly(g:List Bool->Bool):FT:=λS Y=>match S with
 |[.lst l]=>match blsD l with
  |some bs=>Y (dv (.bl (g bs)))
  |none=>False
 |_=>False
def Kz{f:List V->Bool}{g:List Bool->Bool}(j:∀ bs:List Bool,f (bs.map V.bl)=g bs):L9 X.K (rAll X.K f) (Ly g):=by
 intro H O S vs Y Q ho e h k;unfold Ly at h;split at h
 .rename_i l;split at h
  .rename_i bs u;obtain⟨v,ws,rfl,⟨a,E,rfl,q,r⟩,rfl⟩:=e;have x:=Mz u;subst x;have:=Sd r;subst this;refine⟨a,_,rfl,.inl (SqL.of q),λy d=>?_,?_⟩
   .obtain⟨b,_,rfl⟩:=zah.mp d;rfl
   rw[j];exact k _ _ H (Same.refl H) aH h
  exact h.elim
 exact h.elim
def Xi(d:X.mg "all" = none)(l:EA L X (e::es) t)(k:autoParam (X.calm=true) zSr)(g:autoParam (Gl X "all") zSr)(j:autoParam (S_ X e es) zSr)(a:autoParam (B_ X es pos) zSr):ED L X (.Call (.Name "all" p) (e::es) [] pos) (dCB (Ly λbs=>bs.all id) t) :=
 ut (Ve k) (Kz λbs=>by
  induction bs with
  |nil=>rfl
  | cons b bs ih=>rw[zaB,zeZ,zeZ,ih];cases b <;> rfl) d (by kernel_rfl) l g aB aB j a
end
def cat_tup0{t b:Addr}{ws:List Value}{Q:Value->Shared->Prop}(y:IsTup s.heap t #[])(z:IsTup s.heap b ws.toArray)(h1:Q (.ref b) s):wpAny (model prog w) A (binaryOp .Add (.ref t) (.ref b)) Q xs s:=by
 obtain⟨⟨B,dd,r,v⟩,ho,q,n,l⟩:=id y;obtain⟨⟨u,j,k,g⟩,a,e,x,d⟩:=id z;simp only at q l e d;subst q l e d;exact concat_meets ⟨_,ho,rfl⟩ ⟨_,a,rfl⟩ noFill_tuple_add seq_tuple_add zfF zeY (zeU _ _)
   (tuple_addW0 t b #[] ws.toArray n x dd j v g aE) ⟨ho,a,h1⟩
def Ao(K:W.Frag):R2:=λx y H Q=>∃a b ys,x=.ref a/\y=.ref b/\SqT K H a []/\SqT K H b ys/\Q (.ref b) H
def Kq:OpR X (binaryOp .Add) (Ao X.K):=by
 intro pn s G H x y v u Q I g e h;obtain⟨a,b,ys,rfl,rfl,r,l,q⟩:=h;cases g;cases e;obtain⟨its,j,k,_⟩:=I.tuple r;obtain⟨d,r2,p2,_⟩:=I.tuple l;cases j;exact ZZ.cat_tup0 k p2 ⟨.ref b,H,I,rfl,q⟩
section
variable{a b e:Expr}{es:List Expr}{t:TDs}{ta tb te tk:TD}{pos:Pos}
def z2y(ta tb:TD):TD:=λU Y=>ta U λx=>tb U λy=>match x.d,y.d with
 |.tup p,.tup q=>su x/\su y/\p.length+q.length<=sizeLine/\Y ⟨.new,.tup (p++q)⟩
 |_,_=>False
def Mg(N:ED L X a ta)(M:ED L X b tb):ED L X (.BinOp a .Add b pos) (z2y ta tb):=λH_=>impE (Q7 (Ou.or Kq) (N H_) (M H_)) λG H Q q=>by
 obtain⟨U,o,R,Y,x,k⟩:=q;refine⟨U,o,R,_,x,λV g H1 s1 r h1=>⟨U,o,R.to s1,_,h1,λO r2 H2 s2 l h2=>?_⟩⟩;have J:=λp=>(r.same s2).anew p;have I:=λp=>(l.start s1).anew p;obtain⟨Z,d1⟩:=g;obtain⟨W,d2⟩:=r2;cases d1 with
 |tup p =>
  cases d2 with
  |tup q =>
   obtain⟨B,p2,hl,j⟩:=h2;obtain⟨a1,E,rfl,v,g⟩:=J B;obtain⟨a2,ys,rfl,u,r2⟩:=I p2;have l1:=g.length;have l2:=r2.length;cases p with
   |nil =>
    have e:E=[]:=zcM l1;subst e;exact .inr ⟨a1,a2,ys,rfl,rfl,v.1,u.1,k _ ⟨.new,.tup q⟩ H2 (s1.trans s2) ⟨a2,ys,rfl,u,r2⟩ j⟩
   |cons d p =>
    refine .inl ⟨a1,a2,E,ys,rfl,rfl,v.1,u.1,(λz=>by subst z;cases l1),by rw[l1,l2];exact hl,λz=>?_,λz D y=>?_⟩
    .subst z;have e:q=[]:=zcM l2.symm;subst e;rw[zbT]at j;exact k _ ⟨.new,.tup (d::p)⟩ H2 (s1.trans s2) ⟨a1,E,rfl,v,g⟩ j
    exact k _ ⟨.new,.tup (d::p++q)⟩ _ ((s1.trans s2).trans (ye y _)) ⟨D,E++ys,rfl,⟨SqT.of zu,zu⟩,zp.to (ye y _) aA _ _ (g.append r2)⟩ j
  |_=>exact h2.elim
 |_=>exact h2.elim
noncomputable def popD(S:List D):Option (List D×D):=match S.getLast? with
 |some d=>some (S.dropLast,d)
 |none=>none
def Sq(S:List D)(d:D):popD (S++[d])=some (S,d):=by
 unfold popD;simp
def Ep(h:popD S=some (ds',d)):S=ds'++[d]:=by
 unfold popD at h;split at h
 .rename_i x e;cases h;obtain⟨y,a⟩:=List.getLast?_eq_some_iff.mp e;rw[a];simp
 cases h
def K4{K:W.Frag}{H:Hp}{O:List Addr}{S a:List D}{d:D}{E:List V}(r:Reps K H O S E)(h:popD S=some (a,d)):∃y,E[E.length-1]?=some y/\Rep K H O d y/\Reps K H O a E.dropLast:=by
 have e:=Ep h;subst e;have l:=r.length;rw[zLa]at l;obtain⟨y,j,g⟩:=r.get (i:=a.length) (d:=d) aE
 refine⟨y,by rw[l];simpa using j,g,?_⟩
 have:=r.dropLast;simpa using this
def sPop(i j:Nat):TDS:=λU Z=>match slot U i with
 |some ⟨.own,.lst S⟩=>match popD S with
  |some (ds',d)=>Z.nx (setS (setS U i (dO (.lst ds'))) j (dv d))
  |none=>False
 |_=>False
def Hy(i j:Nat){x y:Str}(r:X.N.Nodup)(hi:autoParam (X.N[i]?=some x) zSr)(hj:autoParam (X.N[j]?=some y) zSr)(hy:autoParam (Loc X.env.scope y) zSo)(Q:autoParam (Vis X.env.scope x) zSo)(W:autoParam (D_ x) zSd)(q:autoParam ((x==("__classdict__" : Str))=false) zSd)(V:∀ {ta:TE},X.N.Nodup->PE X (.Name x np) ta->PS X (.Assign [.Name y pos'] (.Call (.Attribute (.Name x np) "pop" apos) [] [] cpos) pos) (tAsg (tBM0 X.K "list" rPop ta) (se j)):=by
   intro ta r h1;exact dw r rfl aG (Ga zcH PySem.F.slot_list_pop PySem.F.type_list_pop Gj h1)) :
  SD L X (.Assign [.Name y pos'] (.Call (.Attribute (.Name x np) "pop" apos) [] [] cpos) pos) (sPop i j):=λH_=>impS (V r (uq hi Q W q)) λD G H h=>by
 obtain⟨U,o,R,Z,e,O,k2,k3,k4⟩:=h;unfold sPop at e;split at e
 .rename_i S es;obtain⟨v0,g,M⟩:=R.slots i _ (xu es);rcases M with⟨k,_⟩|⟨_,a,rfl,m,c⟩
  .cases k
  obtain⟨E,v,I⟩:=c;split at e
  .rename_i u d ep;obtain⟨B,ey,l,J⟩:=K4 I ep;obtain⟨R2,g2⟩:=R.chg (d':=.lst u) (ho:=.lst E.dropLast) (xu es) g m ⟨λ_ z=>(by cases z),λ_ _ z=>(by cases z)⟩ λgr=>⟨E.dropLast,zu,gr _ _ J⟩
   refine⟨.ref a,g,.inl ⟨rfl,E,SqL.of v⟩,a,E,B,rfl,rfl,v,ey,?_⟩;exact O _ _ _ o g2 (R2.setV j (RepN.grow g2 _ _ l)) e
  exact e.elim
 exact e.elim
def sExt(i:Nat)(t:TDs):TDS:=λU Z=>match slot U i with
 |some ⟨.own,.lst S⟩=>t U λrs=>da rs=true/\Nat.ble rs.length 1000=true/\S.length<=100000/\Z.nx (setS U i (dO (.lst (S++rs.map EV.d))))
 |_=>False
def W1(i:Nat){x:Str}(h:EA L X es t)(hi:autoParam (X.N[i]?=some x) zSr)(V:autoParam (Vis X.env.scope x) zSo)(hd:autoParam (D_ x) zSd)(I:autoParam ((x==("__classdict__" : Str))=false) zSd)(W:∀ {ta:TE} {tc:TA},PE X (.Name x np) ta->PA X es tc->PS X (.Expr (.Call (.Attribute (.Name x np) "extend" apos) [.List es lpos] [] cpos) pos)
    (Vu (tBM X.K "list" Ym ta (Q2 (tLst tc) tNil))):=by
   intro ta tc h1 h3;exact sv (Q9 zcH zeW zeX ca h1 (wg (G8 h3) uc))) :
  SD L X (.Expr (.Call (.Attribute (.Name x np) "extend" apos) [.List es lpos] [] cpos) pos) (sExt i t):=λH_=>impS (W (uq hi V hd I) (h H_)) λD G H h=>by
 obtain⟨U,o,R,Z,u,Q,k2,k3,k4⟩:=h;unfold sExt at u;split at u
 .rename_i S r;obtain⟨v0,q,O⟩:=R.slots i _ (xu r);rcases O with⟨k,_⟩|⟨_,a,rfl,m,c⟩
  .cases k
  obtain⟨E,M,J⟩:=c;refine⟨.ref a,q,.inl ⟨rfl,E,SqL.of M⟩,?_⟩;refine⟨U,o,R,_,u,λvs rs H1 s1 g h1=>?_⟩;obtain⟨y,l,hl,hn⟩:=h1;have l1:=g.length;have j:=zaD l;refine⟨by rw[l1];exact vf l,λp B=>?_⟩
  have s2:=ye B (.lst vs);have e:=s1.trans s2;have R1:=R.to e;have v:=zp.grow (Grow.same e) _ _ J;refine⟨a,p,E,vs,rfl,rfl,e _ _ M,zu,?_,?_⟩
  .rw[J.length,l1];exact zak (Nat.add_le_add hl j) aB
  obtain⟨R2,g2⟩:=R1.chg (d':=.lst (S++rs.map EV.d)) (ho:=.lst (E++vs)) (xu r) q m ⟨λ_ z=>(by cases z),λ_ _ z=>(by cases z)⟩ λgr=>⟨E++vs,zu,gr _ _ (v.append (zp.grow (Grow.same s2) _ _ (g.reps (rz y))))⟩
  exact Q _ G _ o ((Grow.same e).trans g2) R2 hn
 exact u.elim
def sAug(i:Nat)(te:TD):TDS:=λU Z=>match slot U i with
 |some ⟨.val,.int a⟩=>te U λr=>match r.d with
  |.int b=>Z.nx (setS U i (dv (.int (a+b))))
  |_=>False
 |_=>False
def Aa(i:Nat){x:Str}(O:X.N.Nodup)(M:ED L X e te)(hi:autoParam (X.N[i]?=some x) zSr)(I:autoParam (Loc X.env.scope x) zSo)(J:autoParam (X.fn x=true\/X.env.scope.names.lookup x=some .local) zSo):SD L X (.AugAssign (.Name x pos') .Add e pos) (sAug i te):=λH_=>impS (G7 O hi I (M H_) z2c J) λD G H h=>by
 obtain⟨U,o,R,Z,g,B,k2,W,V⟩:=h;unfold sAug at g;split at g
 .rename_i a q;obtain⟨y,l,j⟩:=R.slots i _ (xu q);rcases j with⟨_,j⟩|⟨k,_⟩
  .cases (show y=_ from j)
   refine⟨.int a,l,U,o,R,_,g,λv r H1 s1 z h1=>?_⟩;have u:=z.view;split at h1
   .rename_i b Q;rw[Q]at u;cases (show v=_ from u);exact⟨a,b,rfl,rfl,B _ _ _ o (Grow.same s1) ((R.to s1).setV i (d:=.int (a+b)) aH) h1⟩
   exact h1.elim
  cases k
 exact g.elim
end
def g1(g:D->(EV->Prop)->Prop):FT:=λS Y=>match S with
 |[d]=>g d Y
 |_=>False
def g2(g:D->D->(EV->Prop)->Prop):FT:=λS Y=>match S with
 |[d,e]=>g d e Y
 |_=>False
def g3(g:D->D->D->(EV->Prop)->Prop):FT:=λS Y=>match S with
 |[d,e,f]=>g d e f Y
 |_=>False
def Ju(h:g1 g S Y):∃d,S=[d]/\g d Y:=by
 unfold g1 at h;split at h
 .exact⟨_,rfl,h⟩
 exact h.elim
def Cf(h:g2 g S Y):∃d e,S=[d,e]/\g d e Y:=by
 unfold g2 at h;split at h
 .exact⟨_,_,rfl,h⟩
 exact h.elim
def z5d(h:g3 g S Y):∃d e f,S=[d,e,f]/\g d e f Y:=by
 unfold g3 at h;split at h
 .exact⟨_,_,_,rfl,h⟩
 exact h.elim
def uh{t u:TDS}(J:DE->Prop)(h1:t U {Z with nx:=J})(h2:∀ ρ2,J ρ2->u ρ2 Z):sSeq (sCut t) u U Z:=⟨J,h1,h2⟩
def z_g{t u:TDS}{U:DE}{Z:DZ}(xs:DE)(h1:t U {Z with nx:=λU=>U=xs})(h2:u xs Z):sSeq (sCut t) u U Z:=⟨λU=>U=xs,h1,λ_ e=>by subst e;exact h2⟩
def Hm(e:slot U i=some (dO (.lst S)))(h:Y (!S.isEmpty)):tTru (ux i) U Y:=by
 unfold tTru ux;rw[e];exact h
def u6(e:slot U i=some (dO (.lst S)))(h:te U λr=>(nw r)/\S.length<=100000/\Z.nx (setS U i (dO (.lst (S++[r.d]))))):sApp i te U Z:=by
 unfold sApp;rw[e];exact h
section
variable{a e:Expr}{es:List Expr}{t:TDs}{p pos:Pos}
def sLenD:FT:=λS Y=>match S with
 |[.dk ks l]=>Y (dv (.int ks.length))
 |_=>False
def Cm(j:X.mg "len" = none)(y:EA L X (e::es) t)(u:autoParam (Gl X "len") zSr)(x:autoParam (S_ X e es) zSr)(d:autoParam (B_ X es pos) zSr):ED L X (.Call (.Name "len" p) (e::es) [] pos) (dCB sLenD t) :=
 ut Mw (λH O S vs Y Q ho g h k=>by
  unfold sLenD at h;split at h
  .obtain⟨v,ws,rfl,⟨a,E,rfl,q,l,z,r⟩,rfl⟩:=g;refine⟨a,_,rfl,q,?_⟩;rw[zbI,r.length,<- l,zfR];exact k _ _ H (Same.refl H) aH h
  exact h.elim) j zfM y u aB aB x d
end
section
variable{a':Addr}(h':H a'=some (.dK kvs))
include h'
end
def qt:entryFor table "dict.update.loop" = some Builtin.«dict.update.loop»:=zfV (by kernel_rfl)
def vm:plainId "dict.update.loop" = true:=by decide +kernel
def bz:typeLookup (.type "list") "keys" = pure none:=by rw[zdV,zcQ];kernel_rfl
def Nc{E:Array Value}{Q:Option Value->Shared->Prop}(hl:PlainL s.heap a E)(B:A.handled=none)(h:∀ h' tk,(∀ b o,s.heap.get? b=some o->h'.get? b=some o)->Q none {s with heap:=h',toks:=tk}):wpAny (model prog w) A (getAttr? (.ref a) "keys") Q xs s:=by
 obtain⟨o,k,r,v,u,j⟩:=hl;obtain⟨c,D,G,x⟩:=o;simp only at v j u;subst v j u;obtain⟨z,g,d,tk,y⟩:=s;have hT:∀l,(⟨z,g,d,l,y⟩:Shared).TypeIs (.ref a) "list":=λ_=>⟨_,r,rfl⟩;have O:=sub_AttributeError;have N:=F.slot_list_getattribute.lookup;have M:=F.slot_list_getattribute.bind (.ref a);have L:=am_list_getattr_none;unfold getAttr? getAttrBy? getAttrBy
 repeat (any_goals (first|assumption|exact hT _|((with_reducible show wpAny _ _ (call (Value.builtin "list.__getattribute__") _ _) _ _ _);refine zeV F.slot_list_getattribute (hT _) am_entry_list_getattribute (F.args_list_getattribute_2 _ _) (meets_getattribute_miss_list a E k x "keys" _ bz aF (by size_fits)) ⟨r,B,λh' l e q=>?_⟩)|wp_step))
 obtain⟨t',I,J⟩:=q.there;show wpAny _ _ (getattributeRaised _ _ _ _ _ _ _) _ _ _;unfold getattributeRaised
 repeat (any_goals (first|assumption|wp_step))
 exact h _ _ q.keeps
section
variable{K:Type}[DecidableEq K]{knd:KeyKind prog w K}{R:Result->Shared->Prop}
def Ru(knd:KeyKind prog w K)(h:Heap)(v:Value)(a:K×Value):Prop:=∃b o n key,v=.ref b/\h.get? b=some o/\o.cls=.type "tuple"/\o.data=.seq #[key,a.2] n/\knd.is a.1 key=true
def Ze{kvs:List (K×Value)}{k:K}{x:Value}(h:k∉kvs.map (·.1)):stored kvs k x=kvs++[(k,x)]:=by
 unfold stored;rw[zaI];intro z;rw[List.any_eq_true]at z;obtain⟨p,a,e⟩:=z;exact h (zah.mpr ⟨p,a,by simpa using e⟩)
def Lh(hh:A.handled=none)(d it l:Addr)(y:d≠it)(a7:d≠l)(J:l≠it)(its:List Value)(more:List (K×Value))(b0:its.length=more.length)(a5:(more.map (·.1)).Nodup)(hsz:more.length<=sizeLine) :
  ∀(k i:Nat)(s:Shared),its.length=i+k->s.heap.IsListIter it l i->s.heap.IsList l its.toArray->s.heap.DictOf knd d (more.take i) ->
  (∀(j:Nat) v kx,its[j]?=some v->more[j]?=some kx->Ru knd s.heap v kx) ->
  (∀h' tk,h'.DictOf knd d more->(∀b o,b≠d->b≠it->s.heap.get? b=some o->h'.get? b=some o)->R (.ok (.ret .none)) {s with heap:=h',toks:=tk}) ->
  codeAny (model prog w) A (.builtin "dict.update.loop" ⟨[.ref d,.ref it,rawInt (i:Int),.none],[]⟩) R s:=by
 intro k
 induction k with
 |zero =>
  intro i s hk hi hl Z hp hR;refine zdJ qt ?_;rw[zcT vm _];have W:=Walks.list (prog:=prog) (w:=w) (A:=A.in1) hh it l J its.toArray;show wpAny _ A.in1 (pyNext (.ref it) >>= _) _ _ s;refine zaa (W.done s _ _ ⟨by simpa [hk] using hi,hl⟩ λh' tk q=>?_)
  show wpAny _ A.in1 (Builtin.Dict.addKeywords d [] >>= _) _ _ _;refine zaa (zab (zab ?_));refine hR h' tk ?_ λb o _ D e=>q b o (by simpa using D) e
  rw[zcJ aD]at Z
  obtain⟨o,es,ep,ho,r⟩:=Z;exact⟨o,es,ep,q d o (by simpa using y) ho,r⟩
 |succ k ih =>
  intro i s hk hi hl Z hp hR;refine zdJ qt ?_;rw[zcT vm _];have W:=Walks.list (prog:=prog) (w:=w) (A:=A.in1) hh it l J its.toArray;show wpAny _ A.in1 (pyNext (.ref it) >>= _) _ _ s;refine zaa (W.item i s _ _ (by simp;lia) ⟨hi,hl⟩ λv h' tk hv x q=>?_)
  have a4:its[i]?=some v:=by simpa using hv
  have a6:i<more.length:=by lia
  obtain⟨kx,B⟩:∃kx,more[i]?=some kx:=⟨more[i],zaf a6⟩;have N:h'.DictOf knd d (more.take i):=by
   obtain⟨o,es,ep,ho,r⟩:=Z;exact⟨o,es,ep,q d o (by simpa using y) ho,r⟩
  have G:∀(j:Nat) v kx,its[j]?=some v->more[j]?=some kx->Ru knd h' v kx:=λj v kx h1 h2=>by
   obtain⟨b,o,n,g,e1,e2,V,Q,e5⟩:=hp j v kx h1 h2;refine⟨b,o,n,g,e1,q b o ?_ e2,V,Q,e5⟩;intro z;have:b=it:=by simpa using z
   subst this;obtain⟨o',a,O,_⟩:=hi;rw[a]at e2;cases e2;rw[O]at V;exact absurd V aB
  obtain⟨b,o,n,g,rfl,D,a9,a8,L⟩:=G i v kx a4 B;have hT:({s with heap:=h',toks:=tk}:Shared).TypeIs (.ref b) "tuple":=⟨o,D,a9⟩;refine zaa (zaZ ?_);refine zaa (wpAny_tryCatch ?_);show wpAny _ A.in1 (typeOf (.ref b) >>= _) _ _ _;refine zaa (zfP hT ?_);show wpAny _ A.in1 (seqItems? (.ref b) >>= _) _ _ _;refine zaa (zcK D a8 (zab ?_));show wpAny _ A.in1 (holding [g,kx.2] (dictSet d g kx.2)) _ _ _;have I:kx.1∉(more.take i).map (·.1):=by
   have e:more.take (i+1)=more.take i++[kx]:=by rw[zfN,B];rfl
   have h4:((more.take (i+1)).map (·.1)).Nodup:=a5.sublist ((zeK _ _).map _);rw[e,zMa,zaO]at h4;intro z;exact h4.2.2 _ z kx.1 aE rfl
  refine zaZ (wpAny_dictSet_pairs (hsz:=by rw[zaX];lia) L N λh2 dd hs=>?_)
  rw[Ze I,show more.take i++[(kx.1,kx.2)]=more.take (i+1) by rw[zfN,B];rfl]at dd
  refine zab ⟨zfC vm _,?_⟩;have keep:∀b o,b≠d->h'.get? b=some o->h2.get? b=some o:=λb o D e=>(hs.2 b D).trans e;refine ih (i+1) _ aD ?_ ?_ dd ?_ λh3 a0 d3 k3=>?_
  .obtain⟨o',a,r'⟩:=x.1;exact⟨o',keep _ _ (Ne.symm y) a,r'⟩
  .obtain⟨o',a,r'⟩:=x.2;exact⟨o',keep _ _ (Ne.symm a7) a,r'⟩
  .intro j v kx h1 u;obtain⟨b,o,n,g,e1,e2,V,Q,e5⟩:=G j v kx h1 u;refine⟨b,o,n,g,e1,keep b o ?_ e2,V,Q,e5⟩;intro z;subst z;obtain⟨o',es,ep,a,O,M,_⟩:=N;rw[a]at e2;cases e2;rw[M]at Q;cases Q
  exact hR h3 a0 d3 λb o h1 u e=>k3 b o h1 u (keep b o h1 (q b o (by simpa using u) e))
def bq{xs:Value->Shared->Prop}{l:Addr}{its:List Value}{more:List (K×Value)}{Q:Value->Shared->Prop}(M:A.handled=none)(hl:PlainL s.heap l its.toArray)(x:its.length=more.length)(G:(more.map (·.1)).Nodup)(hsz:more.length<=sizeLine)(R:∀ (j:Nat) v y,its[j]?=some v->more[j]?=some y->Ru knd s.heap v y)(h:∀ h' tk,h'.DictOf knd s.z more->(∀ b o,s.heap.get? b=some o->h'.get? b=some o)->Q (.ref s.z) {s with heap:=h',toks:=tk}) :
  wpAny (model prog w) A (call (.type "dict") [.ref l]) Q xs s:=by
 refine callType_codes (Q₁:=λq d=>q=.ref s.z/\d={s with heap:=s.heap.push {cls:=.type "dict",data:=.dict #[]}}) F.kt_called_dict (F.kt_typeCall_dict_1 _) F.entry_dict_init (kt_code_dict_new _ ⟨rfl,rfl⟩) ?_;rintro q d ⟨rfl,rfl⟩;have a:(s.heap.push {cls:=.type "dict",data:=.dict #[]}).DictOf knd s.z []:=Heap.DictOf.new s.heap;have D:∀b o,s.heap.get? b=some o->(s.heap.push {cls:=.type "dict",data:=.dict #[]}).get? b=some o:=λb o e=>zac _ e;have hl1:=hl.keeps D;have J:l<s.z:=by obtain⟨o,n,e,_⟩:=hl;exact zae e
 refine⟨a.typeIs,F.args_dict_init_2 _ _,?_⟩;unfold Builtin.«dict.__init__»;refine zaa ?_;unfold Builtin.Dict.selfAndRest;refine zaa (wpAny_notOrdered_dict a.typeIs ?_);show wpAny _ _ (pure (s.z,[Value.ref l])) _ _ _;refine zab ?_;show wpAny _ _ (Builtin.Dict.updateFrom "dict.__init__" s.z (.ref l) [] .none) _ _ _;unfold Builtin.Dict.updateFrom;refine zaa (zfP hl1.isList.typeIs ?_);rw[zaK aB]
 refine zaa (Nc hl1 M λh2 N u=>?_);rw[zaK (by rfl)]
 refine zaa (zfJ ?_);have k:=(hl1.keeps u).isList;have I:l<h2.objs.size:=by obtain⟨o,e,_⟩:=k;exact zae e
 refine zaa (zcP k ?_);have g:s.z<h2.objs.size:=by
  obtain⟨o,es,ep,ho,_⟩:=a;exact zae (u _ _ ho)
 refine zab ⟨zfC vm _,?_⟩;refine Lh (knd:=knd) (A:=A.in1) M s.z h2.objs.size l (zaL g) (zcA J) (zaL I) its more x G hsz its.length 0 _ aD ?_ ?_ ?_ ?_ λV z d3 O=>?_
 .exact⟨_,zad _ rfl,rfl,rfl⟩
 .exact k.push _
 .obtain⟨o,es,ep,ho,r⟩:=a;exact⟨o,es,ep,zac _ (u _ _ ho),r⟩
 .intro j v y h1 L;obtain⟨b,o,n,B,e1,e2,e3,Z,W⟩:=R j v y h1 L;exact⟨b,o,n,B,e1,zac _ (u _ _ (D _ _ e2)),e3,Z,W⟩
 refine⟨rfl,h V z d3 λb o e=>O b o ?_ ?_ (zac _ (u _ _ (D _ _ e)))⟩
 .exact zaL (zae e)
 exact zaL (zfQ (zae e) g)
end
def L7(K:W.Frag)(H:Hp):List V->List (Key×V)->Prop:=Paired λp a=>∃b,p=V.ref b/\SqT K H b [kV a.1,a.2]
def P3(R:X.calm=true):ui X (.type "dict") (λE H Q=>∃a ps kvs,E=[.ref a]/\SqL X.K H a ps/\L7 X.K H ps kvs/\(kvs.map (·.1)).Nodup/\∀p,H p=none->Q (.ref p) (upd H p (.dK kvs))):=by
 intro pn s G H E us Q I r h;obtain⟨a,ps,kvs,rfl,M,y,B,q⟩:=h;obtain⟨u,rfl,N⟩:=sj r;cases N;obtain⟨its,L,pl,O⟩:=I.list M;have d:ps.length=kvs.length:=y.length;have J:=L.length;have ex:∃more:List (Key×Value),KV kvs more/\∀(j:Nat) v kx,its[j]?=some v->more[j]?=some kx->Ru (yq X.prog X.w) s.heap v kx:=by
  clear B q O pl d J M
  induction L generalizing kvs with
  |nil=>cases y;exact⟨[],.nil,λj v kx e=>by simp at e⟩
  |cons r1 r2 ih =>
   cases y with
   |cons h t =>
    obtain⟨more,k,l⟩:=ih _ t;obtain⟨b,rfl,sq⟩:=h;cases r1;obtain⟨ts,rt,⟨o,e1,e2,n,W⟩,_⟩:=I.tuple sq;cases rt with
    |cons t1 rt =>
     cases rt with
     |cons t2 rt =>
      cases rt
      rename_i Z z x;refine⟨(_,x)::more,.cons ⟨rfl,t2⟩ k,λj v kx h1 h2=>?_⟩;cases j with
      |zero =>
       simp at h1 h2;subst h1 h2;exact⟨b,o,n,z,rfl,e1,e2,W,Qk t1⟩
      |succ j=>exact l j v kx (by simpa using h1) (by simpa using h2)
 obtain⟨more,k,l⟩:=ex;have D:kvs.length=more.length:=k.length;have g:more.map (·.1)=kvs.map (·.1):=by
  clear B q y d l D
  induction k with
  |nil=>rfl
  |cons h t ih=>rw[zaB,zaB,ih,h.1]
 have V:=I.big;refine bq (knd:=yq X.prog X.w) (I.ok.hd R) pl aD (by rw[g];exact B) aD l λh' tk hd keep=>?_
 refine⟨.ref s.z,_,I.laid (t':=tk) (a:=s.z) (o:=.dK kvs) keep (zaj _) ?_,rfl,q _ (I.hok.fresh (zaj _))⟩;exact V7 aD (by simpa using(zcA V)) k hd
section
variable{e:Expr}{es:List Expr}{t:TDs}{p pos:Pos}
noncomputable def kD:Key->D
 |.inl i=>.int i
 |.inr x=>.str x
noncomputable def Oq(ks:List Key)(S:List D):List D:=(ks.zip S).map λq=>.tup [kD q.1,q.2]
def sDictP:FT:=λE Y=>match E with
 |[.lst l]=>∃ks S,l=Oq ks S/\ks.length=S.length/\ks.Nodup/\Y (df (.dk ks S))
 |_=>False
def Al{K:W.Frag}{H:Hp}{O:List Addr}{k:Key}{v:V}(h:Rep K H O (kD k) v):v=kV k:=by
 cases k with
 |inl i=>exact h
 |inr x=>exact h
theorem Zh{K:W.Frag}{H:Hp}{O:List Addr}:∀(ks:List Key)(S:List D)(ps:List V),ks.length=S.length->Reps K H O (Oq ks S) ps->∃E,L7 K H ps (ks.zip E)/\Reps K H O S E
 |[],[],ps,_,h=>by
  cases (show ps=[] from h)
  exact⟨[],.nil,rfl⟩
 |[],_::_,_,h,_=>by cases h
 |_::_,[],_,h,_=>by cases h
 |k::ks,d::S,ps,hl,h=>by
  obtain⟨v,ws,rfl,⟨a,zs,rfl,sq,r⟩,hr⟩:=h;obtain⟨l,w1,rfl,g,e,j,rfl,r2,rfl⟩:=r;cases Al g;obtain⟨E,h1,h2⟩:=Zh ks S ws (by simpa using hl) hr
  exact⟨e::E,.cons ⟨a,rfl,sq.1⟩ h1,e,E,rfl,r2,h2⟩
theorem ja{α a:Type}:∀(ks:List α)(E:List a),ks.length=E.length->(ks.zip E).map (·.1)=ks
 |[],_,_=>rfl
 |k::ks,[],h=>by cases h
 |k::ks,x::E,h=>by
  rw[zaM,zaB,ja ks E (by simpa using h)]
def Ha(x:X.mg "dict" = none)(D:EA L X (e::es) t)(B:autoParam (X.calm=true) zSr)(y:autoParam (Gl X "dict") zSr)(z:autoParam (S_ X e es) zSr)(g:autoParam (B_ X es pos) zSr):ED L X (.Call (.Name "dict" p) (e::es) [] pos) (dCB sDictP t) :=
 jn (P3 B) (λH O S vs Y Q ho u h k=>by
  unfold sDictP at h;split at h
  .obtain⟨ks,S,rfl,hl,j,h⟩:=h;obtain⟨v,ws,rfl,⟨a,E,rfl,q,r⟩,rfl⟩:=u;obtain⟨zs,h1,h2⟩:=Zh ks S E hl r;have l:ks.length=zs.length:=by rw[hl,h2.length]
   exact⟨a,E,_,rfl,SqL.of q,h1,by rw[ja ks zs l];exact j,λp d=>k _ (df (.dk _ _)) _ (ye d _) ⟨p,rfl,d,ho p d,zs,zu,hl,j,zp.grow (X6 d) _ _ h2⟩ h⟩
  exact h.elim) x boot_dict' D y aB aB z g
end
section
end
def ipM:TIp:=λx y H Q=>∃i j,x=.int i/\y=.int j/\IntMulOk i j/\Q (.int (i*j)) H
def z2b:PIp X .Mult ipM:=by
 intro pn s G H x y v u Q I a r2 h;obtain⟨i,j,e1,e2,d,q⟩:=h;subst e1;subst e2;obtain⟨t,rfl⟩:=a;obtain⟨t',rfl⟩:=r2;exact PyProof.Rows.imul_int ⟨.int _,H,I.tok _,⟨_,rfl⟩,q⟩ d
section
variable{e:Expr}{te:TD}{pos:Pos}
def E8(i:Nat)(te:TD):TDS:=λU Z=>match slot U i with
 |some ⟨.val,.int a⟩=>te U λr=>match r.d with
  |.int b=>IntMulOk a b/\Z.nx (setS U i (dv (.int (a*b))))
  |_=>False
 |_=>False
def Px(i:Nat){x:Str}(O:X.N.Nodup)(M:ED L X e te)(hi:autoParam (X.N[i]?=some x) zSr)(I:autoParam (Loc X.env.scope x) zSo)(J:autoParam (X.fn x=true\/X.env.scope.names.lookup x=some .local) zSo):SD L X (.AugAssign (.Name x pos') .Mult e pos) (E8 i te):=λH_=>impS (G7 O hi I (M H_) z2b J) λD G H h=>by
 obtain⟨U,o,R,Z,g,B,k2,W,V⟩:=h;unfold E8 at g;split at g
 .rename_i a q;obtain⟨y,l,j⟩:=R.slots i _ (xu q);rcases j with⟨_,j⟩|⟨k,_⟩
  .cases (show y=_ from j)
   refine⟨.int a,l,U,o,R,_,g,λv r H1 s1 z h1=>?_⟩;have u:=z.view;split at h1
   .rename_i b Q;rw[Q]at u;cases (show v=_ from u);exact⟨a,b,rfl,rfl,h1.1,B _ _ _ o (Grow.same s1) ((R.to s1).setV i (d:=.int (a*b)) aH) h1.2⟩
   exact h1.elim
  cases k
 exact g.elim
end
noncomputable def Ite(K:W.Frag)(l:Addr):It :=
 ⟨λi H=>∃E x,SqL K H l E/\E[i]?=some x,
  λi H v H'=>∃T x,H T=none/\v=.ref T/\(∀E,SqL K H l E->E[i]?=some x)/\H'=upd H T (.tup [.int i,x]),
  λi H=>∃E,SqL K H l E/\E.length<=i⟩
def Ph{P:Program}{w:World}{K:W.Frag}{es:List Expr}{kk:Nat}{tp:Pos}{e it l:Addr}(Q:e≠it) :
  Turn P w K (.Tuple es kk tp) (Ite K l) [e,it] e (λi h=>(∃j,IsEnum h e it i j)/\h.IsListIter it l i) where
 mem:=by simp
 obj:=λi h Z b d=>by
  obtain⟨⟨j,h1⟩,o,h2,h3,h4⟩:=Z;simp only[zam,zaS,zdK]at d;rcases d with rfl|rfl
  .exact⟨_,h1,λv q=>(by cases q)⟩
  exact⟨o,h2,λv q=>by rw[h4]at q;cases q⟩
 keep:=λi h h' Z k=>by
  obtain⟨⟨j,h1⟩,h2⟩:=Z;exact⟨⟨j,k e aE _ h1⟩,h2.at λo q=>k it aE o q⟩
 item:=by
  intro X hP hw hK B i pn s G H xs I N Z hg;subst hP hw hK;obtain⟨E,x,e1,y⟩:=hg;obtain⟨O,r1,pl,hz⟩:=I.list e1;obtain⟨u,hu,ru⟩:=r1.get y;obtain⟨⟨j,J⟩,V⟩:=Z;have R:=N e aE
  have D:=N it aE
  refine wpAny_pyNext_enum_item J V pl.isList (x:=u) (by simpa using hu) Q λg zo zi pr hsz L=>?_
  have M:H s.z=none:=I.fresh;have a:∀b,b∉[e,it]->b≠e/\b≠it:=λb d=>by
   simp only[zam,zaS,zdK,not_or]at d;exact d
  have z:∀b ho,H b=some ho->b≠e/\b≠it:=λb ho q=>⟨zk q R.1,zk q D.1⟩;have un:Un (frs X.stack) [e,it] H (upd H s.z (.tup [.int i,x])) s.heap g :=
   ⟨λb o q _ _ y=>L b o (a b y).1 (a b y).2 q,λb o q _ _ y=>⟨o.slots,L b o (a b y).1 (a b y).2 q⟩,λb o q n _=>by rw[y0 (zaL (zae q))];exact n,λb o q y=>⟨o,L b o (a b y).1 (a b y).2 q⟩,
    λb zs q=>by rw[y0 (zk q M)];exact q,λb o zs q=>by rw[y0 (zk q M)];exact q,λb ps q=>⟨#[],by rw[y0 (zk q M),q];simp⟩⟩
  have hok:HOk X.prog X.w (upd H s.z (.tup [.int i,x])) g:=λb o q=>by
   by_cases d:b=s.z
   .subst d;rw[zu]at q;cases q;refine⟨by simp only[zLc,zLn];rw[zbC];decide,[.int i s.toks,u],.cons ⟨_,rfl⟩ (.cons ru .nil),⟨_,pr,rfl,_,rfl⟩,_,pr,rfl⟩
   rw[y0 d]at q;refine(I.hok b o q).stay (λc ob B q2=>L c ob ?_ ?_ q2) (λc q=>by rw[y0 (zk q M)];exact q) λc zs q=>by rw[y0 (zk q M)];exact q
   .rcases B with rfl|B
    .exact(z _ _ q).1
    exact(z _ _ B).1
   rcases B with rfl|B
   .exact(z _ _ q).2
   exact(z _ _ B).2
  have I2:Inv X pn G (upd H s.z (.tup [.int i,x])) {s with heap:=g,toks:=s.toks+1}:=I.call' (s':={s with heap:=g,toks:=s.toks+1}) (ch:=[e,it]) rfl un hok I.bare λb d=>by
   have q:=N b d;exact⟨q.2.2.2.1,q.2.1,q.2.2.2.2.1,q.2.2.2.2.2⟩
  have r:∀b∈[e,it],upd H s.z (.tup [.int i,x]) b=none:=λb d=>by
   have lb:b<s.z:=by
    obtain⟨o,q2,_⟩:=V;simp only[zam,zaS,zdK]at d;rcases d with rfl|rfl
    .exact zae J
    exact zae q2
   rw[y0 (zaL lb)];exact(N b d).1
  refine⟨_,rfl,wpAny_letOwnedTupleGo_enum zo λg2 z3 sb=>?_⟩;refine⟨.ref s.z,_,I2.turned (t':=s.toks+1) (λb o d q=>sb.extBut b o d q) (r e aE) R.2.1 R.2.2.2.1 R.2.2.2.2.1 R.2.2.2.2.2,rfl,⟨_,x,M,rfl,(λzs q=>by rw[<- I.list_inj e1 q];exact y),rfl⟩,?_,r⟩
  exact⟨⟨_,by exact_mod_cast z3⟩,zi.at λo q=>sb.extBut _ o (Ne.symm Q) q⟩
 done:=by
  intro X hP hw hK B i pn s G H xs I N Z hg;subst hP hw hK;obtain⟨E,e1,a0⟩:=hg;obtain⟨O,r1,pl,hz⟩:=I.list e1;obtain⟨⟨j,J⟩,V⟩:=Z;have D:=N it aE
  have a4:=r1.length;exact wpAny_pyNext_enum_end (I.ok.hd B) J V pl.isList (by simp;lia) λg L=>⟨rfl,I.turned (t':=s.toks) (λb o d q=>L b o d q) D.1 D.2.1 D.2.2.2.1 D.2.2.2.2.1 D.2.2.2.2.2⟩
 self:=λ_ _ _ _ _ Z h=>by
  obtain⟨⟨j,J⟩,_⟩:=Z;exact wpAny_pyIter_enum J h
def bv:bootBuiltins "enumerate" = some (.type "enumerate"):=by kernel_rfl
def z5a(K:W.Frag)(ta:TA):TI:=λG H R=>ta G H λvs H1=>∃l E,vs=[.ref l]/\SqL K H1 l E/\R (Ite K l) H1
def Ez{X:Cx}{es:List Expr}{J:Nat}{z:Pos}{a:Expr}{ta:TA}{p pos:Pos}(M:Gl X "enumerate")(L:X.mg "enumerate" = none)(O:PA X [a] ta)(N:autoParam (starEach [a] X.env=(false,eval a X.env)::starEach [] X.env) zSr):PI X (.Tuple es J z) (.Call (.Name "enumerate" p) [a] [] pos) (z5a X.K ta):=by
 intro pn s G H R I h;refine zbR (sw I M L bv ?_ aB aB)
 refine zbB (thn (O pos pn s G H _ I h) λus s1 Zh=>?_) N (by rfl)
 obtain⟨vs,H1,d,k,l,E,e,e1,q⟩:=Zh;subst e;obtain⟨u,rfl,B⟩:=sj k;cases B;obtain⟨v,k,pl,Q⟩:=d.list e1;refine call_enumerate_list pl.isList λg j y hsz D=>wpAny_pyIter_enum j ?_;refine⟨_,_,_,_,H1,rfl,d.kept (t':=s1.toks) D,Ph (by exact Nat.succ_ne_self _),⟨⟨_,j⟩,y⟩,λb x=>?_,q⟩
 have r:s1.z<=b:=by
  simp only[zam,zaS,zdK]at x;rcases x with rfl|rfl
  .exact zdD _ _
  exact zaj _
 exact d.fpOk r (d.hok.fresh r)
noncomputable def enD(l:List D):List D:=l.zipIdx.map λq=>.tup [.int (q.2:Nat),q.1]
def iE(t:TDs):TID:=λU Y=>t U λrs=>match rs with
 | [r]=>(nw r)/\(match r.d with
  |.lst l=>Y (enD l)
  | _=>False)
 |_=>False
def Du{K:W.Frag}{l:Addr}{S:List D}:ItD K (Ite K l) (enD S) (λH O=>Rep K H O (.lst S) (.ref l)) where
 go:=λH O i d k e=>by
  obtain⟨a,E,v,q,_,r⟩:=k;cases v;unfold enD at e;rw[zai,List.getElem?_zipIdx]at e;cases ex:S[i]? with
  |none=>rw[ex]at e;cases e
  |some x =>
   rw[ex]at e;have L:d=.tup [.int (i:Nat),x]:=by simpa using e.symm
   subst L;obtain⟨u,G,J⟩:=r.get ex;refine⟨⟨E,u,SqL.of q,G⟩,λz H' I=>?_⟩;obtain⟨T,M,hT,rfl,j,rfl⟩:=I;have j:=j _ (SqL.of q);rw[G]at j;cases j;have y:Same H (upd H T (.tup [.int i,u])):=λb w B=>by rw[y0 (zk B hT)];exact B
   refine⟨y,T,[.int i,u],rfl,⟨.inl (.inl zu),zu⟩,?_⟩;exact⟨.int i,[u],rfl,by exact rfl,u,[],rfl,RepN.grow (Grow.same y) _ _ J,rfl⟩
 stop:=λH O k=>by
  obtain⟨a,E,v,q,_,r⟩:=k;cases v;exact⟨E,SqL.of q,by unfold enD;rw[zLm,List.length_zipIdx,r.length];exact zaj _⟩
 keep:=λO O' H H' k g=>RepN.grow g _ _ k
def V5{a:Expr}(x:X.mg "enumerate" = none)(B:EA L X [a] t)(y:autoParam (Gl X "enumerate") zSr)(z:autoParam (starEach [a] X.env=(false,eval a X.env)::starEach [] X.env) zSr):EI L X (.Tuple es kk tp) (.Call (.Name "enumerate" p) [a] [] pos) (iE t):=λH_=>impI (Ez y x (B H_) z) λG H R q=>by
 obtain⟨U,o,D,Y,g,k⟩:=q;refine⟨U,o,D,_,g,λvs rs H1 s1 e h1=>?_⟩;split at h1
 .rename_i r;obtain⟨v,h1⟩:=h1;obtain⟨I,w1,rfl,u,rfl⟩:=e;have j:=u.solid (vq v);obtain⟨M,d⟩:=r;cases d with
  |lst l =>
   obtain⟨a,E,rfl,q,J,r⟩:=id j;exact⟨a,E,rfl,SqL.of q,k _ _ _ H1 s1 Du j h1⟩
  |_=>exact h1.elim
 exact h1.elim
noncomputable def wv{α:Type}(E:List α)(lo hi st:Option Int):List α :=
 let b:=sliceBounds lo hi st E.length
 (sliceRange b.1 b.2.1 b.2.2).filterMap λi=>E[i]?
section
variable{e:Expr}{te:TE}{lo hi:Option Expr}{st:Expr}{tl th ts:TO}{pos p2:Pos}
theorem d7(r:Vals E us):∀is:List Nat,Vals (is.filterMap λi=>E[i]?) (is.filterMap λi=>us[i]?)
 |[]=>.nil
 |i::is=>by
  rw[zbG,zbG];cases ex:E[i]? with
  |none =>
   rw[r.none_of ex];exact d7 r is
  |some x =>
   obtain⟨u,d,a⟩:=r.get ex;rw[d];exact .cons a (d7 r is)
def Fk(K:W.Frag)(te:TE)(tl th ts:TO):TE:=λG H Q=>te G H λx H1=>tl G H1 λl H2=>th G H2 λu e=>ts G e λk d=>∃a E,x=.ref a/\SqL K d a E/\k≠some 0/\∀p,d p=none->Q (.ref p) (upd d p (.lst (wv E l u k)))
def D2(he:PE X e te)(hl:PO X lo tl)(hu:PO X hi th)(hs:PO X (some st) ts):PE X (.Subscript e (.Slice lo hi (some st) p2) pos) (Fk X.K te tl th ts):=by
 intro pn s G H Q I h;refine Subscript_ (thn (he pn s G H _ I h) λv s1 Zh=>?_);obtain⟨x,H1,I1,N,V⟩:=Zh;refine wpAny_Slice (thn (hl pn s1 G H1 _ I1 V) λB s2 ⟨l,H2,I2,pl,R⟩=>thn (hu pn s2 G H2 _ I2 R) λz M ⟨u,H3,I3,W,O⟩=>thn (hs pn M G H3 _ I3 O) λD g Zh=>?_);obtain⟨k,H4,I4,Z,a,E,e1,sq,k0,q⟩:=Zh;subst e1;cases N;have y:Inv X pn G H4 {g with heap:=g.heap.push {cls:=.type "slice",data:=.fields #[B,z,D]}}:=I4.kept (t':=g.toks) λb ob q=>zac _ q;obtain⟨its,r,d,hz⟩:=y.list sq;have j:its.length=E.length:=r.length.symm;show wpAny X.mo X.A (subscriptTail e (.Slice lo hi (some st) p2) (.ref a) (.ref g.z)) (EP X pn G Q) X.xe {g with heap:=g.heap.push {cls:=.type "slice",data:=.fields #[B,z,D]}};refine tail_any (ops:=[.ref a,.ref g.z]) d.isList.typeIs list_getitem_lookup ?_ (by with_unfolding_all rfl)
 refine wpAny_getItem_list_slice d.isList (Heap.IsSliceOf.new ..) pl W Z k0 ?_ (by simp;lia)
 refine⟨.ref _,_,y.laid (t':=g.toks) (o:=.lst (wv E l u k)) (λb ob q=>zac _ q) (zaj _) ?_,rfl,q _ (y.hok.fresh (zaj _))⟩;have L:(slicePick its.toArray l u k).toList=wv its l u k:=by
  unfold slicePick wv;simp
 have J:Vals (wv E l u k) (wv its l u k):=by
  unfold wv;rw[j];exact d7 r _
 have a0:(wv its l u k).length<=its.length:=by
  have:=slicePick_size_le its.toArray l u k;rw[<- zeS,L]at this;simpa using this
 refine⟨by rw[J.length];lia,wv its l u k,0,J,?_⟩
 rw[zad _ rfl,<- L]
end
section
variable{e:Expr}{te:TD}{pos:Pos}
def z2u(te:TD)(tl th ts:TDo):TD:=λU Y=>te U λx=>tl U λl=>th U λu=>ts U λk=>k≠some 0/\match x.d with
 |.lst S=>Y (df (.lst (wv S l u k)))
 |.scr ns=>Y (df (.lst ((wv ns l u k).map D.int)))
 |_=>False
theorem dj{K:W.Frag}{H:Hp}{O:List Addr}{S:List D}{E:List V}(r:Reps K H O S E):∀is:List Nat,Reps K H O (is.filterMap λi=>S[i]?) (is.filterMap λi=>E[i]?)
 |[]=>rfl
 |i::is=>by
  rw[zbG,zbG];cases ex:S[i]? with
  |none =>
   have:E[i]?=none:=by
    rw[zeO]at ex ⊢;rw[r.length];exact ex
   rw[this];exact dj r is
  |some d =>
   obtain⟨v,e,a⟩:=r.get ex;rw[e];exact⟨v,_,rfl,a,dj r is⟩
def Vz{K:W.Frag}{H:Hp}{O:List Addr}{S:List D}{E:List V}(r:Reps K H O S E)(l u k:Option Int):Reps K H O (wv S l u k) (wv E l u k):=by
 unfold wv;rw[r.length];exact dj r _
def Kh{α a:Type}(f:α->a)(E:List α)(l u k:Option Int):wv (E.map f) l u k=(wv E l u k).map f:=by
 unfold wv;rw[zLm,List.map_filterMap]
 dsimp only
 congr 1
 funext i
 rw[zai]
def Cj{lo hi:Option Expr}{st:Expr}{tl th ts:TDo}{p2:Pos}(N:ED L X e te)(hl:EO L X lo tl)(hu:EO L X hi th)(M:EO L X (some st) ts):ED L X (.Subscript e (.Slice lo hi (some st) p2) pos) (z2u te tl th ts):=λH_ =>
 impE (D2 (N H_) (hl H_) (hu H_) (M H_)) λG H Q q=>by
  obtain⟨U,o,R,Y,z,I⟩:=q;refine⟨U,o,R,_,z,λv r H1 s1 J h1=>⟨U,o,R.to s1,_,h1,λl H2 s2 h2=>⟨U,o,R.to (s1.trans s2),_,h2,λu Z y O=>⟨U,o,R.to ((s1.trans s2).trans y),_,O,λk W D x=>?_⟩⟩⟩⟩;have g:=((s1.trans s2).trans y).trans D;have B:=(J.same ((s2.trans y).trans D)).view;obtain⟨h0,x⟩:=x;obtain⟨V,d⟩:=r;cases d with
  |lst S =>
   obtain⟨a,E,rfl,q,r⟩:=B;refine⟨a,E,rfl,SqL.of q,h0,λp j=>?_⟩;exact I _ _ _ (g.trans (ye j _)) (RV.start (sk (λa e=>R.ofree (g.free e)) j (Vz r l u k)) g) x
  |scr ns =>
   obtain⟨a,rfl,q⟩:=B;refine⟨a,_,rfl,q.seq,h0,λp j=>?_⟩;rw[Kh];exact I _ _ _ (g.trans (ye j _)) (RV.start (sk (λa e=>R.ofree (g.free e)) j (zp.ints _)) g) x
  |_=>exact x.elim
end
abbrev TK:=List Key
instance decMemTK (k:TK) (ks:List TK):Decidable (k∈ks):=decidable_of_iff (ks.any (λx=>decide (x=k))=true) aE
section
open PySem PySem.Spec PySem.W PyProof.Rows
def RawD(h:Heap)(d:Addr)(rows:Array DictEntry)(ep:Nat):Prop:=∃o,h.get? d=some o/\o.ExactDict/\o.data=.dict rows ep
def RawD.lt(x:RawD h d rows ep):d<h.objs.size:=by obtain⟨_,g,_⟩:=x;exact zae g
variable{n:Nat}{cmp:Nat->Nat->(Bool->Shared->Prop)->Shared->Prop}
abbrev POrd(n:Nat)(p:Array Nat):Prop:=p.Perm (List.toArray (List.range n))
def POrd.lt(h:POrd n p)(a:0<n)(i:Nat):p.getD i 0<n:=by
 by_cases hi:i<p.size
 .have e:p.getD i 0=p[i]:=by simp[Array.getD,hi]
  rw[e];have m:p[i]∈List.toArray (List.range n):=h.mem_iff.mp (Array.getElem_mem hi);simpa using m
 have e:p.getD i 0=0:=by simp[Array.getD,hi]
 lia
def POrd.rev(h:POrd n p)(i j:Nat):POrd n (kas_rev p i j):=(mirror_perm p i j _).trans h
def POrd.bub(h:POrd n p)(i j:Nat):POrd n (bubble p i j):=(bubble_perm p i j).trans h
abbrev Asks(n:Nat)(cmp:Nat->Nat->(Bool->Shared->Prop)->Shared->Prop)(s:Shared):Prop:=∀i j C,i<n->j<n->(∀b,C b s)->cmp i j C s
theorem Tb(a:0<n)(d:Asks n cmp s)(h:POrd n p){Q:Nat->Shared->Prop}(q:∀ m,Q m s):∀f k,(kas_asc p f k).kasWp cmp Q s
 |0,k=>q k
 |f+1,k=>d _ _ _ (h.lt a _) (h.lt a _) λb=>by
  cases b with
  |true=>exact q k
  |false=>exact Tb a d h q f (k+1)
theorem fu(e:0<n)(g:Asks n cmp s){Q:Array Nat×Nat×Nat->Shared->Prop}(q:∀ p a b,POrd n p->Q (p,a,b) s):∀f (p:Array Nat) k r,POrd n p->(kas_desc f p k r).kasWp cmp Q s
 |0,p,k,r,h=>q p k r h
 |f+1,p,k,r,h=>g _ _ _ (h.lt e _) (h.lt e _) λb=>by
  cases b with
  |true =>
   show(if r > 0 then _ else _:KasT _).kasWp cmp Q s
   split
   .exact fu e g q f _ _ _ (h.rev _ _)
   exact fu e g q f _ _ _ h
  |false =>
   refine g _ _ _ (h.lt e _) (h.lt e _) λd=>?_;cases d with
   |true=>exact q p k r h
   |false=>exact fu e g q f _ _ _ h
def Xv(d:0<n)(e:Asks n cmp s){Q:Nat×Array Nat->Shared->Prop}(q:∀ m p,POrd n p->Q (m,p) s)(h:POrd n p)(a b:Nat):(kas_tail3 a b p).kasWp cmp Q s:=by
 unfold kas_tail3;rw[KasT.kasWp_bind];exact Tb d e (h.rev _ _) (λm=>q m _ (h.rev _ _)) _ _
def gy(d:0<n)(e:Asks n cmp s){Q:Nat×Array Nat->Shared->Prop}(q:∀ m p,POrd n p->Q (m,p) s)(h:POrd n p)(a b:Nat):(kas_descPart a b p).kasWp cmp Q s:=by
 unfold kas_descPart;rw[KasT.kasWp_bind];refine fu d e (λp x y g=>?_) _ _ _ _ h
 dsimp only
 split
 .exact Xv d e q (g.rev _ _) _ _
 exact Xv d e q g _ _
def Mr(d:0<n)(e:Asks n cmp s){Q:Nat×Array Nat->Shared->Prop}(q:∀ m p,POrd n p->Q (m,p) s)(h:POrd n p)(a:Nat):(kas_count a p).kasWp cmp Q s:=by
 unfold kas_count;rw[KasT.kasWp_bind];refine Tb d e h (λm=>?_) _ _;split
 .exact q m p h
 split
 .refine e _ _ _ (h.lt d _) (h.lt d _) λb=>?_;cases b with
  |true=>exact q m p h
  |false=>exact gy d e q (h.rev _ _) _ _
 exact gy d e q h _ _
theorem dy(a:0<n)(d:Asks n cmp s)(h:POrd n p){Q:Nat->Shared->Prop}(q:∀ m,Q m s)(k:Nat):∀f l r,(kas_place p k f l r).kasWp cmp Q s
 |0,l,_=>q l
 |f+1,l,r=>by
  unfold kas_place;split
  .exact q l
  refine d _ _ _ (h.lt a _) (h.lt a _) λb=>?_;cases b with
  |true=>exact dy a d h q k f _ _
  |false=>exact dy a d h q k f _ _
theorem L0(a:0<n)(d:Asks n cmp s){Q:Array Nat->Shared->Prop}(q:∀ p,POrd n p->Q p s):∀f (p:Array Nat) k,POrd n p->(kas_bin f p k).kasWp cmp Q s
 |0,p,k,h=>q p h
 |f+1,p,k,h=>by
  unfold kas_bin;rw[KasT.kasWp_bind];exact dy a d h (λm=>L0 a d q f _ _ (h.bub _ _)) _ _ _ _
def Lr(a:0<n)(d:Asks n cmp s){Q:Array Nat->Shared->Prop}(q:∀ p,POrd n p->Q p s):(kas_sort n).kasWp cmp Q s:=by
 unfold kas_sort;rw[KasT.kasWp_bind];refine Mr a d (λm p h=>?_) (Array.Perm.refl _) _
 dsimp only
 split
 .exact L0 a d q _ _ _ h
 exact q p h
def Kk(h:POrd n p)(us:List Value)(d:us.length=n):(p.toList.map λi=>us.getD i Value.none).Perm us:=by
 have h1:p.toList.Perm (List.range n):=by simpa using h.toList
 have h2:=h1.map λi=>us.getD i Value.none;have a:(List.range n).map (λi=>us.getD i Value.none)=us:=by
  apply List.ext_getElem?;intro i;rw[zai];by_cases hi:i<n
  .rw[List.getElem?_range hi,zaf aD]
   simp[zeL,zaf (show i<us.length by lia)]
  rw[zbM (by simp;lia),zbM aD]
  rfl
 rw[a]at h2;exact h2
theorem vz{α:Type}:∀l:List α,(l.zip l).map (λx=>x.2)=l
 |[]=>rfl
 |a::l=>by rw[zaM,zaB,vz l]
section
theorem POrd.size(h:POrd n p):p.size=n:=by
 have:=h.size_eq;simpa using this
end
end
noncomputable def Itb(K:W.Frag)(a:Addr)(n:Nat):It:=⟨λi H=>(∃E,SqL K H a E/\E.length=n)/\i<n,λi H x H'=>H'=H/\∀E,SqL K H a E->E[n-1-i]?=some x,λi H=>(∃E,SqL K H a E/\E.length=n)/\i=n⟩
def Ll{P:Program}{w:World}{K:W.Frag}{tg:Expr}(a it:Addr)(n:Nat):Turn P w K tg (Itb K a n) [it] it (λi h=>h.IsRevIter it a ((n:Int)-1-(i:Int))) where
 mem:=by simp
 obj:=λi h st b j=>by
  have e:b=it:=by simpa using j
  subst e;obtain⟨o,e,c,d⟩:=st;exact⟨o,e,λv z=>by rw[d]at z;cases z⟩
 keep:=λi h h' st k=>st.at λo e=>k it aE o e
 item:=by
  intro X B q D Z i pn s G H xs I l st y;subst B q D;obtain⟨⟨E,r,hl⟩,hi⟩:=y;obtain⟨its,rv,p,hz⟩:=I.list r;obtain⟨x,V⟩:∃x,E[n-1-i]?=some x:=⟨E[n-1-i]' aD,by simp⟩
  obtain⟨u,hu,ru⟩:=rv.get V;obtain⟨O,N,f2,M,L,J⟩:=l it aE
  have R:(n:Int)-1-(i:Int)=((n-1-i:Nat):Int):=by lia
  rw[R]at st;refine wpAny_pyNext_rev_item st p.isList (x:=u) (by simpa using hu) λh' g sb=>?_
  have I1:Inv X pn G H {s with heap:=h'}:=I.turned (t':=s.toks) (λb o j e=>(sb.2 b j).trans e) O N M L J;obtain⟨o,e,c,d⟩:=id g;have Q:((n-1-i:Nat):Int)-1=(n:Int)-1-((i+1:Nat):Int):=by lia
  rw[Q]at g;exact⟨u,rfl,Qp (s:={s with heap:=h'}) e c d aB ⟨x,H,I1,ru,⟨rfl,λys hy=>by rw[I.list_inj hy r];exact V⟩,g,λb j=>(l b j).1⟩⟩
 done:=by
  intro X B q D Z i pn s G H xs I l st y;subst B q D;obtain⟨⟨E,r,hl⟩,hi⟩:=y;obtain⟨O,N,f2,M,L,J⟩:=l it aE
  have R:(n:Int)-1-(i:Int) = -1:=by lia
  rw[R]at st;exact wpAny_pyNext_rev_end (I.ok.hd Z) st λh' eb=>⟨rfl,I.turned (t':=s.toks) (λb o j e=>eb b o j e) O N M L J⟩
 self:=λ_ _ _ _ _ st h=>wpAny_pyIter_revIter st h
def qv:bootBuiltins "reversed" = some (.type "reversed"):=by kernel_rfl
def z4z(K:W.Frag)(ta:TA):TI:=λG H R=>ta G H λvs H1=>∃l E,vs=[.ref l]/\SqL K H1 l E/\R (Itb K l E.length) H1
def z0h{X:Cx}{tg a:Expr}{ta:TA}{p pos:Pos}(v:Gl X "reversed")(r:X.mg "reversed" = none)(z:PA X [a] ta)(x:autoParam (starEach [a] X.env=(false,eval a X.env)::starEach [] X.env) zSr):PI X tg (.Call (.Name "reversed" p) [a] [] pos) (z4z X.K ta):=by
 intro pn s G H R I h;refine zbR (sw I v r qv ?_ aB aB)
 refine zbB (thn (z pos pn s G H _ I h) λus s1 Zh=>?_) x (by rfl)
 obtain⟨vs,H1,d,k,l,E,e,e1,q⟩:=Zh;subst e;obtain⟨u,rfl,j⟩:=sj k;cases j;obtain⟨its,g,pl,B⟩:=d.list e1;have hl:=g.length;refine call_reversed_list pl.isList ?_;have st:(s1.heap.push (revObj l ((its.toArray.size:Int)-1))).IsRevIter s1.z l ((E.length:Int)-1-((0:Nat):Int)):=by
  refine⟨_,zad _ rfl,rfl,?_⟩;show Data.fields #[.ref l,rawInt ((its.toArray.size:Int)-1)]=_;rw[show((its.toArray.size:Int)-1)=(E.length:Int)-1-((0:Nat):Int) by rw[zap];lia]
 refine wpAny_pyIter_revIter st ?_;refine⟨s1.z,[s1.z],_,_,H1,rfl,d.kept (t':=s1.toks) λb o e=>zac _ e,Ll l _ E.length,st,λb y=>?_,q⟩;have e:b=s1.z:=by simpa using y
 subst e;exact d.fpOk (zaj _) (d.hok.fresh (zaj _))
def iB(t:TDs):TID:=λU Y=>t U λrs=>match rs with
 | [r]=>(nw r)/\(match r.d with
  |.lst l=>Y l.reverse
  | _=>False)
 |_=>False
def z1y{K:W.Frag}{l:Addr}{S:List D}:ItD K (Itb K l S.length) S.reverse (λH O=>Rep K H O (.lst S) (.ref l)) where
 go:=λH O i d j e=>by
  obtain⟨a,E,k,q,_,r⟩:=j;cases k;have hi:i<S.length:=by have:=(zag.mp e).1;simpa using this
  rw[List.getElem?_reverse hi]at e;obtain⟨v,z,u⟩:=r.get e;refine⟨⟨⟨E,SqL.of q,r.length⟩,hi⟩,λx H' y=>?_⟩;obtain⟨e1,y⟩:=y;subst e1;have:=y E (SqL.of q);rw[z]at this;cases this;exact⟨Same.refl _,u⟩
 stop:=λH O j=>by
  obtain⟨a,E,k,q,_,r⟩:=j;cases k;exact⟨⟨E,SqL.of q,r.length⟩,by rw[zaJ]⟩
 keep:=λO O' H H' j g=>RepN.grow g _ _ j
def T3{tg a:Expr}{t:TDs}{p pos:Pos}(x:X.mg "reversed" = none)(B:EA L X [a] t)(y:autoParam (Gl X "reversed") zSr)(z:autoParam (starEach [a] X.env=(false,eval a X.env)::starEach [] X.env) zSr):EI L X tg (.Call (.Name "reversed" p) [a] [] pos) (iB t):=λH_=>impI (z0h y x (B H_) z) λG H R q=>by
 obtain⟨U,o,D,Y,g,k⟩:=q;refine⟨U,o,D,_,g,λvs rs H1 s1 e h1=>?_⟩;split at h1
 .rename_i r;obtain⟨v,h1⟩:=h1;obtain⟨I,w1,rfl,u,rfl⟩:=e;have j:=u.solid (vq v);obtain⟨M,d⟩:=r;cases d with
  |lst l =>
   obtain⟨a,E,rfl,q,J,r⟩:=id j;refine⟨a,E,rfl,SqL.of q,?_⟩;rw[r.length];exact k _ _ _ H1 s1 z1y j h1
  |_=>exact h1.elim
 exact h1.elim
noncomputable def cstD:Cst->D
 |.int i=>.int i
 |.str x=>.str x
 |.tup cs=>.cn (.tup cs)
def Ed:∀{c:Cst}{v:V},CRep K c v->Rep K H O (cstD c) v
 |.int _,_,h=>h
 |.str _,_,h=>h
 |.tup _,_,h=>h
theorem Sb:∀{cs:List Cst}{E:List V},P6 K cs E->Reps K H O (cs.map cstD) E
 |[],_,h=>h
 |c::cs,E,h=>by
  obtain⟨v,r,e,q,t⟩:=h;exact⟨v,r,e,Ed q,Sb t⟩
def F8{cs:List Cst}(h:CRep K (.tup cs) v):∃a E,v=.ref a/\SqT K H a E/\P6 K cs E:=by
 obtain⟨a,o,its,n,E,e,l,c,d,z,r,t⟩:=h;exact⟨a,E,e,.inr ⟨o,its,n,l,c,d,z,r⟩,t⟩
theorem Zy:∀ws:List Str,P6 K (ws.map Cst.str) (ws.map V.str)
 |[]=>rfl
 |w::ws=>⟨_,_,rfl,rfl,Zy ws⟩
theorem Va:∀{cs:List Cst}{E:List V},P6 K cs E->E.length=cs.length
 |[],_,h=>by cases (show _=[] from h);rfl
 |c::cs,E,h=>by
  obtain⟨v,r,e,q,t⟩:=h;subst e;simp[Va t]
def Jh{K:W.Frag}{mg:Str->Option Value}{x:Str}{o:Obj}{n:Nat}{ws:List Str}(g:mg x=some (.ref a))(hl:K.lookup a=some o)(k:o.cls=.type "tuple")(j:o.data=.seq its n)(e:its.size<=sizeLine)(d:Vals (ws.map V.str) its.toList) :
  GC K mg x (.cn (.tup (ws.map Cst.str))):=⟨.ref a,.ref a,g,rfl,λ_ _=>⟨a,o,its,n,_,rfl,hl,k,j,e,d,Zy ws⟩⟩
section
variable{tg e:Expr}{es:List Expr}{te:TD}{t:TDs}{p pos:Pos}
def iCn(te:TD):TID:=λU Y=>te U λr=>match r.k,r.d with
 |.val,.cn (.tup cs)=>Y (cs.map cstD)
 |_,_=>False
def z2r(l:ED L X e te):EI L X tg e (iCn te):=λH_=>impI (z0i (l H_) G5) λG H R q=>by
 obtain⟨U,o,x,Y,g,k⟩:=q;refine⟨U,o,x,_,g,λv r H1 s1 j h1=>?_⟩;obtain⟨y,d⟩:=r
 dsimp only at h1
 split at h1
 .rename_i cs;obtain⟨a,E,rfl,q,u⟩:=F8 (H:=H1) (show CRep X.K (.tup cs) v from j);exact⟨a,rfl,⟨E,q⟩,k _ _ _ H1 s1 Gv ⟨E,q,Sb u⟩ h1⟩
 exact h1.elim
def sLenC:FT:=λS Y=>match S with
 |[.cn (.tup cs)]=>Y (dv (.int cs.length))
 |_=>False
def Co(j:X.mg "len" = none)(u:EA L X (e::es) t)(l:autoParam (Gl X "len") zSr)(r:autoParam (S_ X e es) zSr)(d:autoParam (B_ X es pos) zSr):ED L X (.Call (.Name "len" p) (e::es) [] pos) (dCB sLenC t) :=
 ut rm (λH O S vs Y Q ho g h k=>by
  unfold sLenC at h;split at h
  .rename_i cs;obtain⟨v,ws,rfl,h1,rfl⟩:=g;obtain⟨a,E,rfl,q,x⟩:=F8 (H:=H) (show CRep X.K (.tup cs) v from h1);refine⟨a,E,rfl,.inr q,?_⟩;rw[Va x];exact k _ _ H (Same.refl H) aH h
  exact h.elim) j zfM u l aB aB r d
end
noncomputable def dd(l:List Str)(k:Str):List Str:=if k∈l then l else l++[k]
noncomputable def fm(val:Nat->Str)(i:Nat):List Str:=((List.range i).map val).foldl dd []
noncomputable def many(l:List Str):Nat:=(l.foldl dd []).length
def t7:entryFor table "dict.update.loop" = some Builtin.«dict.update.loop»:=zfV (by kernel_rfl)
def wa:plainId "dict.update.loop" = true:=by decide +kernel
structure L5(P:Program)(w:World)(K:W.Frag)(a:Addr)(f:Str->Option Value):Prop where
 at_:∃es ep,K.lookup a=some {cls:=.type "dict",data:=.dict es ep}/\KeysOf (strKind P w) es/\∀k,findBy (strKind P w).is es k=f k
 ne:(a==sysModules)=false
variable{f:Str->Option Value}
def L5.map(T:L5 X.prog X.w X.K a f)(I:Inv X pn G H s):s.heap.MapOf (strKind X.prog X.w) a f:=by
 obtain⟨es,ep,d,e,g⟩:=T.at_;exact⟨_,es,ep,I.kIn a _ d,⟨rfl,rfl,rfl⟩,rfl,e,g⟩
variable{o e:Expr}{apos cpos:Pos}{td te:TE}
def Gp{a b:List (Key×V)}{x y:List (Key×Value)}(h:KV a x)(g:KV b y):KV (a++b) (x++y):=by
 induction h with
 |nil=>exact g
 |cons h t ih=>exact .cons h ih
def J7{a:List (Key×V)}{b:List (Key×Value)}(h:KV a b):b.map (·.1)=a.map (·.1):=by
 induction h with
 |nil=>rfl
 |cons h t ih=>rw[zaB,zaB,ih,h.1]
def Bq(td te:TE):TE:=λG H Q=>td G H λx H1=>∃a kvs0,x=.ref a/\H1 a=some (.dK kvs0)/\te G H1 λy H2=>∃b kvs more,y=.ref b/\a≠b/\H2 a=some (.dK kvs)/\H2 b=some (.dK more)/\kvs.length+more.length<=sizeLine/\((kvs++more).map (·.1)).Nodup/\Q .non (upd H2 a (.dK (kvs++more)))
def D5(ho:PE X o td)(W:PE X e te)(m:M1 X o "update" apos e cpos):PE X (.Call (.Attribute o "update" apos) [e] [] cpos) (Bq td te):=by
 intro pn s G H Q I h;refine wpAny_Call_method m.base m.few m.line PySem.F.plainAttrs_dict PySem.F.slot_dict_update PySem.F.type_dict_update (thn (ho pn s G H _ I h) λu s1 Zh=>?_);obtain⟨x,H1,J,N,a,B,ex,d,R⟩:=Zh;subst ex;obtain rfl:u=Value.ref a:=N;obtain⟨t1,t2,_⟩:=z2a J (.inl ⟨_,.inl d⟩);refine⟨t1,t2,?_⟩;rw[m.trees];refine zfG rfl (Calls.evalArgs_plain (Calls.spliced_cons (thn (W pn s1 G H1 _ J R) λV s2 Zq=>Calls.spliced_nil ?_)));obtain⟨y,H2,z,M,b,kvs,more,ey,j,D,Z,hl,k,O⟩:=Zq;subst ey;obtain rfl:V=Value.ref b:=M;obtain⟨z1,v,ks,g,d1⟩:=Hc z.hok D;obtain⟨z2,r,ms,r2,d2⟩:=Hc z.hok Z;refine call_meetsIn PySem.F.slot_dict_update d1.typeIs PySem.F.entry_dict_update (PySem.F.args_dict_update_2 _ _) (meets_dict_update (yq X.prog X.w) a b j r) ⟨ks,ms,d1,d2,by rw[<- g.length,<- r2.length];exact hl,λh' dd a0 L=>?_⟩
 have e:merged ks ms=ks++ms:=merged_append_of_fresh ks ms (by rw[J7 (Gp g r2)];exact k)
 rw[e]at dd;have l:∃q,h'.get? a=some q:=by obtain⟨q,_,_,hq,_⟩:=dd;exact ⟨q,hq⟩
 exact⟨.non,_,Xk (t':=s2.toks) z (by rw[D];exact zcV) L l (V7 (by rw[zLa];exact hl) v (Gp g r2) dd),rfl,O⟩
section
variable{x:Str}
theorem Vo{α d:Type}:∀(a:List α)(x:List d)(b:List α)(y:List d),a.length=x.length->(a++b).zip (x++y)=a.zip x++b.zip y
 |[],[],_,_,_=>rfl
 |_::_,[],_,_,h=>by cases h
 |[],_::_,_,_,h=>by cases h
 |a::as,x::E,b,y,h=>by
  show(a,x)::(as++b).zip (E++y)=(a,x)::(as.zip E++b.zip y);rw[Vo as E b y (by simpa using h)]
end
theorem W2{K:W.Frag}{H:Hp}{O:List Addr}:∀{ns:List Str}{E:List V},Reps K H O (ns.map D.str) E->E=ns.map V.str
 |[],_,h=>h
 |n::ns,E,h=>by
  obtain⟨v,r,rfl,q,t⟩:=h;cases (show v=_ from q);rw[W2 t];rfl
section
def Vh:bootBuiltins "set" = some (.type "set"):=by kernel_rfl
end
section
open PySem PySem.Spec PySem.W PyProof.Rows
noncomputable def z4t(D:Addr)(i n ep:Nat)(d a g e:Value):Obj:={cls:=.type "dict_itemiterator",dict:=none,data:=.fields #[d,a,.ref D,.int i 0,.int n 0,.int ep 0,g,e],slots:=#[]}
def RawJ(h:Heap)(J D:Addr)(i n ep:Nat):Prop:=∃x0 x1 o1 o2,h.get? J=some (z4t D i n ep x0 x1 o1 o2)/\((x0=.none/\x1=.bool false)\/∃(b:Addr)(f:Bool)(ob:Obj),x0=rawInt b/\x1=.bool f/\h.get? b=some ob/\b≠J)
noncomputable def z4k(e:DictEntry):Obj:={cls:=.type "tuple",data:=.seq #[e.key,e.val]}
def RawJ.lt{J D:Addr}(y:RawJ h J D i n ep):J<h.objs.size:=by obtain⟨_,_,_,_,e,_⟩:=y;exact zae e
def L8(h:Heap)(rows:Array DictEntry)(J:Addr)(as:List Addr):Prop:=(∀a∈as,J<a)/\as.Nodup/\∀(j:Nat) a,as[j]?=some a->∃e,rows[j]?=some e/\h.get? a=some (z4k e)
def L8.lt{h:Heap}{rows:Array DictEntry}{J a:Addr}{as:List Addr}(p:L8 h rows J as)(m:a∈as):a<h.objs.size:=by
 obtain⟨j,d⟩:=zbJ m;obtain⟨e,_,g⟩:=p.2.2 j a d;exact zae g
end
def Hk{α:Type}{a:Addr}{k:Option Obj->Sem α}{Q:α->Shared->Prop}{xs:Value->Shared->Prop}{s:Shared}(h:wpAny M A (k (s.heap.get? a)) Q xs s):wpAny M A (Sem.loadIfAlive a k) Q xs s:=λL p d=>by
 rw[Sem.wp_loadIfAlive];exact h L p d
def ZipF(h:Heap)(z ti to a:Addr)(d:Bool):Prop:=h.get? z=some {cls:=.type "zip",dict:=none,data:=.fields #[rawInt a,.bool d,.bool false,.ref ti,.ref to],slots:=#[]}
def Nv{e:Bool}{o:Obj}{Q:Bool->Shared->Prop}(d:ZipF s.heap z ti to a e)(l:s.heap.get? a=some o)(j:∀ g,ZipF g z ti to a true->Heap.SameBut z s.heap g->Q false {s with heap:=g}):wpAny (model P w) A (Builtin.SmallTypes.ownedTupleIsFree (.ref z)) Q xs s:=by
 unfold Builtin.SmallTypes.ownedTupleIsFree;refine zaa (zbE d rfl (x:=rawInt a) rfl ?_);show wpAny _ _ (Sem.loadIfAlive (Int.toNat (a:Int)) _) _ _ _;refine Hk ?_;rw[zcF,l];show wpAny _ _ (field (.ref z) 1 >>= _) _ _ _;refine zaa (zbE d rfl (x:=.bool e) rfl ?_);cases e with
 |true=>exact zab (j s.heap d (Heap.SameBut.refl _ _))
 |false =>
  show wpAny _ _ (setField (.ref z) 1 (.bool true) >>= _) _ _ _;refine zaa (zdA d aE λg k s1=>?_)
  exact zab (j g k s1)
def P8{b1 b2:Bool}{z ti to i1 i2 l1 l2 a:Addr}{W:Bool}{o:Obj}{k:Nat}{E ys:Array Value}{x y:Value}{Q:Value->Shared->Prop}(J:i1≠z)(I:i2≠z)(d:i1≠i2)(nt:ti≠z)(G:ti≠i1)(r:l1≠z)(l:l2≠z)(q:l2≠i1)(u:ZipF s.heap z ti to a W)(R:s.heap.get? a=some o)(B:IsPair s.heap ti (.ref i1) (.ref i2))(h1:ItAt b1 s.heap i1 l1 k)(h2:ItAt b2 s.heap i2 l2 k)(t1:SqAt b1 s.heap l1 E)(t2:SqAt b2 s.heap l2 ys)(O:E[k]?=some x)(N:ys[k]?=some y)(V:∀ g,ZipF g z ti to a true->ItAt b1 g i1 l1 (k+1)->ItAt b2 g i2 l2 (k+1)->IsPair g s.z x y->g.objs.size=s.z+1->(∀ c o,c≠z->c≠i1->c≠i2->s.heap.get? c=some o->g.get? c=some o)->Q (.ref s.z) {s with heap:=g}) :
  wpAny (model P w) A (Builtin.«zip.__next__» ⟨[.ref z],[]⟩) (λD s'=>∃v,D=.done (.ret v)/\Q v s') xs s:=by
 show wpAny _ _ (field (.ref z) 2 >>= _) _ _ _;refine zaa (zbE u rfl (x:=.bool false) rfl ?_);show wpAny _ _ (field (.ref z) 3 >>= _) _ _ _;refine zaa (zbE u rfl (x:=.ref ti) rfl ?_);refine zaa (zcK B rfl ?_);show wpAny _ _ (Builtin.SmallTypes.ownedTupleIsFree (.ref z) >>= _) _ _ _;refine zaa (Nv u R λg1 L s1=>?_);simp only[zbZ,zeP];refine zaa ?_;rw[<- Array.forIn_toList];simp only[zfA,List.forIn_nil];refine zaa (zaa (zaZ ?_));show wpAny _ _ (Builtin.SmallTypes.nextOf (.ref i1) >>= _) _ _ _;refine zaa (t4 (h1.at λo e=>s1.extBut _ o J e) (t1.at λo e=>s1.extBut _ o r e) O λg2 p2 s2=>zab (zab ?_));refine zaa (zaa (zaZ ?_));show wpAny _ _ (Builtin.SmallTypes.nextOf (.ref i2) >>= _) _ _ _;refine zaa (t4 (h2.at λo e=>s2.extBut _ o d.symm (s1.extBut _ o I e)) (t2.at λo e=>s2.extBut _ o q (s1.extBut _ o l e)) N λg3 M j=>zab (zab (zab ?_)));show wpAny _ _ (newTuple [x,y] >>= _) _ _ _;refine zaa (wpAny_newTuple ?_);have sz:g3.objs.size=s.z:=by rw[j.1,s2.1,s1.1]
 refine zab ⟨_,rfl,?_⟩;show Q (.ref g3.objs.size) _;rw[sz];have up:∀c o,c≠z->c≠i1->c≠i2->s.heap.get? c=some o->(g3.push {cls:=.type "tuple",data:=.seq #[x,y]}).get? c=some o:=λc o c1 c2 Z e=>zac _ (j.extBut _ _ Z (s2.extBut _ _ c2 (s1.extBut _ _ c1 e)));refine V _ (zac _ (j.extBut _ _ I.symm (s2.extBut _ _ J.symm L))) ((p2.at λo e=>j.extBut _ o d e).at λo e=>zac _ e) (M.at λo e=>zac _ e) ?_ (by rw[zcR,sz]) up
 have:=zad g3 (o:=({cls:=.type "tuple",data:=.seq #[x,y]}:Obj)) rfl;rw[sz]at this;exact this
def Ld{b1 b2:Bool}{z ti to i1 i2 l1 l2 a:Addr}{o:Obj}{E:Array Value}{Q:Fin->Shared->Prop}(y:A.handled=none)(r:i1≠z)(d:l1≠z)(j:ZipF s.heap z ti to a fb)(D:s.heap.get? a=some o)(l:IsPair s.heap ti (.ref i1) (.ref i2))(h1:ItAt b1 s.heap i1 l1 k)(t1:SqAt b1 s.heap l1 E)(v:E[k]?=none)(G:∀ g e,(∀ c o,c≠z->c≠i1->s.heap.get? c=some o->g.get? c=some o)->(∃ o,g.get? e=some o/\o.cls=.type "StopIteration")->xs (.ref e) {s with heap:=g}) :
  wpAny (model P w) A (Builtin.«zip.__next__» ⟨[.ref z],[]⟩) Q xs s:=by
 show wpAny _ _ (field (.ref z) 2 >>= _) _ _ _;refine zaa (zbE j rfl (x:=.bool false) rfl ?_);show wpAny _ _ (field (.ref z) 3 >>= _) _ _ _;refine zaa (zbE j rfl (x:=.ref ti) rfl ?_);refine zaa (zcK l rfl ?_);show wpAny _ _ (Builtin.SmallTypes.ownedTupleIsFree (.ref z) >>= _) _ _ _;refine zaa (Nv j D λg1 L s1=>?_);simp only[zbZ,zeP];refine zaa ?_;rw[<- Array.forIn_toList];simp only[zfA,List.forIn_nil];refine zaa (zaa (zaZ ?_));show wpAny _ _ (Builtin.SmallTypes.nextOf (.ref i1) >>= _) _ _ _;refine zaa (c9 y (h1.at λo e=>s1.extBut _ o r e) (t1.at λo e=>s1.extBut _ o d e) v λg2 e u B=>?_);exact G g2 e (λc o J I q=>u c o I (s1.extBut _ _ J q)) B
def Qd{o:Obj}{E ys:Array Value}{x y:Value}{Q:Option Value->Shared->Prop}(N:i1≠z)(M:i2≠z)(e:i1≠i2)(L:ti≠z)(d:ti≠i1)(q:l1≠z)(j:l2≠z)(l:l2≠i1)(u:ZipF s.heap z ti to a fb)(V:s.heap.get? a=some o)(r:IsPair s.heap ti (.ref i1) (.ref i2))(h1:ItAt b1 s.heap i1 l1 k)(h2:ItAt b2 s.heap i2 l2 k)(t1:SqAt b1 s.heap l1 E)(t2:SqAt b2 s.heap l2 ys)(R:E[k]?=some x)(O:ys[k]?=some y)(W:∀ g,ZipF g z ti to a true->ItAt b1 g i1 l1 (k+1)->ItAt b2 g i2 l2 (k+1)->IsPair g s.z x y->g.objs.size=s.z+1->(∀ c o,c≠z->c≠i1->c≠i2->s.heap.get? c=some o->g.get? c=some o)->Q (some (.ref s.z)) {s with heap:=g}) :
  wpAny (model P w) A (pyNext (.ref z)) Q xs s:=by
 have ty:s.TypeIs (.ref z) "zip":=⟨_,u,rfl⟩;unfold pyNext;exact zaa (zdP (zbA (name:=Str.ofString "__next__") ty zdI (zbF zdI ty zfU (P8 N M e L d q j l u V r h1 h2 t1 t2 R O λg J I G D B v=>zab (W g J I G D B v)) (zfK _))))
def N1{o:Obj}{E:Array Value}{Q:Option Value->Shared->Prop}(v:A.handled=none)(q:i1≠z)(d:l1≠z)(l:ZipF s.heap z ti to a fb)(B:s.heap.get? a=some o)(j:IsPair s.heap ti (.ref i1) (.ref i2))(h1:ItAt b1 s.heap i1 l1 k)(t1:SqAt b1 s.heap l1 E)(u:E[k]?=none)(D:∀ g,(∀ c o,c≠z->c≠i1->s.heap.get? c=some o->g.get? c=some o)->Q none {s with heap:=g}):wpAny (model P w) A (pyNext (.ref z)) Q xs s:=by
 have ty:s.TypeIs (.ref z) "zip":=⟨_,l,rfl⟩;unfold pyNext;refine zaa (zdP (zbA (name:=Str.ofString "__next__") ty zdI (zbF zdI ty zfU (Ld (b2:=b1) (l2:=l1) v q d l B j h1 t1 u λg e r x=>?_) (zfK _))));obtain⟨o,ho,y⟩:=x;refine zaa (zdY (T:="StopIteration") (b:=true) ⟨o,ho,y⟩ isSubtype_stop ?_);exact zab (D _ r)
def PairsZ(h:Heap)(E ys:Array Value)(J:Addr)(as:List Addr):Prop:=(∀a∈as,J<a)/\as.Nodup/\∀(j:Nat) a,as[j]?=some a->∃x y,E[j]?=some x/\ys[j]?=some y/\IsPair h a x y
def PairsZ.lt{h:Heap}{E ys:Array Value}{J a:Addr}{as:List Addr}(p:PairsZ h E ys J as)(m:a∈as):a<h.objs.size:=by
 obtain⟨j,d⟩:=zbJ m;obtain⟨x,y,_,_,g⟩:=p.2.2 j a d;exact zae g
def PairsZ.alive{h:Heap}{E ys:Array Value}{J a:Addr}{as:List Addr}(p:PairsZ h E ys J as)(m:a∈as):∃o,h.get? a=some o:=by
 obtain⟨j,d⟩:=zbJ m;obtain⟨x,y,_,_,g⟩:=p.2.2 j a d;exact⟨_,g⟩
def PairsZ.to{h k:Heap}{E ys:Array Value}{J:Addr}{as:List Addr}(p:PairsZ h E ys J as)(f:∀ a o,a∈as->h.get? a=some o->k.get? a=some o):PairsZ k E ys J as :=
 ⟨p.1,p.2.1,λj a e=>let ⟨x,y,e1,e2,g⟩:=p.2.2 j a e;⟨x,y,e1,e2,f a _ (zan e) g⟩⟩
def PairsZ.snoc{h:Heap}{E ys:Array Value}{J a:Addr}{as:List Addr}{x y:Value}(p:PairsZ h E ys J as)(r:J<a)(e:a∉as)(ex:E[as.length]?=some x)(u:ys[as.length]?=some y)(g:IsPair h a x y):PairsZ h E ys J (as++[a]):=by
 refine⟨λb q=>?_,?_,λj b d=>?_⟩
 .rcases zas.mp q with m|m
  .exact p.1 b m
  rw[zaC.mp m];exact r
 .rw[zaO];refine⟨p.2.1,by simp,λx l y k z=>?_⟩
  rw[zaC.mp k]at z;subst z;exact e l
 by_cases hl:j<as.length
 .rw[zaG hl]at d;exact p.2.2 j b d
 have:j=as.length:=by
  have:=(zag.mp d).1;simp at this;lia
 subst this;have v:a=b:=by simpa using d
 subst v;exact⟨x,y,ex,u,g⟩
def ZS(b1 b2:Bool)(z ti to i1 i2 l1 l2:Addr)(as:List Addr)(i:Nat)(h:Heap):Prop :=
 (i=0/\ZAt b1 b2 h z ti to i1 i2 l1 l2 .none 0)\/(∃a fb,a∈as/\ZipF h z ti to a fb/\IsPair h ti (.ref i1) (.ref i2)/\ItAt b1 h i1 l1 i/\ItAt b2 h i2 l2 i)
def ZS.to{b1 b2:Bool}{z ti to i1 i2 l1 l2:Addr}{as:List Addr}{i:Nat}{h g:Heap}(Z:ZS b1 b2 z ti to i1 i2 l1 l2 as i h)(k:∀ c o,(c=z\/c=ti\/c=to\/c=i1\/c=i2)->h.get? c=some o->g.get? c=some o):ZS b1 b2 z ti to i1 i2 l1 l2 as i g:=by
 rcases Z with⟨e,Z⟩|⟨a,r,m,l,t1,q,p2⟩
 .obtain⟨j,its,⟨a,b,out⟩,one,d⟩:=Z;exact .inl ⟨e,k _ _ (.inl rfl) j,k _ _ (.inr (.inl rfl)) its,⟨a,b,k _ _ (.inr (.inr (.inl rfl))) out⟩,one.at λo e=>k _ o (.inr (.inr (.inr (.inl rfl)))) e,d.at λo e=>k _ o (.inr (.inr (.inr (.inr rfl)))) e⟩
 exact .inr ⟨a,r,m,k _ _ (.inl rfl) l,k _ _ (.inr (.inl rfl)) t1,q.at λo e=>k _ o (.inr (.inr (.inr (.inl rfl)))) e,p2.at λo e=>k _ o (.inr (.inr (.inr (.inr rfl)))) e⟩
section
variable{b1 b2:Bool}{z ti to i1 i2 l1 l2 ds:Addr}{E ys:Array Value}
def Fa{as:List Addr}{i:Nat}{x y:Value}{Q:Option Value->Shared->Prop}(D:ZNe z ti to i1 i2)(d1:ZOff z to i1 i2 l1)(d2:ZOff z to i1 i2 l2)(Z:ZS b1 b2 z ti to i1 i2 l1 l2 as i s.heap)(L:PairsZ s.heap E ys ds as)(t1:SqAt b1 s.heap l1 E)(t2:SqAt b2 s.heap l2 ys)(l:E[i]?=some x)(k:ys[i]?=some y)(u:∀ g,ZS b1 b2 z ti to i1 i2 l1 l2 (as++[s.z]) (i+1) g->IsPair g s.z x y->(∀ c o,ZOff z to i1 i2 c->s.heap.get? c=some o->g.get? c=some o)->Q (some (.ref s.z)) {s with heap:=g}) :
  wpAny (model P w) A (pyNext (.ref z)) Q xs s:=by
 rcases Z with⟨rfl,Z⟩|⟨a,R,m,v,r,M,p2⟩
 .refine Wb D d1 d2 Z t1 t2 l k λg d pr N=>u g (.inr ⟨s.z,false,zaE _ (zaC.mpr rfl),d.zz,d.its,d.one,d.two⟩) pr N
 obtain⟨o,ho⟩:=L.alive m;refine Qd D.ad D.ae D.de D.ab D.bd d1.1 d2.1 d2.2.2.1 v ho r M p2 t1 t2 l k λg J I G B O j=>u g (.inr ⟨a,true,zaH _ m,J,j _ _ D.ab D.bd D.be r,I,G⟩) B λc o q e=>j c o q.1 q.2.2.1 q.2.2.2 e
def Cw{as:List Addr}{i:Nat}{Q:Option Value->Shared->Prop}(j:A.handled=none)(D:ZNe z ti to i1 i2)(d1:ZOff z to i1 i2 l1)(d2:ZOff z to i1 i2 l2)(Z:ZS b1 b2 z ti to i1 i2 l1 l2 as i s.heap)(u:PairsZ s.heap E ys ds as)(t1:SqAt b1 s.heap l1 E)(t2:SqAt b2 s.heap l2 ys)(d:E[i]?=none)(l:∀ g,(∀ c o,ZOff z to i1 i2 c->s.heap.get? c=some o->g.get? c=some o)->Q none {s with heap:=g}):wpAny (model P w) A (pyNext (.ref z)) Q xs s:=by
 rcases Z with⟨rfl,Z⟩|⟨a,y,m,r,x,v,p2⟩
 .exact Sv j D d1 d2 Z t1 t2 (.inl d) l
 obtain⟨o,ho⟩:=u.alive m;exact N1 j D.ad d1.1 r ho x v t1 d λg k=>l g λc o q e=>k c o q.1 q.2.2.1 e
end
theorem jr:∀{ts:List Str}{us:List Value},Vals (ts.map V.str) us->∃l:List (Str×Tok),us=strValues l/\l.map (·.1)=ts
 |[],_,.nil=>⟨[],rfl,rfl⟩
 |t::ts,_,.cons r q=>by
  obtain⟨k,rfl⟩:=r;obtain⟨l,rfl,e⟩:=jr q;exact⟨(t,k)::l,rfl,by rw[zaB,e]⟩
theorem Wg(n:Nat):∀(ts:List Str)(a:Nat),ts.foldl (λd (t:Str)=>d+t.length+n) a=a+(ts.map λt=>t.length+n).sum
 |[],a=>by simp
 |t::ts,a=>by
  rw[List.foldl_cons,Wg n ts,zaB,List.sum_cons];lia
def Dk:MtR X "str.join" (λx E H Q=>∃a p ts,x=.str a/\E=[.ref p]/\(SqL X.K H p (ts.map V.str)\/SqT X.K H p (ts.map V.str))/\(ts.map λt=>t.length+a.length).sum<=sizeLine/\Q (.str (Str.join a ts)) H):=by
 intro pn s G H x E v us Q I L rs h;obtain⟨a,p,ts,rfl,rfl,k,J,q⟩:=h;obtain⟨t,rfl⟩:=L;obtain⟨u,rfl,M⟩:=sj rs;cases M;have z:∀l:List (Str×Tok),l.map (·.1)=ts->(joinMade a l).post (λv s'=>EP X pn G Q v s') s:=λl j=>by
  have D:(Builtin.Str.glued a ts).length<=sizeLine:=by
   rw[size_glued];refine zak ?_ J;have e:(ts.map λt=>t.length+a.length).sum=(ts.map (·.length)).sum+ts.length*a.length:=by
    clear J q k j
    induction ts with
    |nil=>simp
    |cons t ts ih=>simp[ih,Nat.add_mul];lia
   rw[e];exact Nat.add_le_add_left (zeM _ (Nat.sub_le _ _)) _
  have y:EP X pn G Q (.str (Builtin.Str.glued a ts) s.toks) {s with toks:=s.toks+1}:=⟨.str (Str.join a ts),H,I.tok _,⟨s.toks,by rw[PySem.StrLaws.glued_eq_join]⟩,q⟩
  match l,j with
  |[],j=>subst j;exact⟨D,y⟩
  |[p],j=>subst j;exact⟨.str p.1,H,I,⟨p.2,rfl⟩,q⟩
  |p::r::l,j=>subst j;exact⟨D,y⟩
 have hl:∀l:List (Str×Tok),l.map (·.1)=ts->Builtin.Str.tooLong ((l.map (·.1)).toArray.foldl (·+·.length+a.length) 0)=false:=λl j=>by
  rw[j];unfold Builtin.Str.tooLong;simp only[List.foldl_toArray];rw[Wg];simp;lia
 rcases k with k|k
 .obtain⟨its,B,pl,N⟩:=I.list k;obtain⟨l,rfl,j⟩:=jr B;exact zeV zfS (typeIs_str s a t) PySem.F.entry_str_join (PySem.F.args_str_join_2 _ _) (meets_str_join_list a t p l (hl l j)) ⟨pl.isList,z l j⟩
 obtain⟨its,B,pl,N⟩:=I.tuple k;obtain⟨l,rfl,j⟩:=jr B;obtain⟨o,g,c,n,d⟩:=pl;exact zeV zfS (typeIs_str s a t) PySem.F.entry_str_join (PySem.F.args_str_join_2 _ _) (meets_str_join_tuple a t p l (hl l j)) ⟨⟨o,n,g,c,d⟩,z l j⟩
theorem jv{K:W.Frag}{H:Hp}{O:List Addr}:∀{ns:List Str}{E:List V},Reps K H O (ns.map D.str) E->E=ns.map V.str
 |[],_,h=>h
 |n::ns,E,h=>by
  obtain⟨v,r,rfl,q,t⟩:=h;cases (show v=_ from q);rw[jv t];rfl
variable{td te:TD}
def F4(td te:TD):TD:=λU Y=>td U λx=>match x.d with
 | .str sep=>te U λy=>(match y.d with
  |.lst S=>∃ts:List Str,S=ts.map D.str/\(ts.map λt=>t.length+sep.length).sum<=sizeLine/\Y (dv (.str (Str.join sep ts)))
  |.tup S=>∃ts:List Str,S=ts.map D.str/\(ts.map λt=>t.length+sep.length).sum<=sizeLine/\Y (dv (.str (Str.join sep ts)))
  | _=>False)
 |_=>False
def Jz(ho:ED L X o td)(O:ED L X e te)(j:autoParam (attributeBase o "join" X.env (eval o X.env)=eval o X.env) zSr)(l:autoParam (((backTo cpos (starEach [e] X.env)).all (λx=>!x.1)&&(backToKw cpos (keywordEach [] X.env)).all (λx=>x.1.isSome)&&decide (([e]:List Expr).length+([]:List Keyword).length+(if ([]:List Keyword).isEmpty then 0 else 1)<30))=true) zSr)(g:autoParam ((apos.endLine==cpos.line)=true) zSr)(J:autoParam (starEach [e] X.env=(false,eval e X.env)::starEach [] X.env) zSr)(z:autoParam ((backTo cpos (starEach [] X.env)).any (·.1)=false) zSr) :
  ED L X (.Call (.Attribute o "join" apos) [e] [] cpos) (F4 td te):=λH_ =>
 impE (Q9 PySem.F.plainAttrs_str zfS PySem.F.type_str_join Dk (ho H_) (wg (O H_) uc J) j l g J z) λG H Q q=>by
  obtain⟨U,D,R,Y,y,I⟩:=q;refine⟨U,D,R,_,y,λv r H1 s1 M h1=>?_⟩;obtain⟨W,d⟩:=r;cases d with
  |str sep =>
   cases (show v=_ from M.view)
   refine⟨rfl,U,D,R.to s1,_,h1,λV r2 H2 s2 k h2=>?_⟩;obtain⟨N,d2⟩:=r2;cases d2 with
   |lst S =>
    obtain⟨ts,rfl,B,h2⟩:=h2;obtain⟨a,E,rfl,q,u⟩:=k.view;cases jv u;exact⟨sep,a,ts,rfl,rfl,.inl (SqL.of q),B,I _ (dv (.str (Str.join sep ts))) H2 (s1.trans s2) aH h2⟩
   |tup S =>
    obtain⟨ts,rfl,B,h2⟩:=h2;obtain⟨a,E,rfl,q,u⟩:=k.view;cases jv u;exact⟨sep,a,ts,rfl,rfl,.inr q.1,B,I _ (dv (.str (Str.join sep ts))) H2 (s1.trans s2) aH h2⟩
   |_=>exact h2.elim
  |_=>exact h1.elim
section
end
theorem Zi{K:W.Frag}{H:Hp}{O:List Addr}:∀{ns:List Int}{E:List V},Reps K H O (ns.map D.int) E->E=ns.map V.int
 |[],_,h=>h
 |n::ns,E,h=>by
  obtain⟨v,r,rfl,q,t⟩:=h;cases (show v=_ from q);rw[Zi t];rfl
theorem Rm(ne:l≠J):∀(n i:Nat)(s:Shared)(Q:List Value->Shared->Prop),s.heap.IsListIter J l i->s.heap.IsList l its->i+n<=its.size ->
  (∀h',h'.IsListIter J l (i+n)->h'.IsList l its->Heap.SameBut J s.heap h'->Q ((its.toList.drop i).take n) {s with heap:=h'})->wpAny (model prog w) A (draw (.ref J) n) Q xs s
 |0,i,s,Q,y,hl,_,q=>by
  show wpAny _ _ (pure []) Q xs s;apply zab;have:=q s.heap y hl (Heap.SameBut.refl ..);simpa using this
 |n+1,i,s,Q,y,hl,le,q=>by
  have lt:i<its.size:=by lia
  show wpAny _ _ (pyNext (.ref J) >>= _) Q xs s;apply zaa;refine wpAny_pyNext_list_item y hl (x:=its[i]) (by simp[lt]) λh1 g s1=>?_
  have hl1:h1.IsList l its:=hl.at λo e=>s1.extBut l o ne e;apply zaa;apply zaZ;refine Rm ne n (i+1) _ _ g hl1 aD λh2 d a s2=>zab (?_:_)
  have j:its.toList.drop i=its[i]::its.toList.drop (i+1):=by simp[List.drop_eq_getElem_cons,lt]
  have:=q h2 (by rw[show i+(n+1)=i+1+n by lia];exact d) a (s1.trans s2)
  rw[j,List.take_succ_cons]at this;exact this
def Ry {x1} {Q:Unit->Shared->Prop} (k:A.handled=none) (hl:s.heap.IsList l its) (j:(assignEach elts env).length=its.size) (g:(assignEach elts env).findIdx? (·.1)=none) (q:∀h',Heap.ExtBut s.z s.heap h'->wpAny (model prog w) A (assignInOrder ((assignEach elts env).map (·.2)) its.toList) Q xs {s with heap:=h'}):wpAny (model prog w) A (assign (.Tuple elts x1 pos) env (.ref l)) Q xs s:=by
 have ne:l≠s.z:=by obtain⟨o,e,_⟩:=hl;exact zaL (zae e)
 rw[assign_Tuple];apply zaa;apply wpAny_standAt;unfold unpack;rw[j,g];apply zaa;apply zaZ;unfold unpackItems;apply zaa;unfold notIterableAtAll;apply zaa;refine zfD hl.typeIs PySem.F.slot_list_iter.lookup (?_:_);apply zab;simp only[zbZ,zeP];apply zaa;apply zaZ;refine zcP hl (?_:_);apply zaa;apply zaZ;refine Rm ne its.size 0 _ _ ⟨_,zad _ rfl,rfl,rfl⟩ (hl.push _) aD λh1 d hl1 s1=>?_
 rw[show List.take its.size (List.drop 0 its.toList)=its.toList by rw[List.drop_zero];exact zcJ aE]
 rw[zaI (show ¬ _ by simp)]
 apply zaa;apply zaZ;refine wpAny_pyNext_list_end k d hl1 aE λh2 e2=>?_
 simp only[Option.isSome_none,zbZ,zeP];refine zab (q h2 λb o a e=>e2 b o a (s1.extBut b o a (zac _ e)))
def gLst(K:W.Frag)(n:Nat)(t:TGs):TG:=λv G H Q=>∃a E,v=.ref a/\SqL K H a E/\E.length=n/\t E G H Q
def Oj(B:X.K=K0)(z:X.calm=true)(h:PGs X es t)(y:autoParam ((assignEach es X.env).length=n) zSr)(g:autoParam ((assignEach es X.env).findIdx? (·.1)=none) zSr):PG X (.Tuple es k pos) (gLst K0 n t):=by
 subst B;intro pn s G H v u Q I r d;obtain⟨a,E,e1,x,hl,d⟩:=d;subst e1;cases r;obtain⟨its,j,q,J⟩:=I.list x;refine Ry (I.ok.hd z) q.isList (by simp[y,<- hl,j.length]) g λh' l=>?_
 have D:Inv X pn G H {s with heap:=h'}:=I.kept (t':=s.toks) λb o e=>l b o (zaL (zae e)) e;exact h pn _ G H E _ Q D (by simpa using j) d
def gL4(i j l m:Nat):TGD:=λd U M=>∃a b c e,d=.lst [a,b,c,e]/\M (setS (setS (setS (setS U i (dv a)) j (dv b)) l (dv c)) m (dv e))
def C4{K:W.Frag}(i j l m:Nat):gh K (gLst K 4 (k8 (se i) (k8 (se j) (k8 (se l) (k8 (se m) gNil))))) (gL4 i j l m):=λH_ H G U o d v M Q R h g k=>by
 obtain⟨a,b,c,e,rfl,g⟩:=g;obtain⟨p,E,rfl,q,n,r⟩:=h;obtain⟨z,L,rfl,h1,y,r2,rfl,h2,x,J,rfl,D,u,I,rfl,B,rfl⟩:=r;refine⟨p,_,rfl,SqL.of q,rfl,z,_,rfl,y,_,rfl,x,_,rfl,u,_,rfl,rfl,?_⟩;exact k _ _ ((((R.setV i h1).setV j h2).setV l D).setV m B) g
section
variable{scope:Scope}{T F:List Str}{js:List Nat}{tg iter elt:Expr}{ifs:List Expr}{pos:Pos}{ti:TID}{g2:TG}{g:TGD}{tc:TDb}
def Mm:=F5 false
def Xh(hC:QF L X tg iter elt ifs scope T F js ti g2 g tc te):ED L X (.ListComp elt [⟨tg,iter,ifs,0⟩] scope pos) (Mm ti T.length js g tc te):=λH_ =>
 impE (Oo (tc:=Z0 X.K H_.1 tc) (te:=ql X.K H_.1 te) hC.u (hC.i H_) hC.s hC.p hC.q hC.l (λcl C fp s H=>hC.e cl C fp s H H_) (λcl C fp s H=>hC.r cl C fp s H H_) hC.k) (Zq hC.d hC.h)
def vv(S:List D)(h:∀ M:List D->Prop,M S->ti U M)(P:Nat->List D->Prop)(hl:S.length<=10000000)(h0:P 0 [])(e:∀ (i:Nat) (d:D) (es:List D),S[i]?=some d->es.length<=i->P i es->g d (ρ0 n js U) λρ'=>tc ρ' λc=>(c=true->te ρ' λr=>(nw r)/\P (i+1) (es++[r.d]))/\(c=false->P (i+1) es))(a:∀ es,P S.length es->Y (df (.lst es))):Mm ti n js g tc te U Y:=h _ ⟨P,hl,h0,e,a⟩
end
def B3{o u:HO}(h:H a=some u):upd (upd H a o) a u=H:=by
 rw[Pe]
 funext b
 by_cases e:b=a
 .subst e;rw[zu,h]
 rw[y0 e]
section
variable{scope:Scope}{T F:List Str}{js:List Nat}{tg iter elt:Expr}{ifs:List Expr}{pos:Pos}{ti:TID}{g2:TG}{g:TGD}{tc:TDb}
def ub(i:Nat){y:Str}(W:X.N.Nodup)(hC:QF L X tg iter elt ifs scope T F js ti g2 g tc te)(z:autoParam (X.N[i]?=some y) zSr)(a:autoParam (X.env.scope.names.lookup y=some .local) zSr)(d:autoParam (swapsWith (.ListComp elt [⟨tg,iter,ifs,0⟩] scope pos) (some (.Name y py)) spos.line X.env=pure true) zSr):SD L X (.Assign [.Name y py] (.ListComp elt [⟨tg,iter,ifs,0⟩] scope pos) spos) (sSet i (Mm ti T.length js g tc te)):=λH_ =>
 impS (Zl (tc:=Z0 X.K H_.1 tc) (te:=ql X.K H_.1 te) hC.u W z (.inl a) (hC.i H_) hC.s hC.p hC.q hC.l (λcl C fp s H=>hC.e cl C fp s H H_) (λcl C fp s H=>hC.r cl C fp s H H_) d hC.k (.inr a)) λD G H h=>by
  obtain⟨U,o,R,Z,V,u,k2,k3,k4⟩:=h;refine Zq (b:=false) hC.d hC.h G H _ ⟨U,o,R,λr=>(nw r)/\Z.nx (setS U i r.sto),V,λv r H1 s1 l h1=>?_⟩
  obtain⟨o',R',g'⟩:=R.put s1 i l (vq h1.1);exact u _ _ H1 o' g' R' h1.2
end
structure Gt(H H':Hp):Prop where
 tups:∀b E,H b=some (.tup E)->H' b=some (.tup E)
 frzs:∀b o u,H b=some (.frz o u)->H' b=some (.frz o u)
def Gt.trans{H H1 H2:Hp}(a:Gt H H1)(b:Gt H1 H2):Gt H H2:=⟨λc E h=>b.tups c E (a.tups c E h),λc o u h=>b.frzs c o u (a.frzs c o u h)⟩
def Gt.same{H H':Hp}(s:Same H H'):Gt H H':=⟨λb E h=>s b _ h,λb o u h=>s b _ h⟩
variable{O':List Addr}
def RepN.keep(g:Gt H H')(d:D)(v:V)(p:zw d)(h:Rep K H O d v):Rep K H' O' d v:=RepN.mono g.tups g.frzs (λ_ _ _ z=>z.elim) d v p h
mutual
def Ft(K:W.Frag)(H:Hp):D->V->List Addr->Prop
 |.lst S,v,A=>∃a E B,v=.ref a/\H a=some (.lst E)/\A=a::B/\Fts K H S E B
 |.dk ks S,v,A=>∃a E B,v=.ref a/\H a=some (.dK (ks.zip E))/\ks.length=S.length/\ks.Nodup/\A=a::B/\Fts K H S E B
 |.tup S,v,A=>∃a E,v=.ref a/\SqR K H a E/\Fts K H S E A
 |.non,v,A=>A=[]/\v=.non
 |.bl b,v,A=>A=[]/\v=.bl b
 |.int i,v,A=>A=[]/\v=.int i
 |.str x,v,A=>A=[]/\v=.str x
 |.ty n,v,A=>A=[]/\v=.ty n
 |.cn c,v,A=>A=[]/\CRep K c v
 |.scr ns,v,A=>A=[]/\∃a,v=.ref a/\Scr K H a ns
 |.fo _,_,_=>False
 |.sx _,_,_=>False
 |.ob C ns S,v,A=>∃a dx E B,v=.ref a/\H a=some (.ins C dx (ns.zip E))/\ns.length=S.length/\ns.Nodup/\A=a::B/\Fts K H S E B
def Fts(K:W.Frag)(H:Hp):List D->List V->List Addr->Prop
 |[],E,A=>E=[]/\A=[]
 |d::S,E,A=>∃v r B C,E=v::r/\A=B++C/\Ft K H d v B/\Fts K H S r C
end
mutual
theorem Ft.keep(g:Gt H H'):∀(d:D)(v:V)(A:List Addr),(∀a∈A,∀u,H a=some u->H' a=some u)->Ft K H d v A->Ft K H' d v A
 |.lst S,v,A,k,h=>by
  obtain⟨a,E,B,e,q,rfl,r⟩:=h;exact⟨a,E,B,e,k a zao _ q,rfl,Fts.keep g S E B (λb j=>k b (zal _ j)) r⟩
 |.dk ks S,v,A,k,h=>by
  obtain⟨a,E,B,e,q,l,n,rfl,r⟩:=h;exact⟨a,E,B,e,k a zao _ q,l,n,rfl,Fts.keep g S E B (λb j=>k b (zal _ j)) r⟩
 |.tup S,v,A,k,h=>by
  obtain⟨a,E,e,q,r⟩:=h;exact⟨a,E,e,Pu g.tups g.frzs q,Fts.keep g S E A k r⟩
 |.non,_,_,_,h=>h
 |.bl _,_,_,_,h=>h
 |.int _,_,_,_,h=>h
 |.str _,_,_,_,h=>h
 |.ty _,_,_,_,h=>h
 |.cn _,_,_,_,h=>h
 |.scr ns,v,A,_,h=>by
  obtain⟨e,a,e2,q⟩:=h;exact⟨e,a,e2,Tw g.frzs q⟩
 |.fo _,_,_,_,h=>h.elim
 |.sx _,_,_,_,h=>h.elim
 |.ob C ns S,v,A,k,h=>by
  obtain⟨a,dx,E,B,e,q,l,n,rfl,r⟩:=h;exact⟨a,dx,E,B,e,k a zao _ q,l,n,rfl,Fts.keep g S E B (λb j=>k b (zal _ j)) r⟩
theorem Fts.keep(g:Gt H H'):∀(S:List D)(E:List V)(A:List Addr),(∀a∈A,∀u,H a=some u->H' a=some u)->Fts K H S E A->Fts K H' S E A
 |[],_,_,_,h=>h
 |d::S,E,A,k,h=>by
  obtain⟨v,r,B,C,e,rfl,q,t⟩:=h;exact⟨v,r,B,C,e,rfl,Ft.keep g d v B (λb j=>k b (zaH _ j)) q,Fts.keep g S r C (λb j=>k b (zaE _ j)) t⟩
end
mutual
theorem Ft.rep:∀(d:D)(v:V)(A:List Addr),(∀a∈A,a∉O)->Ft K H d v A->Rep K H O d v
 |.lst S,v,A,k,h=>by
  obtain⟨a,E,B,e,q,rfl,r⟩:=h;exact⟨a,E,e,q,k a zao,Fts.reps S E B (λb g=>k b (zal _ g)) r⟩
 |.dk ks S,v,A,k,h=>by
  obtain⟨a,E,B,e,q,l,n,rfl,r⟩:=h;exact⟨a,E,e,q,k a zao,l,n,Fts.reps S E B (λb g=>k b (zal _ g)) r⟩
 |.tup S,v,A,k,h=>by
  obtain⟨a,E,e,q,r⟩:=h;exact⟨a,E,e,q,Fts.reps S E A k r⟩
 |.non,_,_,_,h=>h.2
 |.bl _,_,_,_,h=>h.2
 |.int _,_,_,_,h=>h.2
 |.str _,_,_,_,h=>h.2
 |.ty _,_,_,_,h=>h.2
 |.cn _,_,_,_,h=>h.2
 |.scr ns,v,A,_,h=>h.2
 |.fo _,_,_,_,h=>h.elim
 |.sx _,_,_,_,h=>h.elim
 |.ob C ns S,v,A,k,h=>by
  obtain⟨a,dx,E,B,e,q,l,n,rfl,r⟩:=h;exact⟨a,dx,E,e,q,k a zao,l,n,Fts.reps S E B (λb g=>k b (zal _ g)) r⟩
theorem Fts.reps:∀(S:List D)(E:List V)(A:List Addr),(∀a∈A,a∉O)->Fts K H S E A->Reps K H O S E
 |[],_,_,_,h=>h.1
 |d::S,E,A,k,h=>by
  obtain⟨v,r,B,C,e,rfl,q,t⟩:=h;exact⟨v,r,e,Ft.rep d v B (λb g=>k b (zaH _ g)) q,Fts.reps S r C (λb g=>k b (zaE _ g)) t⟩
end
mutual
theorem Ft.dom:∀(d:D)(v:V)(A:List Addr),Ft K H d v A->∀a∈A,∃u,H a=some u/\(∀E,u≠.tup E)/\∀ob w,u≠.frz ob w
 |.lst S,v,A,h=>by
  obtain⟨a,E,B,e,q,rfl,r⟩:=h;intro b j;rcases zam.mp j with rfl|j
  .exact⟨_,q,(λ_ z=>by cases z),λ_ _ z=>by cases z⟩
  exact Fts.dom S E B r b j
 |.dk ks S,v,A,h=>by
  obtain⟨a,E,B,e,q,l,n,rfl,r⟩:=h;intro b j;rcases zam.mp j with rfl|j
  .exact⟨_,q,(λ_ z=>by cases z),λ_ _ z=>by cases z⟩
  exact Fts.dom S E B r b j
 |.tup S,v,A,h=>by
  obtain⟨a,E,e,q,r⟩:=h;exact Fts.dom S E A r
 |.non,_,_,h=>by obtain⟨rfl,_⟩:=h;intro a g;cases g
 |.bl _,_,_,h=>by obtain⟨rfl,_⟩:=h;intro a g;cases g
 |.int _,_,_,h=>by obtain⟨rfl,_⟩:=h;intro a g;cases g
 |.str _,_,_,h=>by obtain⟨rfl,_⟩:=h;intro a g;cases g
 |.ty _,_,_,h=>by obtain⟨rfl,_⟩:=h;intro a g;cases g
 |.cn _,_,_,h=>by obtain⟨rfl,_⟩:=h;intro a g;cases g
 |.scr _,_,_,h=>by obtain⟨rfl,_⟩:=h;intro a g;cases g
 |.fo _,_,_,h=>h.elim
 |.sx _,_,_,h=>h.elim
 |.ob C ns S,v,A,h=>by
  obtain⟨a,dx,E,B,e,q,l,n,rfl,r⟩:=h;intro b j;rcases zam.mp j with rfl|j
  .exact⟨_,q,(λ_ z=>by cases z),λ_ _ z=>by cases z⟩
  exact Fts.dom S E B r b j
theorem Fts.dom:∀(S:List D)(E:List V)(A:List Addr),Fts K H S E A->∀a∈A,∃u,H a=some u/\(∀E,u≠.tup E)/\∀ob w,u≠.frz ob w
 |[],_,_,h=>by obtain⟨_,rfl⟩:=h;intro a j;cases j
 |d::S,E,A,h=>by
  obtain⟨v,r,B,C,e,rfl,q,t⟩:=h;intro b g;rcases zas.mp g with g|g
  .exact Ft.dom d v B q b g
  exact Fts.dom S r C t b g
end
mutual
theorem RepN.ft:∀(d:D)(v:V),zw d->Rep K H O d v->Ft K H d v []
 |.non,_,_,h=>⟨rfl,h⟩
 |.bl _,_,_,h=>⟨rfl,h⟩
 |.int _,_,_,h=>⟨rfl,h⟩
 |.str _,_,_,h=>⟨rfl,h⟩
 |.ty _,_,_,h=>⟨rfl,h⟩
 |.cn _,_,_,h=>⟨rfl,h⟩
 |.tup S,v,p,h=>by
  obtain⟨a,E,e,q,r⟩:=h;exact⟨a,E,e,q,zp.fts S E p r⟩
 |.scr ns,v,_,h=>⟨rfl,h⟩
 |.fo _,_,p,_=>p.elim
 |.sx _,_,p,_=>p.1.elim
 |.lst S,v,p,h=>p.1.elim
 |.dk ks S,v,p,h=>p.1.elim
 |.ob C ns S,v,p,h=>p.1.elim
theorem zp.fts:∀(S:List D)(E:List V),y7 S->Reps K H O S E->Fts K H S E []
 |[],_,_,h=>⟨h,rfl⟩
 |d::S,E,p,h=>by
  obtain⟨v,r,e,q,t⟩:=h;exact⟨v,r,[],[],e,rfl,RepN.ft d v p.1 q,zp.fts S r p.2 t⟩
end
noncomputable def hid:Nat->DE->DE
 |_,[]=>[]
 |0,_::U=>none::U
 |l+1,x::U=>x::hid l U
theorem rf:∀(l:Nat)(U:DE),hid l U=U.set l none
 |_,[]=>by cases ‹Nat› <;> rfl
 |0,_::_=>rfl
 |l+1,x::U=>by rw[hid,rf l U,List.set_cons_succ]
def cw{l i:Nat}{U:DE}{r:EV}(h:(hid l U)[i]?=some (some r)):i≠l/\U[i]?=some (some r):=by
 rw[rf]at h;by_cases e:i=l
 .subst e;rcases zdF i U.length with z|z
  .rw[zaU z]at h;cases h
  rw[zbM (by rw[zaY];exact z)]at h;cases h
 rw[zaN (Ne.symm e)]at h;exact⟨e,h⟩
def Nm{l i:Nat}{U:DE}(h:i≠l):(hid l U)[i]?=U[i]?:=by
 rw[rf,zaN (Ne.symm h)]
def X5(l:Nat)(U:DE)(x:EV):hid l (setS U l x)=hid l U:=by
 rw[rf,rf,xx,List.set_set]
def qh{l j:Nat}(U:DE)(x:EV)(h:j≠l):hid l (setS U j x)=setS (hid l U) j x:=by
 rw[rf,rf,xx,xx,List.set_comm _ _ h]
noncomputable def tg(l:Nat)(A:List Addr):List (Nat×Addr):=A.map λa=>(l,a)
def B8(l:Nat)(A:List Addr):(tg l A).map Prod.snd=A:=by
 unfold tg;rw[zaV];exact List.map_id A
def vi(o:List (Nat×Addr))(l:Nat)(A:List Addr):(o++tg l A).map Prod.snd=o.map Prod.snd++A:=by
 rw[zMa,B8]
structure ST(K:W.Frag)(H_ H:Hp)(G:St)(U:DE)(o:List (Nat×Addr))(l:Nat)(A:List Addr)(d:D)(v:V):Prop where
 Q:REnv K H_ H G (hid l U) (o++tg l A)
 hd:U[l]?=some (some (dv d))
 hv:G[l]?=some (some v)
 ft:Ft K H d v A
section
variable{o:List (Nat×Addr)}{l:Nat}{A A':List Addr}{d d':D}
def ST.lt(ds:ST K H_ H G U o l A d v):l<U.length:=(zag.mp ds.hd).1
def ST.ndA(ds:ST K H_ H G U o l A d v):A.Nodup:=by
 have:=ds.Q.nda;rw[vi]at this;exact(zaO.mp this).2.1
def ST.dis(ds:ST K H_ H G U o l A d v):∀a∈A,a∉o.map Prod.snd:=λa g e=>by
 have:=ds.Q.nda;rw[vi]at this;exact(zaO.mp this).2.2 a e a g rfl
def ST.frA(ds:ST K H_ H G U o l A d v):∀a∈A,H_ a=none:=λa e=>ds.Q.fresh (l,a) (zaE _ (zah.mpr ⟨a,e,rfl⟩))
def z1d{i l:Nat}{a:Addr}(h:(i,a)∈o++tg l A)(hi:i≠l):(i,a)∈o:=by
 rcases zas.mp h with h|h
 .exact h
 obtain⟨b,_,e⟩:=zah.mp h;cases e;exact absurd rfl hi
def ST.R(ds:ST K H_ H G U o l A d v):REnv K H_ H G U o where
 same:=ds.Q.same
 fresh:=λp g=>ds.Q.fresh p (zaH _ g)
 trk:=λp g=>ds.Q.trk p (zaH _ g)
 mtb:=λp g=>ds.Q.mtb p (zaH _ g)
 nda:=by
  have:=ds.Q.nda;rw[vi]at this;exact(zaO.mp this).1
 len:=by
  have:=ds.Q.len;rw[rf,zaY]at this;exact this
 slots:=λi r e=>by
  by_cases hi:i=l
  .subst hi;rw[ds.hd]at e;cases e;exact⟨v,ds.hv,.inl ⟨rfl,Ft.rep _ _ _ ds.dis ds.ft⟩⟩
  obtain⟨w,u,q⟩:=ds.Q.slots i r (by rw[Nm hi];exact e)
  rw[vi]at q;have sub:∀a∈o.map Prod.snd,a∈o.map Prod.snd++A:=λa j=>zaH _ j;refine⟨w,u,?_⟩;rcases q with⟨k,q⟩|⟨k,a,e1,m,c⟩
  .exact .inl ⟨k,RepN.sub sub _ _ q⟩
  exact .inr ⟨k,a,e1,z1d m hi,c.sub sub⟩
theorem ST.to(ds:ST K H_ H G U o l A d v)(s:Same H H'):ST K H_ H' G U o l A d v :=
 ⟨ds.Q.to s,ds.hd,ds.hv,Ft.keep (Gt.same s) _ _ _ (λa _ u h=>s a u h) ds.ft⟩
def Grow.gt{O O':List Addr}(g:Grow O O' H H'):Gt H H':=⟨g.tups,g.frzs⟩
def ST.chg(ds:ST K H_ H G U o l A d v)(g:Grow A A' H H')(ft:Ft K H' d' v A')(L:A'.Nodup)(fr:∀ a∈A',a∈A\/H a=none) :
  ST K H_ H' G (setS U l (dv d')) o l A' d' v:=by
 have hl:=ds.lt;have I:Grow ((o++tg l A).map Prod.snd) ((o++tg l A').map Prod.snd) H H':=by
  rw[vi,vi];exact⟨λb u h n=>⟨(g.keep b u h λz=>n (zaE _ z)).1,λz=>(zas.mp z).elim (λz=>n (zaH _ z)) (g.keep b u h λz=>n (zaE _ z)).2⟩,g.tups,g.frzs⟩
 have y:∀p∈o,p.2∉A:=λp j z=>ds.dis _ z (zah.mpr ⟨p,j,rfl⟩);refine⟨⟨λb u h=>?_,λp j=>?_,λp j=>?_,λp j=>?_,?_,λi r e=>?_,?_⟩,?_,ds.hv,ft⟩
 .refine(g.keep b u (ds.Q.same b u h) λz=>?_).1;rw[ds.frA b z]at h;cases h
 .rcases zas.mp j with j|j
  .exact ds.Q.fresh p (zaH _ j)
  obtain⟨a,x,rfl⟩:=zah.mp j;rcases fr a x with h|h
  .exact ds.frA a h
  exact ds.Q.same.free h
 .rcases zas.mp j with j|j
  .obtain⟨u,e⟩:=ds.Q.trk p (zaH _ j);exact⟨u,(g.keep _ _ e (y p j)).1⟩
  obtain⟨a,x,rfl⟩:=zah.mp j;obtain⟨u,hu,_⟩:=Ft.dom _ _ _ ft a x;exact⟨u,hu⟩
 .rcases zas.mp j with j|j
  .obtain⟨u,e⟩:=ds.Q.trk p (zaH _ j);obtain⟨V,O⟩:=ds.Q.mtb p (zaH _ j);have J:=(g.keep _ _ e (y p j)).1;refine⟨λE z=>?_,λB w z=>?_⟩
   .rw[J]at z;rw[<- e]at z;exact V E z
   rw[J]at z;rw[<- e]at z;exact O B w z
  obtain⟨a,x,rfl⟩:=zah.mp j;obtain⟨u,hu,N,M⟩:=Ft.dom _ _ _ ft a x;refine⟨λE z=>?_,λB w z=>?_⟩
  .rw[hu]at z;cases z;exact N _ rfl
  rw[hu]at z;cases z;exact M _ _ rfl
 .rw[vi,zaO];refine⟨ds.R.nda,L,λa x b W e=>?_⟩;subst e;rcases fr a W with h|h
  .exact ds.dis a h x
  exact ds.R.ofree h x
 .rw[X5]at e;obtain⟨hi,_⟩:=cw e;obtain⟨w,Z,q⟩:=ds.Q.slots i r e;refine⟨w,Z,?_⟩;rcases q with⟨k,q⟩|⟨k,a,e1,m,c⟩
  .exact .inl ⟨k,RepN.grow I _ _ q⟩
  have D:=z1d m hi;exact .inr ⟨k,a,e1,zaH _ D,c.grow (λu h=>(g.keep _ _ h (y _ D)).1) I⟩
 .rw[X5];exact ds.Q.len
 rw[xx,zaU hl]
def REnv.putX(R:REnv K H_ H G U o)(s:Same H H')(i:Nat){r:EV}{v:V}(h:RV K H H' (o.map Prod.snd) r v)(e:r.k≠.own) :
  ∃pre,REnv K H_ H' (G.set i (some v)) (setS U i r.sto) (pre++o):=by
 obtain⟨k,d⟩:=r;cases k with
 |val=>exact⟨[],(R.to s).setV i h⟩
 |own=>exact absurd rfl e
 |fre =>
  obtain⟨a,rfl,m,n,c⟩:=h;exact⟨[(i,a)],(R.setO s i m c).1⟩
 |new=>exact⟨[],(R.to s).setV i (RepN.rep (λa z=>z.1) _ _ h)⟩
theorem ST.set(ds:ST K H_ H G U o l A d v)(s:Same H H'){j:Nat}{r:EV}{w:V}(e:j≠l)(h:RV K H H' ((o++tg l A).map Prod.snd) r w)(g:r.k≠.own) :
  ∃o',ST K H_ H' (G.set j (some w)) (setS U j r.sto) o' l A d v:=by
 obtain⟨a,q⟩:=ds.Q.putX s j h g;refine⟨a++o,⟨?_,?_,?_,(ds.to s).ft⟩⟩
 .rw[qh _ _ e,zcG];exact q
 .rw[xx,zaN e];exact ds.hd
 rw[zaN e];exact ds.hv
def ST.setP(ds:ST K H_ H G U o l A d v){j:Nat}{e:D}{w:V}(a:j≠l)(g:zw e)(h:Rep K H [] e w):ST K H_ H (G.set j (some w)) (setS U j (dv e)) o l A d v:=by
 refine⟨?_,?_,?_,ds.ft⟩
 .rw[qh _ _ a];exact ds.Q.setV j (RepN.pure _ _ g h)
 .rw[xx,zaN a];exact ds.hd
 rw[zaN a];exact ds.hv
end
abbrev TQ:=DE->(D->DE->Prop)->Prop
abbrev TQs:=DE->(List D->DE->Prop)->Prop
abbrev TQb:=DE->(Bool->DE->Prop)->Prop
structure QZ where
 nx:DE->Prop
 rt:D->DE->Prop
 bk:DE->Prop:=λ_=>False
 ct:DE->Prop:=λ_=>False
abbrev TQS:=DE->QZ->Prop
def z1h(K:W.Frag)(H_:Hp)(l:Nat)(t:TQ):TE:=λG H Q=>∃U o A d v,ST K H_ H G U o l A d v/\∃Y,t U Y/\∀u e ρ' H' A' d',Grow A A' H H'->ST K H_ H' G ρ' o l A' d' v->zw e->Rep K H' [] e u->Y e ρ'->Q u H'
def z1f(K:W.Frag)(H_:Hp)(l:Nat)(t:TQb):TT:=λG H Q=>∃U o A d v,ST K H_ H G U o l A d v/\∃Y,t U Y/\∀b ρ' H' A' d',Grow A A' H H'->ST K H_ H' G ρ' o l A' d' v->Y b ρ'->Q b H'
def Gm(K:W.Frag)(H_:Hp)(l:Nat)(t:TQs):TA:=λG H Q=>∃U o A d v,ST K H_ H G U o l A d v/\∃Y,t U Y/\∀us es ρ' H' A' d',Grow A A' H H'->ST K H_ H' G ρ' o l A' d' v->Reps K H' (o.map Prod.snd++A') es us->Y es ρ'->Q us H'
def Na(K:W.Frag)(H_:Hp)(l:Nat)(t:TQS):TS:=λDz G H=>∃U o A d v,ST K H_ H G U o l A d v/\∃Z,t U Z /\
 (∀ρ' σ' H' o' A' d',ST K H_ H' σ' ρ' o' l A' d' v->Z.nx ρ'->Dz.nx σ' H') /\
 (∀ρ' σ' H' o' A' d',ST K H_ H' σ' ρ' o' l A' d' v->Z.bk ρ'->Dz.bk σ' H') /\
 (∀ρ' σ' H' o' A' d',ST K H_ H' σ' ρ' o' l A' d' v->Z.ct ρ'->Dz.ct σ' H') /\
 (∀u e ρ' σ' H' o' A' d',ST K H_ H' σ' ρ' o' l A' d' v->zw e->Rep K H' [] e u->Z.rt e ρ'->Dz.rt u H')
def EQ(G:Hp->Prop)(l:Nat)(X:Cx)(e:Expr)(t:TQ):Prop:=∀H_:{H:Hp // G H},PE X e (z1h X.K H_.1 l t)
def QT(G:Hp->Prop)(l:Nat)(X:Cx)(e:Expr)(t:TQb):Prop:=∀H_:{H:Hp // G H},PT X e (z1f X.K H_.1 l t)
def QA(G:Hp->Prop)(l:Nat)(X:Cx)(es:List Expr)(t:TQs):Prop:=∀H_:{H:Hp // G H},PA X es (Gm X.K H_.1 l t)
def QS(G:Hp->Prop)(l:Nat)(X:Cx)(st:Stmt)(t:TQS):Prop:=∀H_:{H:Hp // G H},PS X st (Na X.K H_.1 l t)
def QSs(G:Hp->Prop)(l:Nat)(X:Cx)(st:List Stmt)(t:TQS):Prop:=∀H_:{H:Hp // G H},PSs X st (Na X.K H_.1 l t)
theorem wq:∀{U:DE}{i:Nat}{r:EV},U[i]?=some (some r)->slot U i=some r
 |[],_,_,h=>by cases h
 |_::_,0,_,h=>zaP h
 |_::U,i+1,r,h=>wq (U:=U) (i:=i) (by simpa using h)
def s2_{U:DE}{l:Nat}{a b:D}(e:slot U l=some (dv a))(h:U[l]?=some (some (dv b))):a=b:=by have z:=wq h;rw[e]at z;cases z;rfl
variable{l:Nat}
section
variable{es:List Expr}{pos:Pos}
def qE(te:TD):TQ:=λU Y=>te U λr=>zw r.d/\Y r.d U
def V2{te:TD}(h:ED L X e te):EQ L l X e (qE te):=λH_=>impE (h H_) λG H Q q=>by
 obtain⟨U,o,A,d,v,ds,Y,a,k⟩:=q;exact⟨U,o,ds.R,_,a,λu r H1 s1 g h1=>k u r.d U H1 A d (Grow.same s1) (ds.to s1) h1.1 g.view.rep0 h1.2⟩
def qT(tc:TDb):TQb:=λU Y=>tc U λb=>Y b U
def uk{tc:TDb}(h:ET L X e tc):QT L l X e (qT tc):=λH_=>impT (h H_) λG H Q q=>by
 obtain⟨U,o,A,d,v,ds,Y,a,k⟩:=q;exact⟨U,o,ds.R,_,a,λb H1 s1 h1=>k b U H1 A d (Grow.same s1) (ds.to s1) h1⟩
def qB(te:TQ):TQb:=λU Y=>te U λd a=>match d with
 |.bl b=>Y b a
 |_=>False
def Zj{te:TQ}(h:EQ L l X e te)(y:autoParam (∀ whole,isTrue e X.env whole=(do let v <- whole;standAt e.pos;holding [v] (truthy v))) zSi):QT L l X e (qB te):=λH_=>impT (z0b (h H_) y) λG H Q q=>by
 obtain⟨U,o,A,d,v,ds,Y,j,k⟩:=q;refine⟨U,o,A,d,v,ds,_,j,λu r a H1 B d1 g z pr x h1=>?_⟩;cases r with
 |bl b =>
  cases (show u=_ from x)
  exact⟨b,rfl,k b a H1 B d1 g z h1⟩
 |_=>exact h1.elim
def Grow.add{H H':Hp}{O A A':List Addr}(g:Grow A A' H H'):Grow (O++A) (O++A') H H' :=
 ⟨λb u h n=>⟨(g.keep b u h λz=>n (zaE _ z)).1,λz=>(zas.mp z).elim (λz=>n (zaH _ z)) (g.keep b u h λz=>n (zaE _ z)).2⟩,g.tups,g.frzs⟩
def Ei:TQs:=λU Y=>Y [] U
def x9:QA L l X [] Ei:=λH_=>impA uc λG H Q q=>by
 obtain⟨U,o,A,d,v,ds,Y,a,k⟩:=q;exact k [] [] U H A d Grow.refl ds rfl a
def G3(te:TQ)(g:TQs):TQs:=λU Y=>te U λd e=>g e λS a=>Y (d::S) a
def dt{te:TQ}{y:TQs}(D:EQ L l X e te)(hr:QA L l X es y)(B:autoParam (S_ X e es) zSr):QA L l X (e::es) (G3 te y):=λH_=>impA (wg (D H_) (hr H_) B) λG H Q q=>by
 obtain⟨U,o,A,d,v,ds,Y,x,k⟩:=q;refine⟨U,o,A,d,v,ds,_,x,λu r g H1 N d1 g1 J pr z h1=>⟨g,o,N,d1,v,J,_,h1,λus rs a H2 M d2 g2 I j h2=>?_⟩⟩;exact k (u::us) (r::rs) a H2 M d2 (g1.trans g2) I ⟨u,us,rfl,RepN.keep g2.gt _ _ pr z,j⟩ h2
def O9(te:TD)(e:TQs):TQs:=λU Y=>te (hid l U) λr=>(nw r)/\e U λS a=>Y (r.d::S) a
def y9{te:TD}{x:TQs}(D:ED L X e te)(hr:QA L l X es x)(B:autoParam (S_ X e es) zSr):QA L l X (e::es) (O9 (l:=l) te x):=λH_=>impA (wg (D H_) (hr H_) B) λG H Q q=>by
 obtain⟨U,o,A,d,v,ds,Y,j,k⟩:=q;refine⟨hid l U,_,ds.Q,_,j,λu r H1 s1 z h1=>⟨U,o,A,d,v,ds.to s1,_,h1.2,λus rs a H2 J d2 g2 I g h2=>?_⟩⟩;have y:=z.solid (vq h1.1);rw[vi]at y;exact k (u::us) (r.d::rs) a H2 J d2 ((Grow.same s1).trans g2) I ⟨u,us,rfl,RepN.grow g2.add _ _ y,g⟩ h2
end
section
variable{c:Expr}{st:Stmt}{rest a b:List Stmt}{pos:Pos}{t u:TQS}
def qNil:TQS:=λU Z=>Z.nx U
def qSeq(t u:TQS):TQS:=λU Z=>t U {Z with nx:=λρ'=>u ρ' Z}
def qRet(te:TQ):TQS:=λU Z=>te U Z.rt
def Av(te:TQ):TQS:=λU Z=>te U λ_ a=>Z.nx a
def qIf(tc:TQb)(t u:TQS):TQS:=λU Z=>tc U λb a=>(b=true->t a Z)/\(b=false->u a Z)
def qSet(l j:Nat)(te:TD):TQS:=λU Z=>te (hid l U) λr=>(nw r)/\Z.nx (setS U j r.sto)
def Aq(j:Nat)(te:TQ):TQS:=λU Z=>te U λd a=>Z.nx (setS a j (dv d))
def gm:QSs L l X [] qNil:=λH_=>Uo Yn λDz G H h=>by
 obtain⟨U,o,A,d,v,ds,Z,e,a,k,j,g⟩:=h;exact a U G H o A d ds e
def yb(h:QS L l X st t):QSs L l X [st] t:=λH_=>qy (h H_)
def yn(h:QS L l X st t)(hr:QSs L l X rest u):QSs L l X (st::rest) (qSeq t u):=λH_=>Uo (vj (h H_) (hr H_)) λDz G H h=>by
 obtain⟨U,o,A,d,v,ds,Z,q,k,g,e,a⟩:=h;exact⟨U,o,A,d,v,ds,_,q,λρ' j H' o' A' d' r h'=>⟨ρ',o',A',d',v,r,Z,h',k,g,e,a⟩,g,e,a⟩
def Si{te:TQ}(h:EQ L l X e te):QS L l X (.Return (some e) pos) (qRet te):=λH_=>impS (Zm (h H_)) λDz G H h=>by
 obtain⟨U,o,A,d,v,ds,Z,q,D,B,z,k⟩:=h;exact⟨U,o,A,d,v,ds,_,q,λu r a H1 y d1 g x pr j h1=>k u r a G H1 o y d1 x pr j h1⟩
def As:TQS:=λU Z=>Z.rt .non U
def Ef:QS L l X (.Return none pos) As:=λH_=>impS En λDz G H h=>by
 obtain⟨U,o,A,d,v,ds,Z,e,k,j,g,a⟩:=h;exact a .non .non U G H o A d ds trivial rfl e
def xn{te:TQ}(h:EQ L l X e te)(k:autoParam (swapsWith e none pos.line X.env=pure false) zSr):QS L l X (.Expr e pos) (Av te):=λH_=>impS (sv (h H_) k) λDz G H h=>by
 obtain⟨U,o,A,d,v,ds,Z,q,j,I,D,B⟩:=h;exact⟨U,o,A,d,v,ds,_,q,λu r a H1 y d1 g x pr z h1=>j a G H1 o y d1 x h1⟩
def vo{tc:TQb}(z:QT L l X c tc)(D:QSs L l X a t)(B:QSs L l X b u):QS L l X (.If c a b pos) (qIf tc t u):=λH_=>impS (Kf (z H_) (D H_) (B H_)) λDz G H h=>by
 obtain⟨U,o,A,d,v,ds,Z,I,r,q,k,j⟩:=h;refine⟨U,o,A,d,v,ds,_,I,λb e H1 y d1 g x h1=>?_⟩;cases b with
 |true=>rw[zaK rfl];exact⟨e,o,y,d1,v,x,Z,h1.1 rfl,r,q,k,j⟩
 |false=>rw[zaI aB];exact⟨e,o,y,d1,v,x,Z,h1.2 rfl,r,q,k,j⟩
def Sg(j:Nat){x:Str}{pos':Pos}{te:TD}(u:j≠l)(D:X.N.Nodup)(z:ED L X e te)(hi:autoParam (X.N[j]?=some x) zSr)(k:autoParam (Loc X.env.scope x) zSo)(q:autoParam (swapsWith e (some (.Name x pos')) pos.line X.env=pure false) zSr)(y:autoParam (X.fn x=true\/X.env.scope.names.lookup x=some .local) zSo):QS L l X (.Assign [.Name x pos'] e pos) (qSet l j te):=λH_=>impS (dw D hi k (z H_) q y) λDz G H h=>by
 obtain⟨U,o,A,d,v,ds,Z,B,g,O,M,J⟩:=h;refine⟨hid l U,_,ds.Q,_,B,λw r H1 s1 a h1=>?_⟩;obtain⟨o',I⟩:=ds.set s1 u a (vq h1.1);exact g _ _ H1 o' A d I h1.2
def jw(j:Nat){x:Str}{pos':Pos}{te:TQ}(z:j≠l)(J:X.N.Nodup)(D:EQ L l X e te)(hi:autoParam (X.N[j]?=some x) zSr)(u:autoParam (Loc X.env.scope x) zSo)(y:autoParam (swapsWith e (some (.Name x pos')) pos.line X.env=pure false) zSr)(B:autoParam (X.fn x=true\/X.env.scope.names.lookup x=some .local) zSo):QS L l X (.Assign [.Name x pos'] e pos) (Aq j te):=λH_=>impS (dw J hi u (D H_) y B) λDz G H h=>by
 obtain⟨U,o,A,d,v,ds,Z,I,q,V,R,Q⟩:=h;refine⟨U,o,A,d,v,ds,_,I,λw r a H1 O d1 g M pr k h1=>?_⟩;exact q _ _ H1 o O d1 (M.setP z pr k) h1
end
abbrev FTQ:=D->List D->(D->D->Prop)->Prop
def spQ(K:W.Frag)(n:Nat)(T:FTQ):Sp:=λvs H Q _=>∃d S v ws A Y,vs=v::ws/\S.length+1=n/\Ft K H d v A/\A.Nodup/\Reps K H A S ws/\T d S Y /\
 ∀u r d' H' A',Grow A A' H H'->Ft K H' d' v A'->A'.Nodup->(∀a∈A',a∈A\/H a=none)->zw r->Rep K H' [] r u->Y r d'->Q u H'
noncomputable def u0(A:List Addr)(H:Hp):Hp:=λb=>if b∈A then none else H b
def Zb{A:List Addr}{H:Hp}{b:Addr}(h:b∈A):u0 A H b=none:=zaK h
def xr{A:List Addr}{H:Hp}{b:Addr}(h:b∉A):u0 A H b=H b:=zaI h
def Xs(A:List Addr)(H:Hp):Same (u0 A H) H:=λb u h=>by
 by_cases hb:b∈A
 .rw[Zb hb]at h;cases h
 rw[xr hb]at h;exact h
section
def Li{a:Addr}{E ys:List V}(h:H a=some (.lst E)):Grow [a] [a] H (upd H a (.lst ys)) :=
 ⟨λb u d n=>⟨by rw[y0 (λz=>n (by rw[z];exact zao))];exact d,n⟩,λb zs d=>by rw[y0 (λz=>by rw[z,h]at d;cases d)];exact d,λb e u d=>by rw[y0 (λz=>by rw[z,h]at d;cases d)];exact d⟩
end
def z1g(K:W.Frag)(H_:Hp)(l:Nat)(t:TQs):TE:=λG H Q=>∃U o A d v,ST K H_ H G U o l A d v/\∃Y,t U Y /\
 ∀a E es ρ' H' A' d',Grow A A' H H'->ST K H_ H' G ρ' o l A' d' v->H' a=some (.lst E)->a∉A'->a∉o.map Prod.snd->y7 es->Reps K H' [] es E->Y es ρ'->Q (.ref a) H'
def QL(G:Hp->Prop)(l:Nat)(X:Cx)(e:Expr)(t:TQs):Prop:=∀H_:{H:Hp // G H},PE X e (z1g X.K H_.1 l t)
section
variable{st:Stmt}{t u:TQS}
def qCut(t:TQS):TQS:=λU Z=>∃J:DE->Prop,t U {Z with nx:=J}/\∀ρ',J ρ'->Z.nx ρ'
def uo(h:QS L l X st t):QS L l X st (qCut t):=λH_=>impS (h H_) λDz G H h=>by
 obtain⟨U,o,A,d,v,ds,Z,⟨J,x,y⟩,u,r,q,k⟩:=h;exact⟨U,o,A,d,v,ds,_,x,λa e H2 j B d2 z g=>u a e H2 j B d2 z (y a g),r,q,k⟩
def wz{U:DE}{Z:QZ}(J:DE->Prop)(h1:t U {Z with nx:=J})(h2:∀ ρ2,J ρ2->u ρ2 Z):qSeq (qCut t) u U Z:=⟨J,h1,h2⟩
end
theorem Fts.length:∀{S:List D}{E:List V}{A:List Addr},Fts K H S E A->E.length=S.length
 |[],_,_,h=>by rw[h.1];rfl
 |d::S,E,A,h=>by
  obtain⟨v,r,B,C,rfl,_,_,t⟩:=h;simp[Fts.length t]
theorem Fts.foc:∀{S:List D}{E:List V}{A:List Addr}{i:Nat}{d:D},Fts K H S E A->S[i]?=some d->∃w l B C,E[i]?=some w/\A=B++l++C/\Ft K H d w l /\
  ∀H' e A1',Gt H H'->(∀a∈B++C,∀u,H a=some u->H' a=some u)->Ft K H' e w A1'->Fts K H' (S.set i e) E (B++A1'++C)
 |[],_,_,_,_,_,e=>by simp at e
 |d0::S,E,A,0,d,h,e=>by
  obtain⟨v,r,B,C,rfl,rfl,q,t⟩:=h;cases (show d0=d from by simpa using e)
  refine⟨v,B,[],C,rfl,rfl,q,λH' e A1' g k f=>⟨v,r,A1',C,rfl,rfl,f,Fts.keep g _ _ _ (λa j=>k a j) t⟩⟩
 |d0::S,E,A,i+1,d,h,e=>by
  obtain⟨v,r,B,C,rfl,rfl,q,t⟩:=h;obtain⟨w,l,z,y,I,rfl,f,k⟩:=Fts.foc (i:=i) t (by simpa using e)
  refine⟨w,l,B++z,y,by simpa using I,by simp,f,λH' e A1' g x G=>⟨v,r,B,z++A1'++y,rfl,by simp,Ft.keep g _ _ _ (λa j=>x a (by simp[j])) q,k H' e A1' g (λa j=>x a (by simp at j ⊢;rcases j with j|j <;> simp[j])) G⟩⟩
theorem Fts.put:∀{S:List D}{E:List V}{A:List Addr}(i:Nat){e:D}{u:V},Fts K H S E A->Ft K H e u []->∃A',A'.Sublist A/\Fts K H (S.set i e) (E.set i u) A'
 |[],_,_,_,_,_,h,_=>⟨_,List.Sublist.refl _,by obtain⟨rfl,rfl⟩:=h;exact⟨rfl,rfl⟩⟩
 |d::S,E,A,0,e,u,h,f=>by
  obtain⟨v,r,B,C,rfl,rfl,q,t⟩:=h;exact⟨C,List.sublist_append_right _ _,u,r,[],C,rfl,rfl,f,t⟩
 |d::S,E,A,i+1,e,u,h,f=>by
  obtain⟨v,r,B,C,rfl,rfl,q,t⟩:=h;obtain⟨a,s,t'⟩:=Fts.put i t f;exact⟨B++a,List.Sublist.append (List.Sublist.refl _) s,v,_,B,a,rfl,rfl,q,t'⟩
theorem Fts.app:∀{S es:List D}{E ys:List V}{A B:List Addr},Fts K H S E A->Fts K H es ys B->Fts K H (S++es) (E++ys) (A++B)
 |[],_,_,_,_,_,h,f=>by obtain⟨rfl,rfl⟩:=h;exact f
 |d::S,es,E,ys,A,B',h,f=>by
  obtain⟨v,r,B,C,rfl,rfl,q,t⟩:=h;exact⟨v,r++ys,B,C++B',rfl,by simp,q,Fts.app t f⟩
mutual
theorem Ft.repN{P:Addr->Prop}:∀(d:D)(v:V)(A:List Addr),(∀a∈A,P a)->Ft K H d v A->RepN K H P d v
 |.lst S,v,A,k,h=>by
  obtain⟨a,E,B,e,q,rfl,r⟩:=h;exact⟨a,E,e,q,k a zao,Fts.repNs S E B (λb g=>k b (zal _ g)) r⟩
 |.dk ks S,v,A,k,h=>by
  obtain⟨a,E,B,e,q,l,n,rfl,r⟩:=h;exact⟨a,E,e,q,k a zao,l,n,Fts.repNs S E B (λb g=>k b (zal _ g)) r⟩
 |.tup S,v,A,k,h=>by
  obtain⟨a,E,e,q,r⟩:=h;exact⟨a,E,e,q,Fts.repNs S E A k r⟩
 |.non,_,_,_,h=>h.2
 |.bl _,_,_,_,h=>h.2
 |.int _,_,_,_,h=>h.2
 |.str _,_,_,_,h=>h.2
 |.ty _,_,_,_,h=>h.2
 |.cn _,_,_,_,h=>h.2
 |.scr ns,v,A,_,h=>h.2
 |.fo _,_,_,_,h=>h.elim
 |.sx _,_,_,_,h=>h.elim
 |.ob C ns S,v,A,k,h=>by
  obtain⟨a,dx,E,B,e,q,l,n,rfl,r⟩:=h;exact⟨a,dx,E,e,q,k a zao,l,n,Fts.repNs S E B (λb g=>k b (zal _ g)) r⟩
theorem Fts.repNs{P:Addr->Prop}:∀(S:List D)(E:List V)(A:List Addr),(∀a∈A,P a)->Fts K H S E A->zp K H P S E
 |[],_,_,_,h=>h.1
 |d::S,E,A,k,h=>by
  obtain⟨v,r,B,C,e,rfl,q,t⟩:=h;exact⟨v,r,e,Ft.repN d v B (λb g=>k b (zaH _ g)) q,Fts.repNs S r C (λb g=>k b (zaE _ g)) t⟩
end
section
variable{o:List (Nat×Addr)}{A:List Addr}{d:D}
def ST.letgo(ds:ST K H_ H G U o l A d v){i:Nat}(hi:i≠l)(w:V):ST K H_ H (G.set i (some w)) (hid i U) o l A d v:=by
 refine⟨⟨ds.Q.same,ds.Q.fresh,ds.Q.trk,ds.Q.mtb,ds.Q.nda,λj r e=>?_,?_⟩,?_,?_,ds.ft⟩
 .obtain⟨g,e⟩:=cw e;obtain⟨a,e⟩:=cw e;obtain⟨u,k,q⟩:=ds.Q.slots j r (by rw[Nm g];exact e)
  exact⟨u,by rw[zaN (Ne.symm a)];exact k,q⟩
 .rw[zaY,ds.Q.len];simp only[rf,zaY]
 .rw[Nm (Ne.symm hi)];exact ds.hd
 rw[zaN hi];exact ds.hv
end
abbrev TP1:=DE->(List Nat->Prop)->Prop
section
variable{x:Str}{es:List Expr}
def D9:TP1:=λ_ Y=>Y []
abbrev TF:=DE->(D->Prop)->Prop
abbrev TFs:=DE->(List D->Prop)->Prop
def z4q(K:W.Frag)(H_:Hp)(l:Nat)(t:TF):TE:=λG H Q=>∃U o A d v,ST K H_ H G U o l A d v/\∃Y,t U Y/\∀u e B H',Same H H'->Ft K H' e u B->B.Nodup->(∀b∈B,H b=none)->Y e->Q u H'
def z1j(K:W.Frag)(H_:Hp)(l:Nat)(t:TFs):TA:=λG H Q=>∃U o A d v,ST K H_ H G U o l A d v/\∃Y,t U Y/\∀us es B H',Same H H'->Fts K H' es us B->B.Nodup->(∀b∈B,H b=none)->Y es->Q us H'
def EF(G:Hp->Prop)(l:Nat)(X:Cx)(e:Expr)(t:TF):Prop:=∀H_:{H:Hp // G H},PE X e (z4q X.K H_.1 l t)
def EFs(G:Hp->Prop)(l:Nat)(X:Cx)(es:List Expr)(t:TFs):Prop:=∀H_:{H:Hp // G H},PA X es (z1j X.K H_.1 l t)
def frs1:EV->Prop
 |⟨.fre,.lst S⟩=>y7 S
 |⟨.new,.lst S⟩=>y7 S
 |⟨_,d⟩=>zw d
def z2e{K:W.Frag}{H H':Hp}{O:List Addr}{r:EV}{v:V}(h:RV K H H' O r v)(p:frs1 r):∃B,Ft K H' r.d v B/\B.Nodup/\∀b∈B,H b=none:=by
 have q:zw r.d->∃B,Ft K H' r.d v B/\B.Nodup/\∀b∈B,H b=none:=λu=>⟨[],RepN.ft _ _ u h.view.rep0,zcX,λb e=>by cases e⟩
 obtain⟨k,d⟩:=r;unfold frs1 at p;split at p
 .rename_i S g;cases g;obtain⟨a,rfl,m,n,E,l,j⟩:=h;exact⟨[a],⟨a,E,[],rfl,l,rfl,zp.fts _ _ p j⟩,by simp,λb e=>by rw[zaC.mp e];exact m⟩
 .rename_i S g;cases g;obtain⟨a,E,rfl,l,x,j⟩:=h;exact⟨[a],⟨a,E,[],rfl,l,rfl,zp.fts (O:=[]) _ _ p (zp.reps (λ_ _ z=>by cases z) _ _ j)⟩,by simp,λb e=>by rw[zaC.mp e];exact x.2⟩
 rename_i y d' _ _ g;cases g;exact q p
def fNil:TFs:=λ_ Y=>Y []
def Ci:EFs L l X [] fNil:=λH_=>impA uc λG H Q q=>by
 obtain⟨U,o,A,d,v,ds,Y,a,k⟩:=q;exact k [] [] [] H (Same.refl H) ⟨rfl,rfl⟩ zcX (λb e=>by cases e) a
def Jt(te:TF)(a:TFs):TFs:=λU Y=>te U λd=>a U λS=>Y (d::S)
def Ri{te:TF}{I:TFs}(V:EF L l X e te)(hr:EFs L l X es I)(R:autoParam (S_ X e es) zSr):EFs L l X (e::es) (Jt te I):=λH_=>impA (wg (V H_) (hr H_) R) λG H Q q=>by
 obtain⟨U,o,A,d,v,ds,Y,y,k⟩:=q;refine⟨U,o,A,d,v,ds,_,y,λu e1 B1 H1 s1 J O z h1=>⟨U,o,A,d,v,ds.to s1,_,h1,λus D M H2 s2 Z N j h2=>?_⟩⟩;have B:Ft X.K H2 e1 u B1:=Ft.keep (Gt.same s2) _ _ _ (λa _ x r=>s2 _ _ r) J;refine k (u::us) (e1::D) (B1++M) H2 (s1.trans s2) ⟨u,us,B1,M,rfl,rfl,B,Z⟩ ?_ (λb g=>?_) h2
 .rw[zaO];refine⟨O,N,λa W b g e=>?_⟩;subst e;obtain⟨x,r,_⟩:=Ft.dom _ _ _ J a W;rw[j a g]at r;cases r
 rcases zas.mp g with g|g
 .exact z b g
 exact s1.free (j b g)
end
def Sy(K:W.Frag)(H_:Hp)(l:Nat)(t:TQS):TS:=λDz G H=>∃U o A d v,ST K H_ H G U o l A d v/\∃Z,t U Z /\
 (∀ρ' σ' H' o' A' d',ST K H_ H' σ' ρ' o' l A' d' v->Z.nx ρ'->Dz.nx σ' H') /\
 (∀u e ρ' H',Same H_ H'->RepN K H' (λa=>H_ a=none) e u->Z.rt e ρ'->Dz.rt u H')
def RS(G:Hp->Prop)(l:Nat)(X:Cx)(st:Stmt)(t:TQS):Prop:=∀H_:{H:Hp // G H},PS X st (Sy X.K H_.1 l t)
def RSs(G:Hp->Prop)(l:Nat)(X:Cx)(st:List Stmt)(t:TQS):Prop:=∀H_:{H:Hp // G H},PSs X st (Sy X.K H_.1 l t)
section
variable{st:Stmt}{rest a b:List Stmt}{t u:TQS}{c:Expr}{pos:Pos}
def Aj:RSs L l X [] qNil:=λH_=>Uo Yn λDz G H h=>by
 obtain⟨U,o,A,d,v,ds,Z,e,a,g⟩:=h;exact a _ _ _ _ _ _ ds e
def G1(h:RS L l X st t):RSs L l X [st] t:=λH_=>qy (h H_)
def Eb(h:RS L l X st t)(hr:RSs L l X rest u):RSs L l X (st::rest) (qSeq t u):=λH_=>Uo (vj (h H_) (hr H_)) λDz G H h=>by
 obtain⟨U,o,A,d,v,ds,Z,j,g,a⟩:=h;exact⟨U,o,A,d,v,ds,_,j,λρ' e H' o' A' d' k h'=>⟨ρ',o',A',d',v,k,Z,h',g,a⟩,a⟩
def z4b{tc:TQb}(x:QT L l X c tc)(z:RSs L l X a t)(y:RSs L l X b u):RS L l X (.If c a b pos) (qIf tc t u):=λH_=>impS (Kf (x H_) (z H_) (y H_)) λDz G H h=>by
 obtain⟨U,o,A,d,v,ds,Z,B,k,j⟩:=h;refine⟨U,o,A,d,v,ds,_,B,λD e H1 r d1 g q h1=>?_⟩;cases D
 .exact⟨e,o,r,d1,v,q,Z,h1.2 rfl,k,j⟩
 exact⟨e,o,r,d1,v,q,Z,h1.1 rfl,k,j⟩
end
abbrev FTR:=D->List D->(D->Prop)->Prop
def spR(K:W.Frag)(n:Nat)(T:FTR):Sp:=λvs H Q _=>∃d S v ws A Y,vs=v::ws/\S.length+1=n/\Ft K H d v A/\A.Nodup/\Reps K H A S ws/\T d S Y /\
 ∀u e H',(∀b x,H b=some x->b∉A->H' b=some x)->RepN K H' (λa=>a∈A\/H a=none) e u->Y e->Q u H'
structure FR(P:Program)(w:World)(K:W.Frag)(mg:Str->Option Value)(base:Heap)(k:Nat)(x:Str)(ps:List Str)(T:FTR):Prop where
 ex:∃f fd,FnOk P w K mg base CX0 k f fd ps (spR K ps.length T)/\uj K fd ps []/\W.keepIn K (.ref f)=true/\mg x=some (.ref f)
def By{G:St}{U:DE}{l:Nat}{d:D}{v:V}{H:Hp}{g:List Addr}(ft:Ft K H d v g)(y:g.Nodup)(M:U[l]?=some (some (dv d)))(J:G[l]?=some (some v))(len:G.length=U.length)(L:∀ i q,i≠l->U[i]?=some (some q)->∃ u,G[i]?=some (some u)/\q.k=.val/\Rep K H g q.d u):ST K (u0 g H) H G U [] l g d v:=by
 refine⟨⟨Xs g H,λp j=>?_,λp j=>?_,λp j=>?_,by rw[vi];exact y,λi q e=>?_,by rw[rf,zaY];exact len⟩,M,J,ft⟩
 .obtain⟨a,x,rfl⟩:=zah.mp (show p∈tg l g from j);exact Zb x
 .obtain⟨a,x,rfl⟩:=zah.mp (show p∈tg l g from j);obtain⟨u,hu,_⟩:=Ft.dom _ _ _ ft a x;exact⟨u,hu⟩
 .obtain⟨a,x,rfl⟩:=zah.mp (show p∈tg l g from j);obtain⟨u,hu,I,B⟩:=Ft.dom _ _ _ ft a x;exact⟨λE z=>I _ (zaP (hu.symm.trans z)),λN w z=>B _ _ (zaP (hu.symm.trans z))⟩
 obtain⟨hi,e⟩:=cw e;rw[vi];obtain⟨u,e1,k,r⟩:=L i q hi e;exact⟨u,e1,.inl ⟨k,r⟩⟩
def Yd{N:List Str}{d:D}{S:List D}{v:V}{ws:List V}{H:Hp}{j:List Addr}(ft:Ft K H d v j)(x:j.Nodup)(r:Reps K H j S ws):ST K (u0 j H) H (ZZ.start N (v::ws)) (wb N.length (d::S)) [] 0 j d v:=by
 refine By ft x rfl rfl (qf (N:=N) (S:=d::S) (vs:=v::ws) (H:=H) ⟨v,ws,rfl,Ft.rep _ _ _ (λa _ z=>by cases z) ft,zp.sub (λa y=>by cases y) _ _ r⟩).len λi q hi e=>?_
 cases i with
 |zero=>exact absurd rfl hi
 |succ i =>
  have g:((S.map λd=>some (dv d))++List.replicate (N.length-(d::S).length) none)[i]?=some (some q):=e;rcases zdF i S.length with hi|hi
  .rw[zaG (by simpa using hi),zai]at g
   have k:S[i]?=some S[i]:=by simp[hi]
   rw[k]at g;cases (show some (dv S[i])=some q from zaP g);obtain⟨u,B,l⟩:=r.get k;refine⟨u,?_,rfl,l⟩;show((ws.map some)++_)[i]?=_;rw[zaG (by rw[zLm,r.length];exact hi),zai,B]
   rfl
  rw[zaF (by simpa using hi),zcE]at g
  split at g <;> cases g
def Fs{K:W.Frag}{H:Hp}{d d2:D}{v:V}{g A':List Addr}{o':List (Nat×Addr)}{H':Hp}{q:St}{ρ':DE}{l:Nat}(ft:Ft K H d v g)(u:ST K (u0 g H) H' q ρ' o' l A' d2 v):Grow g A' H H'/\∀a∈A',a∈g\/H a=none:=by
 have r:∀b x,H b=some x->b∉g->H' b=some x:=λb x e k=>u.Q.same b x (by rw[xr k];exact e)
 refine⟨⟨λb x e k=>⟨r b x e k,λz=>?_⟩,λb E e=>r b _ e λz=>?_,λb J w e=>r b _ e λz=>?_⟩,λa G=>?_⟩
 .have:=u.frA b z;rw[xr k,e]at this;cases this
 .obtain⟨w,j,B,_⟩:=Ft.dom _ _ _ ft b z;rw[e]at j;cases j;exact B _ rfl
 .obtain⟨I,j,_,y⟩:=Ft.dom _ _ _ ft b z;rw[e]at j;cases j;exact y _ _ rfl
 have:=u.frA a G;by_cases hA:a∈g
 .exact .inl hA
 rw[xr hA]at this;exact .inr this
def z5b{x g:Str}{st:Stmt}{f:Addr}{fd:FuncData}{N ps:List Str}{k:Nat}{T:FTR}(F:Fun K x g st f fd)(ds:zn N ps (zd st))(b:uj K fd ps [])(m:mg x=some (.ref f))(z:∀ (qZ:Value) (A:Around) (outer:List Env) (s:Shared) (H:Hp) (xs:XK) (d:D) (S:List D) (Y:D->Prop),Room k (A.deeper (envOfC g (zd st) s.z f qZ))->S.length+1=ps.length->T d S Y ->
   ∃ t,RSs (λ_=>True) 0 (cxOf CX0 P w K mg base N g (zd st) f qZ A outer s H xs).nox (yr st) t/\t (wb N.length (d::S)) {nx:=λ_=>False,rt:=λr _=>Y r}):FR P w K mg base (k+1) x ps T:=by
 refine⟨f,fd,F.ok ds (λvs H Q xs h=>?_) (λqZ A outer s H vs Q xs hr h=>?_),b,F.kp,m⟩
 .obtain⟨d,S,v,ws,A,Y,rfl,hl,_,_,r,_⟩:=h;rw[zLc,r.length,hl]
 obtain⟨d,S,v,ws,j,Y,rfl,hl,ft,B,r,hT,G⟩:=h;obtain⟨t,I,J⟩:=z qZ A outer s H xs d S Y hr hl hT;have O:=Yd (N:=N) ft B r;refine⟨Sy K (u0 j H) 0 t,I ⟨u0 j H,zaA⟩,wb N.length (d::S),[],j,d,v,O,_,J,λρ' q H' o' A' d2 R h'=>h'.elim,λu e ρ' H' s' y h'=>?_⟩;refine G u e H' (λb x M L=>s' b x (by rw[xr L];exact M)) (RepN.to (Same.refl _) (λa l=>?_) _ _ y) h'
 by_cases hA:a∈j
 .exact .inl hA
 rw[xr hA]at l;exact .inr l
section
variable{es:List Expr}{t:TDs}{p pos:Pos}
def sMax2:FT:=λS Y=>match S with
 |[.int i,.int j]=>Y (dv (.int (if j > i then j else i)))
 |_=>False
def Ck(l:X.mg "max" = none)(x:EA L X (e::es) t)(u:autoParam (X.calm=true) zSr)(q:autoParam (Gl X "max") zSr)(r:autoParam (S_ X e es) zSr)(a:autoParam (B_ X es pos) zSr):ED L X (.Call (.Name "max" p) (e::es) [] pos) (dCB sMax2 t) :=
 ut (Mu u) (λH O S vs Y Q ho j h k=>by
  unfold sMax2 at h;split at h
  .obtain⟨v,ws,rfl,h1,g,d,rfl,h2,rfl⟩:=j;cases (show v=_ from h1);cases (show g=_ from h2);exact⟨_,_,rfl,k _ _ H (Same.refl H) aH h⟩
  exact h.elim) l (by rfl) x q aB aB r a
end
def gL5(i j l m n:Nat):TGD:=λd U M=>∃a b c e f,d=.lst [a,b,c,e,f]/\M (setS (setS (setS (setS (setS U i (dv a)) j (dv b)) l (dv c)) m (dv e)) n (dv f))
def C3{K:W.Frag}(i j l m n:Nat):gh K (gLst K 5 (k8 (se i) (k8 (se j) (k8 (se l) (k8 (se m) (k8 (se n) gNil)))))) (gL5 i j l m n):=λH_ H G U o d v M Q R h g k=>by
 obtain⟨a,b,c,e,f,rfl,g⟩:=g;obtain⟨p,E,rfl,q,n,r⟩:=h;obtain⟨B,V,rfl,h1,z,r2,rfl,h2,y,O,rfl,J,x,N,rfl,I,u,L,rfl,D,rfl⟩:=r;refine⟨p,_,rfl,SqL.of q,rfl,B,_,rfl,z,_,rfl,y,_,rfl,x,_,rfl,u,_,rfl,rfl,?_⟩;exact k _ _ (((((R.setV i h1).setV j h2).setV l J).setV m I).setV _ D) g
noncomputable def Zn:D->Option (List D)
 |.lst S=>some S
 |.tup S=>some S
 |.ob _ _ S=>some S
 |_=>none
noncomputable def Le:D->List D->D
 |.lst _,S=>.lst S
 |.tup _,S=>.tup S
 |.ob C ns _,S=>.ob C ns S
 |d,_=>d
noncomputable def atQ:List Nat->D->Option D
 |[],d=>some d
 |i::π,d=>match Zn d with
  | some S=>(match S[i]? with
   |some x=>atQ π x
   | none=>none)
  |none=>none
noncomputable def putQ:List Nat->D->D->D
 |[],_,e=>e
 |i::π,d,e=>match Zn d with
  | some S=>(match S[i]? with
   |some x=>Le d (S.set i (putQ π x e))
   | none=>d)
  |none=>d
def Kids(H:Hp)(a:Addr)(E:List V):Prop:=H a=some (.lst E)\/H a=some (.tup E)\/∃C dx,∃ns:List Str,H a=some (.ins C dx (ns.zip E))/\ns.length=E.length
theorem vz1{α a:Type}:∀{ns:List α}{E:List a},ns.length=E.length->(ns.zip E).map Prod.snd=E
 |[],[],_=>rfl
 |[],_::_,h=>by simp at h
 |_::_,[],h=>by simp at h
 |_::_,_::_,h=>by simp[vz1 (by simpa using h)]
def Kids.fn{H:Hp}{a:Addr}{E ys:List V}(h:Kids H a E)(h':Kids H a ys):E=ys:=by
 rcases h with h|h|⟨C,dx,ns,h,l⟩
 .rcases h' with h'|h'|⟨C',dx',ns',h',l'⟩
  .rw[h]at h';cases h';rfl
  .rw[h]at h';cases h'
  rw[h]at h';cases h'
 .rcases h' with h'|h'|⟨C',dx',ns',h',l'⟩
  .rw[h]at h';cases h'
  .rw[h]at h';cases h';rfl
  rw[h]at h';cases h'
 rcases h' with h'|h'|⟨C',dx',ns',h',l'⟩
 .rw[h]at h';cases h'
 .rw[h]at h';cases h'
 rw[h]at h'
 injection h' with h'
 injection h' with _ _ e
 have:=zbO (List.map Prod.snd) e;rw[vz1 l,vz1 l']at this;exact this
def Kids.to{H H':Hp}{a:Addr}{E:List V}(s:Same H H')(h:Kids H a E):Kids H' a E:=by
 rcases h with h|h|⟨C,dx,ns,h,l⟩
 .exact .inl (s _ _ h)
 .exact .inr (.inl (s _ _ h))
 exact .inr (.inr ⟨C,dx,ns,s _ _ h,l⟩)
def valQ(H:Hp):List Nat->V->V->Prop
 |[],v,u=>u=v
 |i::π,v,u=>∃a E w,v=.ref a/\Kids H a E/\E[i]?=some w/\valQ H π w u
theorem valQ.fn{H:Hp}:∀{π:List Nat}{v u w:V},valQ H π v u->valQ H π v w->u=w
 |[],_,_,_,h,g=>h.trans g.symm
 |_::_,_,_,_,x,y=>by
  obtain⟨a,E,w,e,q,g,h⟩:=x;obtain⟨b,F,u,k,r,l,j⟩:=y;rw[e]at k;cases k;cases q.fn r;rw[g]at l;cases l;exact h.fn j
theorem valQ.to{H H':Hp}(s:Same H H'):∀{π:List Nat}{v u:V},valQ H π v u->valQ H' π v u
 |[],_,_,h=>h
 |_::_,_,_,x=>by
  obtain⟨a,E,w,e,q,g,h⟩:=x;exact⟨a,E,w,e,q.to s,g,h.to s⟩
theorem valQ.snoc{H:Hp}{i:Nat}{a:Addr}{E:List V}{w:V}:∀{π:List Nat}{v:V},valQ H π v (.ref a)->Kids H a E->E[i]?=some w->valQ H (π++[i]) v w
 |[],_,h,q,g=>⟨a,E,w,h.symm,q,g,rfl⟩
 |_::_,_,x,q,g=>by
  obtain⟨b,F,z,e,r,k,h⟩:=x;exact⟨b,F,z,e,r,k,h.snoc q g⟩
def Ft.parts{d:D}{v:V}{A:List Addr}{S:List D}(h:Ft K H d v A)(p:Zn d=some S):∃a E T B,v=.ref a/\Kids H a E/\A=T++B/\Fts K H S E B /\
  ∀H' j x,Gt H H'->(∀b∈T,∀u,H b=some u->H' b=some u)->j.length=S.length->Fts K H' j E x->Ft K H' (Le d j) v (T++x):=by
 cases d with
 |lst es =>
  cases p
  obtain⟨a,E,B,e,q,rfl,r⟩:=h;exact⟨a,E,[a],B,e,.inl q,rfl,r,λH' j x g k l f=>⟨a,E,x,e,k a zao _ q,rfl,f⟩⟩
 |tup es =>
  cases p
  obtain⟨a,E,e,q,r⟩:=h;exact⟨a,E,[],A,e,.inr (.inl q.2),rfl,r,λH' j x g k l f=>⟨a,E,e,Pu g.tups g.frzs q,f⟩⟩
 |ob C ns es =>
  cases p
  obtain⟨a,dx,E,B,e,q,l,n,rfl,r⟩:=h;exact⟨a,E,[a],B,e,.inr (.inr ⟨C,dx,ns,q,by rw[l,r.length]⟩),rfl,r,λH' j x g k y f=>⟨a,dx,E,x,e,k a zao _ q,by rw[y];exact l,n,rfl,f⟩⟩
 |_=>cases p
theorem Ft.focQ:∀{π:List Nat}{d:D}{v:V}{A:List Addr}{d1:D},Ft K H d v A->atQ π d=some d1->∃u z B C,valQ H π v u/\A=B++z++C/\Ft K H d1 u z /\
  ∀H' e A1',Gt H H'->(∀a∈B++C,∀u,H a=some u->H' a=some u)->Ft K H' e u A1'->Ft K H' (putQ π d e) v (B++A1'++C)
 |[],d,v,A,d1,h,e=>by
  cases (show d=d1 from zaP e)
  exact⟨v,A,[],[],rfl,by simp,h,λH' e A1' _ _ f=>by simpa [putQ] using f⟩
 |i::π,d,v,A,d1,h,e=>by
  have e:(match Zn d with|some S=>(match S[i]? with|some x=>atQ π x|none=>none)|none=>none)=some d1:=e
  cases ep:Zn d with
  |none=>rw[ep]at e;cases e
  |some S =>
   rw[ep]at e;have e:(match S[i]? with|some x=>atQ π x|none=>none)=some d1:=e
   cases ed:S[i]? with
   |none=>rw[ed]at e;cases e
   |some d2 =>
    rw[ed]at e;obtain⟨a,E,T,AA,rfl,q,rfl,r,G⟩:=h.parts ep;obtain⟨w,z,B,C,R,rfl,f,k⟩:=Fts.foc r ed;obtain⟨u,A2,Z,W,J,rfl,O,I⟩:=Ft.focQ (π:=π) f e;refine⟨u,A2,T++(B++Z),W++C,⟨a,E,w,rfl,q,R,J⟩,by simp,O,λH' y A1' g l Q=>?_⟩
    have h2:=I H' y A1' g (λa j=>l a (by simp at j ⊢;rcases j with j|j <;> simp[j])) Q
    have N:=k H' _ _ g (λa j=>l a (by simp at j ⊢;rcases j with j|j <;> simp[j])) h2
    show Ft K H' (match Zn d with|some S=>(match S[i]? with|some x=>Le d (S.set i (putQ π x y))|none=>d)|none=>d) _ _
    rw[ep];show Ft K H' (match S[i]? with|some x=>Le d (S.set i (putQ π x y))|none=>d) _ _
    rw[ed];have M:=G H' _ _ g (λb L=>l b (by simp[L])) (by rw[zaY]) N
    simpa using M
section
variable{o:List (Nat×Addr)}{A:List Addr}{d:D}
theorem ST.focQ(ds:ST K H_ H G U o l A d v){π:List Nat}{d1:D}(h:atQ π d=some d1):∃u A1,valQ H π v u/\Ft K H d1 u A1/\A1.Nodup/\(∀a∈A1,a∈A)/\(∀a∈A1,H a≠none) /\
  ∀H' e A1',(∀c x,H c=some x->c∉A1->H' c=some x)->Ft K H' e u A1'->A1'.Nodup->(∀a∈A1',a∈A1\/H a=none)->∃A',ST K H_ H' G (setS U l (dv (putQ π d e))) o l A' (putQ π d e) v/\Grow A A' H H'/\∀a∈A1,a∉A1'->a∉A':=by
 obtain⟨u,A1,B,C,hv,W,f,k⟩:=Ft.focQ ds.ft h;have R:=ds.ndA;rw[W]at R;have nd1:=zaO.mp R;have q:=zaO.mp nd1.1;have dm:∀a∈A,H a≠none:=λa g e=>by
  obtain⟨x,j,_⟩:=Ft.dom _ _ _ ds.ft a g;rw[e]at j;cases j
 have mA:∀a,a∈B\/a∈A1\/a∈C ↔ a∈A:=λa=>by rw[W];simp[or_assoc]
 refine⟨u,A1,hv,f,q.2.1,λa g=>(mA a).mp (by simp[g]),λa g=>dm a ((mA a).mp (by simp[g])),λH' e A1' L f' N fr=>?_⟩
 have gt:Gt H H':=⟨λb E J=>L b _ J λz=>by
   obtain⟨x,j,n1,_⟩:=Ft.dom _ _ _ f b z;rw[J]at j;cases j;exact n1 _ rfl,λb ob w J=>L b _ J λz=>by
   obtain⟨x,j,_,n2⟩:=Ft.dom _ _ _ f b z;rw[J]at j;cases j;exact n2 _ _ rfl⟩
 have O:∀a∈B++C,a∉A1:=λa g z=>by
  rcases zas.mp g with g|g
  .exact q.2.2 a g a z rfl
  exact nd1.2.2 a (zaE _ z) a g rfl
 have Q:=k H' e A1' gt (λa g x j=>L a x j (O a g)) f';have r:∀a∈B++A1'++C,a∈A\/H a=none:=λa g=>by
  rw[zas,zas]at g;rcases g with(g|g)|g
  .exact .inl ((mA a).mp (by simp[g]))
  .exact(fr a g).imp (λz=>(mA a).mp (by simp[z])) id
  exact .inl ((mA a).mp (by simp[g]))
 have M:(B++A1'++C).Nodup:=by
  rw[zaO,zaO];refine⟨⟨q.1,N,λx j y I e=>?_⟩,nd1.2.1,λx j y I e=>?_⟩
  .subst e;rcases fr x I with z|z
   .exact q.2.2 x j x z rfl
   exact dm x ((mA x).mp (by simp[j])) z
  subst e;rcases zas.mp j with j|j
  .exact nd1.2.2 x (zaH _ j) x I rfl
  rcases fr x j with z|z
  .exact nd1.2.2 x (zaE _ z) x I rfl
  exact dm x ((mA x).mp (by simp[I])) z
 have Z:Grow A (B++A1'++C) H H':=⟨λc x j V=>⟨L c x j λz=>V ((mA c).mp (by simp[z])),λz=>(r c z).elim V λe=>by rw[j]at e;cases e⟩,gt.tups,gt.frzs⟩
 refine⟨_,ds.chg Z Q M r,Z,λa g na z=>?_⟩;rw[zas,zas]at z;rcases z with(z|z)|z
 .exact O a (by simp[z]) g
 .exact na z
 exact O a (by simp[z]) g
end
def z1i(K:W.Frag)(H_:Hp)(l:Nat)(t:TP1):TE:=λG H Q=>∃U o A d v,ST K H_ H G U o l A d v/\∃Y,t U Y/\∀u π H',Same H H'->valQ H' π v u->Y π->Q u H'
def EPQ(G:Hp->Prop)(l:Nat)(X:Cx)(e:Expr)(t:TP1):Prop:=∀H_:{H:Hp // G H},PE X e (z1i X.K H_.1 l t)
structure CO(K:W.Frag)(C:Addr)(ns:List Str):Prop where
 cl:Cls K C
 na:∀f∈ns,f6 K C f
noncomputable def ixF:List Str->Str->Option Nat
 |[],_=>none
 |n::ns,f=>if n=f then some 0 else(ixF ns f).map (·+1)
theorem ua{α:Type}{f:Str}:∀{ns:List Str}{E:List α}{i:Nat},ixF ns f=some i->ns.length=E.length->(ns.zip E).lookup f=E[i]?
 |[],_,_,h,_=>by cases h
 |n::ns,[],_,_,l=>by simp at l
 |n::ns,x::E,i,h,l=>by
  unfold ixF at h;by_cases e:n=f
  .rw[zaK e]at h;cases h;subst e;simp[List.lookup]
  rw[zaI e]at h;obtain⟨j,d,rfl⟩:=zar.mp h;have a:(f==n)=false:=zbN.mpr (λz=>e z.symm);show(List.lookup f ((n,x)::ns.zip E))=_;rw[List.lookup,a];simpa using ua d (by simpa using l)
theorem g6{f:Str}:∀{ns:List Str}{i:Nat},ixF ns f=some i->f∈ns
 |[],_,h=>by cases h
 |n::ns,i,h=>by
  unfold ixF at h;by_cases e:n=f
  .exact e▸zao
  rw[zaI e]at h;obtain⟨j,a,rfl⟩:=zar.mp h;exact zal _ (g6 a)
theorem Sk{f:Str}{y:V}:∀{ns:List Str}{E:List V}{i:Nat},ixF ns f=some i->ns.length=E.length->putF f y (ns.zip E)=ns.zip (E.set i y)
 |[],_,_,h,_=>by cases h
 |n::ns,[],_,_,l=>by simp at l
 |n::ns,x::E,i,h,l=>by
  unfold ixF at h;show(if n=f then(n,y)::ns.zip E else(n,x)::putF f y (ns.zip E))=_
  by_cases e:n=f
  .rw[zaK e]at h ⊢;cases h;rfl
  rw[zaI e]at h ⊢;obtain⟨j,a,rfl⟩:=zar.mp h;rw[Sk a (by simpa using l)]
  rfl
section
variable{x f:Str}{ke:Expr}{es:List Expr}{tk:TD}{pos:Pos}{ns:List Str}
def yh(j:autoParam (X.N[l]?=some x) zSr)(hv:autoParam (Vis X.env.scope x) zSo)(g:autoParam (D_ x) zSd)(e:autoParam ((x==("__classdict__" : Str))=false) zSd):EPQ L l X (.Name x pos) D9:=λH_=>impE (uq j hv g e) λG H Q q=>by
 obtain⟨U,o,A,d,v,ds,Y,a,k⟩:=q;exact⟨v,ds.hv,k v [] H (Same.refl H) rfl a⟩
def pFld(l:Nat)(C:Addr)(ns:List Str)(f:Str)(a:TP1):TP1:=λU Y=>a U λπ=>∃d S,slot U l=some (dv d)/\atQ π d=some (.ob C ns S)/\(match ixF ns f with
 |some i=>Y (π++[i])
 | none=>False)
def xf(O:CO X.K C ns)(M:EPQ L l X e tp)(R:autoParam (attributeBase e f X.env (eval e X.env)=eval e X.env) zSr):EPQ L l X (.Attribute e f pos) (pFld l C ns f tp):=λH_=>impE (G9 (M H_) R) λG H Q q=>by
 obtain⟨U,o,A,d,v,ds,Y,x,k⟩:=q;refine⟨U,o,A,d,v,ds,_,x,λu π H1 s1 y h1=>?_⟩;obtain⟨d',S,es,W,h1⟩:=h1;cases s2_ es ds.hd
 split at h1
 .rename_i i g;obtain⟨w,A1,I,V,_⟩:=(ds.to s1).focQ W;have:=y.fn I;subst this;obtain⟨a,dx,E,B,rfl,q,J,n,rfl,r⟩:=V;have j:ns.length=E.length:=by rw[J,r.length]
  have hi:i<E.length:=by
   have:=ua (E:=ns) g rfl;rcases zdF i E.length with z|z
   .exact z
   have Z:=ua (E:=E) g j;rw[zbM z]at Z;exfalso;have N:=g6 g;rw[zbM aD]at this
   have:∀ns:List Str,f∈ns->(ns.zip ns).lookup f≠none:=λns=>by
    induction ns with
    |nil=>intro h;cases h
    |cons a r ih =>
     intro h;rw[zaM,List.lookup];cases q:(f==a) with
     |true=>exact λz=>by cases z
     |false =>
      rcases zam.mp h with h|h
      .rw[h]at q;simp at q
      exact ih h
   exact this ns N (by assumption)
  have D:E[i]?=some E[i]:=zaf hi;exact⟨a,C,dx,_,E[i],rfl,q,O.cl,O.na f (g6 g),by rw[ua g j];exact D,k _ _ H1 s1 (y.snoc (.inr (.inr ⟨C,dx,ns,q,j⟩)) D) h1⟩
 exact h1.elim
def pIxQ(l:Nat)(a:TP1)(tk:TD):TP1:=λU Y=>a U λπ=>tk U λe=>∃d d1 S i j,slot U l=some (dv d)/\atQ π d=some d1/\(match d1 with
 |.lst es=>es=S
 |.tup es=>es=S
 | _=>False)/\e.d=.int i/\ixN S.length i=some j/\Y (π++[j])
def z0e(W:EPQ L l X e tp)(Z:ED L X ke tk)(V:autoParam (gd ke) zSj):EPQ L l X (.Subscript e ke pos) (pIxQ l tp tk):=λH_=>impE (c4 Gs (W H_) (Z H_) V) λG H Q q=>by
 obtain⟨U,o,A,d,v,ds,Y,D,k⟩:=q;refine⟨U,o,A,d,v,ds,_,D,λu π H1 s1 N h1=>⟨U,o,(ds.to s1).R,_,h1,λw r H2 s2 O h2=>?_⟩⟩;obtain⟨d',d1,S,i,j,es,ea,x,ei,I,h2⟩:=h2;cases s2_ es ds.hd
 obtain⟨b,A1,z,M,_⟩:=(ds.to (s1.trans s2)).focQ ea;have:=(N.to s2).fn z;subst this;have J:=O.view;rw[ei]at J;cases (show w=_ from J);have hj:=(U8 I).2.1;split at x
 .subst x;obtain⟨a,ys,B,rfl,q,rfl,fs⟩:=M;have hl:=fs.length;obtain⟨y,g⟩:∃y,ys[j]?=some y:=⟨ys[j]' aD,by simp[show j<ys.length by lia]⟩
  refine .inl ⟨a,ys,i,y,rfl,rfl,SqL.of q,?_,k _ _ H2 (s1.trans s2) (z.snoc (.inl q) g) h2⟩;unfold atI;rw[hl,I];exact g
 .subst x;obtain⟨a,ys,rfl,q,fs⟩:=M;have hl:=fs.length;obtain⟨y,g⟩:∃y,ys[j]?=some y:=⟨ys[j]' aD,by simp[show j<ys.length by lia]⟩
  refine .inr (.inl ⟨a,ys,i,y,rfl,rfl,q.1,?_,k _ _ H2 (s1.trans s2) (z.snoc (.inr (.inl q.2)) g) h2⟩);unfold atI;rw[hl,I];exact g
 exact x.elim
end
mutual
theorem Ft.uniq{K:W.Frag}{H:Hp}:∀(d:D)(v:V)(A B:List Addr),Ft K H d v A->Ft K H d v B->A=B
 |.lst S,v,A,B,h,g=>by
  obtain⟨a,E,A',rfl,q,rfl,r⟩:=h;obtain⟨a2,k,u,e,j,rfl,r2⟩:=g;cases e;rw[q]at j;cases j;rw[Fts.uniq S E A' u r r2]
 |.dk ks S,v,A,B,h,g=>by
  obtain⟨a,E,A',rfl,q,l,n,rfl,r⟩:=h;obtain⟨a2,k,u,e,j,l2,y,rfl,r2⟩:=g;cases e;rw[q]at j
  injection j with j
  injection j with j
  have e2:=zbO (List.map Prod.snd) j;rw[vz1 (by rw[l,r.length]),vz1 (by rw[l2,r2.length])]at e2
  subst e2;rw[Fts.uniq S E A' u r r2]
 |.tup S,v,A,B,h,g=>by
  obtain⟨a,E,rfl,q,r⟩:=h;obtain⟨a2,k,e,j,r2⟩:=g;cases e;have x:=q.2;rw[j.2]at x;cases x;exact Fts.uniq S E A B r r2
 |.ob C ns S,v,A,B,h,g=>by
  obtain⟨a,dx,E,A',rfl,q,l,n,rfl,r⟩:=h;obtain⟨a2,z,k,u,e,j,l2,y,rfl,r2⟩:=g;cases e;rw[q]at j
  injection j with j
  injection j with _ _ j
  have e2:=zbO (List.map Prod.snd) j;rw[vz1 (by rw[l,r.length]),vz1 (by rw[l2,r2.length])]at e2
  subst e2;rw[Fts.uniq S E A' u r r2]
 |.non,_,_,_,h,g=>by rw[h.1,g.1]
 |.bl _,_,_,_,h,g=>by rw[h.1,g.1]
 |.int _,_,_,_,h,g=>by rw[h.1,g.1]
 |.str _,_,_,_,h,g=>by rw[h.1,g.1]
 |.ty _,_,_,_,h,g=>by rw[h.1,g.1]
 |.cn _,_,_,_,h,g=>by rw[h.1,g.1]
 |.scr _,_,_,_,h,g=>by rw[h.1,g.1]
 |.fo _,_,_,_,h,_=>h.elim
 |.sx _,_,_,_,h,_=>h.elim
theorem Fts.uniq{K:W.Frag}{H:Hp}:∀(S:List D)(E:List V)(A B:List Addr),Fts K H S E A->Fts K H S E B->A=B
 |[],_,_,_,h,g=>by rw[h.2,g.2]
 |d::S,E,A,B,h,g=>by
  obtain⟨v,r,u,l,rfl,rfl,q,t⟩:=h;obtain⟨x,y,k,j,e,rfl,a,t'⟩:=g;cases e;rw[Ft.uniq d v u k q a,Fts.uniq S r l j t t']
end
section
variable{o:List (Nat×Addr)}{A:List Addr}{d:D}
theorem Fts.setA:∀{S:List D}{E:List V}{A B:List Addr}{i:Nat}{e:D}{u:V},i<S.length->Fts K H S E A->Ft K H e u B->∃g k a,A=g++k++a/\Fts K H (S.set i e) (E.set i u) (g++B++a)
 |[],_,_,_,_,_,_,hi,_,_=>by simp at hi
 |d::S,E,A,B,0,e,u,_,h,f=>by
  obtain⟨v,r,j,C,rfl,rfl,q,t⟩:=h;exact⟨[],j,C,rfl,u,r,B,C,rfl,rfl,f,t⟩
 |d::S,E,A,B,i+1,e,u,hi,h,f=>by
  obtain⟨v,r,j,C,rfl,rfl,q,t⟩:=h;obtain⟨g,k,a,rfl,t'⟩:=Fts.setA (i:=i) (by simpa using hi) t f
  exact⟨j++g,k,a,by simp,v,_,j,g++B++a,rfl,by simp,q,t'⟩
def A9{A B q z l:List Addr}{P:Addr->Prop}(e:A=q++z++l)(u:A.Nodup)(r:B.Nodup)(dis:∀ a∈B,a∉A):(q++B++l).Nodup/\∀a∈q++B++l,a∈A\/a∈B:=by
 subst e;have k:=zaO.mp u;have v:=zaO.mp k.1;refine⟨?_,λa d=>?_⟩
 .rw[zaO,zaO];refine⟨⟨v.1,r,λx g y j e=>?_⟩,k.2.1,λx g y j e=>?_⟩
  .subst e;exact dis x j (by simp[g])
  subst e;rcases zas.mp g with g|g
  .exact k.2.2 x (zaH _ g) x j rfl
  exact dis x g (by simp[j])
 rw[zas,zas]at d;rcases d with(d|d)|d
 .exact .inl (by simp[d])
 .exact .inr d
 exact .inl (by simp[d])
def ST.putH(ds:ST K H_ H G U o l A d v){π:List Nat}{d1 e:D}{b:Addr}{y A1':List Addr}{r:List D}{zs:List V}{ho:HO}(h:atQ π d=some d1)(f:Ft K H d1 (.ref b) (b::y))(Z:(b::y).Nodup)(hu:∀ u B,valQ H π v u->Ft K H d1 u B->B.Nodup->u=.ref b/\B=b::y)(s:Same H H1)(f':Fts K H1 r zs A1')(L:A1'.Nodup)(fr:∀ a∈A1',a∈y\/H a=none)(nt:∀ E,ho≠.tup E)(nz:∀ N w,ho≠.frz N w)(mk:∀ H',H' b=some ho->Fts K H' r zs A1'->Ft K H' e (.ref b) (b::A1')):∃A',ST K H_ (upd H1 b ho) G (setS U l (dv (putQ π d e))) o l A' (putQ π d e) v/\Grow A A' H (upd H1 b ho)/\∀a∈y,a∉A1'->a∉A':=by
 obtain⟨u,B,hv,Q,n1,sub,dm,kk⟩:=ds.focQ h;obtain⟨rfl,rfl⟩:=hu u B hv Q n1;have O:=zaQ.mp Z;have hb:H b≠none:=dm b zao;have R:b∉A1':=λz=>(fr b z).elim O.1 hb;obtain⟨x,M,J,I⟩:=Ft.dom _ _ _ Q b zao;have q:=s _ _ M;have gt:Gt H1 (upd H1 b ho):=⟨λc E j=>by rw[y0 (λz=>by subst z;rw[q]at j;cases j;exact J _ rfl)];exact j,λc N w j=>by rw[y0 (λz=>by subst z;rw[q]at j;cases j;exact I _ _ rfl)];exact j⟩
 obtain⟨A',S',g,out⟩:=kk (upd H1 b ho) e (b::A1') (λc x j hn=>by rw[y0 (λz=>hn (by rw[z];exact zao))];exact s _ _ j)
  (mk _ zu (Fts.keep gt _ _ _ (λa k x M=>by rw[y0 (λz=>R (by rw[<- z];exact k))];exact M) f')) (zaQ.mpr ⟨R,L⟩) (λa k=>by
   rcases zam.mp k with rfl|k
   .exact .inl zao
   exact(fr a k).imp (λz=>zal _ z) id)
 refine⟨A',S',g,λa k W=>out a (zal _ k) λz=>?_⟩;rcases zam.mp z with rfl|z
 .exact O.1 k
 exact W z
def ST.atL(ds:ST K H_ H G U o l A d v){π:List Nat}{es:List D}(h:atQ π d=some (.lst es)):∃b ys j,valQ H π v (.ref b)/\H b=some (.lst ys)/\Fts K H es ys j/\j.Nodup/\(∀a∈j,H a≠none)/\(∀a∈j,a∈A) /\
  ∀H1 g zs A1',Same H H1->Fts K H1 g zs A1'->A1'.Nodup->(∀a∈A1',a∈j\/H a=none)->∃A',ST K H_ (upd H1 b (.lst zs)) G (setS U l (dv (putQ π d (.lst g)))) o l A' (putQ π d (.lst g)) v/\Grow A A' H (upd H1 b (.lst zs))/\∀a∈j,a∉A1'->a∉A':=by
 obtain⟨u,A1,L,Q,J,sub,dm,W⟩:=ds.focQ h;obtain⟨b,ys,j,rfl,q,rfl,fs⟩:=Q;refine⟨b,ys,j,L,q,fs,(zaQ.mp J).2,λa x=>dm a (zal _ x),λa x=>sub a (zal _ x),λH1 g zs A1' s R k fr=>?_⟩;have:=ds.putH (e:=.lst g) (ho:=.lst zs) h ⟨b,ys,j,rfl,q,rfl,fs⟩ J (λu Z r O V=>by
  cases L.fn r
  obtain⟨b2,M,B,e,I,rfl,y⟩:=O;cases e;rw[q]at I;cases I;exact⟨rfl,by rw[Fts.uniq es ys j B fs y]⟩) s R k fr (λ_ z=>by cases z) (λ_ _ z=>by cases z) (λH' N f=>⟨b,zs,A1',rfl,N,rfl,f⟩)
 exact this
end
section
variable{x f:Str}{ke oe:Expr}{es:List Expr}{tk:TD}{pos pos':Pos}{ns:List Str}
def dFld(C:Addr)(ns:List Str)(f:Str)(te:TD):TD:=λU Y=>te U λr=>match r.d with
 | .ob C' ns' S=>C'=C/\ns'=ns/\(match ixF ns f with
  | some i=>(match S[i]? with
   |some x=>Y (dv x)
   | none=>False)
  | none=>False)
 |_=>False
def vt(O:CO X.K C ns)(D:ED L X e te)(I:autoParam (attributeBase e f X.env (eval e X.env)=eval e X.env) zSr):ED L X (.Attribute e f pos) (dFld C ns f te):=λH_=>impE (G9 (D H_) I) λG H Q q=>by
 obtain⟨U,o,R,Y,j,k⟩:=q;refine⟨U,o,R,_,j,λv r H1 s1 z h1=>?_⟩;have x:=z.view;obtain⟨V,d⟩:=r;cases d with
 |ob C' ns' S =>
  obtain⟨rfl,rfl,h1⟩:=h1;obtain⟨a,dx,E,rfl,q,_,B,N,l⟩:=x;split at h1
  .rename_i i u;split at h1
   .rename_i y J;obtain⟨w,M,g⟩:=l.get J;exact⟨a,_,dx,_,w,rfl,q,O.cl,O.na f (g6 u),by rw[ua u (by rw[B,l.length])];exact M,k _ (dv y) H1 s1 g h1⟩
   exact h1.elim
  exact h1.elim
 |_=>exact h1.elim
def frs2:EV->Prop
 |⟨.fre,.dk _ S⟩=>y7 S
 |r=>frs1 r
def Nu{K:W.Frag}{H H':Hp}{O:List Addr}{r:EV}{v:V}(h:RV K H H' O r v)(p:frs2 r):∃B,Ft K H' r.d v B/\B.Nodup/\∀b∈B,H b=none:=by
 unfold frs2 at p;split at p
 .obtain⟨a,rfl,m,n,E,k,j,g,e⟩:=h;exact⟨[a],⟨a,E,[],rfl,k,j,g,rfl,zp.fts _ _ p e⟩,by simp,λb l=>by rw[zaC.mp l];exact m⟩
 exact z2e h p
def fE2(te:TD):TF:=λU Y=>te U λr=>frs2 r/\Y r.d
def x5(x:ED L X e te):EF L l X e (fE2 te):=λH_=>impE (x H_) λG H Q q=>by
 obtain⟨U,o,A,d,v,ds,Y,a,k⟩:=q;refine⟨U,o,ds.R,_,a,λu r H1 s1 g h1=>?_⟩;obtain⟨B,f,j,fr⟩:=Nu g h1.1;exact k u r.d B H1 s1 f j fr h1.2
def fTup(t:TFs):TF:=λU Y=>t U λS=>S.length<=1000/\Y (.tup S)
def z2s{t:TFs} {x1} (h:EFs L l X es t):EF L l X (.Tuple es x1 pos) (fTup t):=λH_=>impE (Ol (h H_)) λG H Q q=>by
 obtain⟨U,o,A,d,v,ds,Y,e,k⟩:=q;refine⟨U,o,A,d,v,ds,_,e,λus g B H1 s1 f j fr h1=>⟨by rw[f.length,zbC];lia,λp u=>?_⟩⟩
 have n:=ye u (HO.tup us);exact k (.ref p) (.tup g) B _ (s1.trans n) ⟨p,us,rfl,⟨SqT.of zu,zu⟩,Fts.keep (Gt.same n) _ _ _ (λa _ x r=>n _ _ r) f⟩ j fr h1.2
def qFld(l:Nat)(C:Addr)(ns:List Str)(f:Str)(a:TP1)(e:TF):TQS:=λU Z=>e U λx=>a U λπ=>∃d S,slot U l=some (dv d)/\atQ π d=some (.ob C ns S)/\ns.length<=100/\(match ixF ns f with
 |some i=>Z.nx (setS U l (dv (putQ π d (.ob C ns (S.set i x)))))
 | none=>False)
def Sj(O:CO X.K C ns)(hp:EPQ L l X oe tp)(he:EF L l X e tf)(hs:autoParam (swapsWith e (some (.Attribute oe f pos')) pos.line X.env=pure false) zSr):QS L l X (.Assign [.Attribute oe f pos'] e pos) (qFld l C ns f tp tf):=λH_=>impS (G6 (hp H_) (he H_) hs) λDz G H h=>by
 obtain⟨U,o,A,d,v,ds,Z,hZ,k1,k2,k3,k4⟩:=h;refine⟨U,o,A,d,v,ds,_,hZ,λw y B H1 s1 fy nB I h1=>⟨U,o,A,d,v,ds.to s1,_,h1,λu π H2 s2 vp h2=>?_⟩⟩;obtain⟨d',S,es,ea,hn,h2⟩:=h2;cases s2_ es ds.hd
 split at h2
 .rename_i i J;obtain⟨u',A1,hv,f1,n1,sub,dm,_⟩:=ds.focQ ea;have j:=s1.trans s2;cases (vp.fn (hv.to j));obtain⟨b,dx,E,At,rfl,q,k,N,rfl,fs⟩:=f1;have lx:ns.length=E.length:=by rw[k,fs.length]
  have hi:i<S.length:=by
   have e3:=ua (E:=S) J k;rcases zdF i S.length with z|z
   .exact z
   exfalso;have hm:=g6 J;have:∀(ns:List Str)(S:List D),ns.length=S.length->f∈ns->(ns.zip S).lookup f≠none:=λns=>by
    induction ns with
    |nil=>intro _ _ h;cases h
    |cons a r ih =>
     intro S l h;cases S with
     |nil=>simp at l
     |cons d S =>
      rw[zaM,List.lookup];cases q:(f==a) with
      |true=>exact λz=>by cases z
      |false =>
       rcases zam.mp h with h|h
       .rw[h]at q;simp at q
       exact ih S (by simpa using l) h
   exact this ns S k hm (by rw[e3];exact zbM z)
  have a0:Fts X.K H2 S E At:=Fts.keep (Gt.same j) _ _ _ (λa _ x Q=>j _ _ Q) fs;have W:Ft X.K H2 y w B:=Ft.keep (Gt.same s2) _ _ _ (λa _ x Q=>s2 _ _ Q) fy;obtain⟨B0,A1,C0,eA,f3⟩:=Fts.setA hi a0 W;have M:=zaQ.mp n1;obtain⟨n3,m3⟩:=A9 (P:=λ_=>True) eA M.2 nB (λa V z=>dm a (zal _ z) (I a V));obtain⟨A',S',g,_⟩:=ds.putH (e:=.ob C ns (S.set i y)) (ho:=.ins C dx (ns.zip (E.set i w))) ea ⟨b,dx,E,At,rfl,q,k,N,rfl,fs⟩ n1 (λu A2 R f2 n2=>by
   cases hv.fn R
   exact⟨rfl,Ft.uniq _ _ _ _ f2 ⟨b,dx,E,At,rfl,q,k,N,rfl,fs⟩⟩) j f3 n3 (λa V=>(m3 a V).imp id (I a)) (λ_ z=>by cases z) (λ_ _ z=>by cases z) (λH' hb f=>⟨b,dx,_,_,rfl,hb,by rw[zaY];exact k,N,rfl,f⟩)
  refine⟨b,C,dx,_,rfl,j _ _ q,O.cl,O.na f (g6 J),by rw[zbI];lia,?_⟩
  rw[Sk J lx];exact k1 _ _ _ _ _ _ S' h2
 exact h2.elim
def Aw(l:Nat)(a:TP1)(e:TF):TQS:=λU Z=>a U λπ=>∃d S,slot U l=some (dv d)/\atQ π d=some (.lst S)/\S.length<=100000/\e U λf=>Z.nx (setS U l (dv (putQ π d (.lst (S++[f])))))
def w6(O:EPQ L l X oe tp)(Q:EF L l X e tf)(k:∀ {ta tb:TE},PE X oe ta->PE X e tb->PS X (.Expr (.Call (.Attribute oe "append" apos) [e] [] cpos) pos) (Vu (tBM X.K "list" U0 ta (Q2 tb tNil))):=by
   intro ta tb h1 h2;exact sv (Q9 zcH PySem.F.slot_list_append PySem.F.type_list_append cf h1 (wg h2 uc))) :
  QS L l X (.Expr (.Call (.Attribute oe "append" apos) [e] [] cpos) pos) (Aw l tp tf):=λH_=>impS (k (O H_) (Q H_)) λDz G H h=>by
 obtain⟨U,o,A,d,v,ds,Z,R,M,k2,k3,k4⟩:=h;refine⟨U,o,A,d,v,ds,_,R,λu π H1 s1 y h1=>?_⟩;have r:=ds.to s1;obtain⟨d',S,es,ea,hl,h1⟩:=h1;cases s2_ es ds.hd
 obtain⟨b,ys,A1,z,j,fs,I,dm,sub,J⟩:=r.atL ea;have:=y.fn z;subst this;refine⟨.inl ⟨rfl,_,SqL.of j⟩,U,o,A,d,v,r,_,h1,λw f B H2 s2 V D fr h2=>?_⟩;have W:Fts X.K H2 S ys A1:=Fts.keep (Gt.same s2) _ _ _ (λa _ x N=>s2 _ _ N) fs;obtain⟨A',S',g,_⟩:=J H2 (S++[f]) (ys++[w]) (A1++B) s2 (W.app ⟨w,[],B,[],rfl,by simp,V,rfl,rfl⟩) (by
   rw[zaO];refine⟨I,D,λa q b j e=>?_⟩;subst e;exact dm a q (fr a j)) (λa q=>(zas.mp q).imp id (fr a))
 refine⟨b,ys,w,rfl,rfl,s2 _ _ j,?_,M _ _ _ _ _ _ S' h2⟩;rw[fs.length];exact zeC hl aB
def Ek(l:Nat)(a:TP1)(te:TD):TQS:=λU Z=>a U λπ=>∃d S,slot U l=some (dv d)/\atQ π d=some (.lst S)/\S.length<=100000/\te U λr=>match r.d with
 |.lst gs=>y7 gs/\gs.length<=1000/\Z.nx (setS U l (dv (putQ π d (.lst (S++gs)))))
 |_=>False
def Eh(hp:EPQ L l X oe tp)(he:ED L X e te)(j:∀ {ta tb:TE},PE X oe ta->PE X e tb->PS X (.Expr (.Call (.Attribute oe "extend" apos) [e] [] cpos) pos) (Vu (tBM X.K "list" Ym ta (Q2 tb tNil))):=by
   intro ta tb h1 h2;exact sv (Q9 zcH zeW zeX ca h1 (wg h2 uc))) :
  QS L l X (.Expr (.Call (.Attribute oe "extend" apos) [e] [] cpos) pos) (Ek l tp te):=λH_=>impS (j (hp H_) (he H_)) λDz G H h=>by
 obtain⟨U,o,A,d,v,ds,Z,hZ,V,k2,k3,k4⟩:=h;refine⟨U,o,A,d,v,ds,_,hZ,λu π H1 s1 D h1=>?_⟩;have z:=ds.to s1;obtain⟨d',S,es,ea,hl,h1⟩:=h1;cases s2_ es ds.hd
 obtain⟨b,ys,A1,I,q,fs,O,dm,sub,Q⟩:=z.atL ea;have:=D.fn I;subst this;refine⟨.inl ⟨rfl,_,SqL.of q⟩,U,o,z.R,_,h1,λw r H2 s2 J h2=>?_⟩;have B:=J.view;obtain⟨kd,M⟩:=r;cases M with
 |lst gs =>
  obtain⟨N,lg,h2⟩:=h2;obtain⟨c,zs,rfl,hc,k⟩:=B;have f1:Fts X.K H2 S ys A1:=Fts.keep (Gt.same s2) _ _ _ (λa _ x W=>s2 _ _ W) fs;obtain⟨A',S',g,_⟩:=Q H2 (S++gs) (ys++zs) (A1++[]) s2 (f1.app (zp.fts _ _ N k)) (by rw[zbT];exact O) (λa y=>by rw[zbT]at y;exact .inl y)
  refine⟨b,c,ys,zs,rfl,rfl,s2 _ _ q,hc,?_,V _ _ _ _ _ _ S' h2⟩;rw[fs.length,k.length,zbC];lia
 |_=>exact h2.elim
def Au(l:Nat)(a:TP1)(tk te:TD):TQS:=λU Z=>te U λr=>zw r.d/\a U λπ=>tk U λe=>∃d S i j,slot U l=some (dv d)/\atQ π d=some (.lst S)/\e.d=.int i/\ixN S.length i=some j/\Z.nx (setS U l (dv (putQ π d (.lst (S.set j r.d)))))
def Eg(hp:EPQ L l X oe tp)(hk:ED L X ke tk)(he:ED L X e te)(hs:autoParam (swapsWithSole [.Subscript oe ke pos'] e pos.line X.env=pure false) zSr)(hw:autoParam (swappedStores [.Subscript oe ke pos'] e X.env=pure none) zSr)(h1:autoParam ((assignEach [.Subscript oe ke pos'] X.env).map (·.2)=[assign (.Subscript oe ke pos') X.env]) zSr)(z:autoParam (∀ v,assign (.Subscript oe ke pos') X.env v=(do
   let k <- holding [v] (eval oe X.env)
   let y <- holding [v,k] (eval ke X.env)
   standAt pos'
   holding [v,k,y] (setItem k y v)
   release [v,k,y] [])) zSi):QS L l X (.Assign [.Subscript oe ke pos'] e pos) (Au l tp tk te):=λH_ =>
 impS (W6 (he H_) (Oi (hp H_) (hk H_) Yi z) hs hw h1) λDz G H h=>by
  obtain⟨U,o,A,d,v,ds,Z,hZ,k1,k2,k3,k4⟩:=h;refine⟨U,o,ds.R,_,hZ,λw r H1 s1 V h1=>⟨U,o,A,d,v,ds.to s1,_,h1.2,λu π H2 s2 N h2=>⟨U,o,(ds.to (s1.trans s2)).R,_,h2,λM r2 J q x B=>?_⟩⟩⟩;obtain⟨d',S,i,j,es,ea,ei,ej,B⟩:=B;cases s2_ es ds.hd
  have S3:=ds.to ((s1.trans s2).trans q);obtain⟨b,ys,A1,Q,hb,fs,W,dm,sub,kk⟩:=S3.atL ea;have:=(N.to q).fn Q;subst this;have D:=x.view;rw[ei]at D;cases (show M=_ from D);have fw:Ft X.K J r.d w []:=RepN.ft _ _ h1.1 (RepN.keep (O:=[]) (O':=[]) (Gt.same (s2.trans q)) _ _ h1.1 V.view.rep0);obtain⟨A2,I,f2⟩:=fs.put j fw;obtain⟨A',S',g,_⟩:=kk J _ _ A2 (Same.refl _) f2 (I.nodup W) (λa z=>.inl (I.subset z));exact⟨b,ys,i,j,rfl,rfl,hb,by rw[fs.length];exact ej,k1 _ _ _ _ _ _ S' B⟩
end
section
variable{o:List (Nat×Addr)}{A:List Addr}{d:D}
theorem Fts.last:∀{S:List D}{E:List V}{A:List Addr},Fts K H S E A->S≠[]->∃e u a g,S[S.length-1]?=some e/\E[E.length-1]?=some u/\A=a++g/\Fts K H S.dropLast E.dropLast a/\Ft K H e u g
 |[],_,_,_,h=>absurd rfl h
 |[d],E,A,h,_=>by
  obtain⟨v,r,B,C,rfl,rfl,q,t⟩:=h;obtain⟨rfl,rfl⟩:=t;exact⟨d,v,[],B,rfl,rfl,by simp,⟨rfl,rfl⟩,q⟩
 |d::d'::S,E,A,h,_=>by
  obtain⟨v,r,B,C,rfl,rfl,q,t⟩:=h;obtain⟨e,u,a,g,e1,e2,rfl,f,j⟩:=Fts.last t aE
  obtain⟨k,l,_,_,rfl,_⟩:=t;exact⟨e,u,B++a,g,by simpa using e1,by simpa using e2,by simp,⟨v,_,B,a,rfl,rfl,q,f⟩,j⟩
def ST.setR(ds:ST K H_ H G U o l A d v){j:Nat}{e:D}{w:V}(a:j≠l)(h:Rep K H (o.map Prod.snd++A) e w):ST K H_ H (G.set j (some w)) (setS U j (dv e)) o l A d v:=by
 refine⟨?_,?_,?_,ds.ft⟩
 .rw[qh _ _ a];exact ds.Q.setV j (by rw[vi];exact h)
 .rw[xx,zaN a];exact ds.hd
 rw[zaN a];exact ds.hv
theorem kq{α:Type}{f:Str}:∀{ns:List Str}{E:List α},f∉ns->(ns.zip E).lookup f=none
 |[],_,_=>rfl
 |n::ns,[],_=>rfl
 |n::ns,x::E,h=>by
  rw[zaM,List.lookup,zbN.mpr (λz=>h (by rw[z];exact zao))]
  exact kq λz=>h (zal _ z)
theorem Sl{f:Str}{y:V}:∀{ns:List Str}{E:List V},f∉ns->ns.length=E.length->putF f y (ns.zip E)=(ns++[f]).zip (E++[y])
 |[],[],_,_=>rfl
 |[],_::_,_,h=>by simp at h
 |_::_,[],_,h=>by simp at h
 |n::ns,x::E,h,l=>by
  show(if n=f then(n,y)::ns.zip E else(n,x)::putF f y (ns.zip E))=_
  rw[zaI (λz=>h (by rw[z];exact zao)),Sl (λz=>h (zal _ z)) (by simpa using l)]
  rfl
end
section
variable{x y f m:Str}{oe:Expr}{es:List Expr}{np pos pos':Pos}{ns:List Str}{t:TQs}{T:FTQ}{k:Nat}{ps:List Str}
def Oa(l j:Nat)(a:TP1):TQS:=λU Z=>a U λπ=>∃d S e,slot U l=some (dv d)/\atQ π d=some (.lst S)/\S[S.length-1]?=some e/\Z.nx (setS (setS U l (dv (putQ π d (.lst S.dropLast)))) j (dv e))
def W5(j:Nat)(hj:j≠l)(hN:X.N.Nodup)(hp:EPQ L l X oe tp)(hi:autoParam (X.N[j]?=some x) zSr)(r:autoParam (Loc X.env.scope x) zSo)(hs:autoParam (swapsWith (.Call (.Attribute oe "pop" apos) [] [] cpos) (some (.Name x pos')) pos.line X.env=pure false) zSr)(hf:autoParam (X.fn x=true\/X.env.scope.names.lookup x=some .local) zSo)(D:∀ {ta:TE},PE X oe ta->PE X (.Call (.Attribute oe "pop" apos) [] [] cpos) (tBM0 X.K "list" rPop ta):=by
   intro ta h1;exact Ga zcH PySem.F.slot_list_pop PySem.F.type_list_pop Gj h1) :
  QS L l X (.Assign [.Name x pos'] (.Call (.Attribute oe "pop" apos) [] [] cpos) pos) (Oa l j tp):=λH_=>impS (dw hN hi r (D (hp H_)) hs hf) λDz G H h=>by
 obtain⟨U,o,A,d,v,ds,Z,hZ,k1,k2,k3,k4⟩:=h;refine⟨U,o,A,d,v,ds,_,hZ,λu π H1 s1 vp h1=>?_⟩;have M:=ds.to s1;obtain⟨d',S,e,es,ea,J,h1⟩:=h1;cases s2_ es ds.hd
 obtain⟨b,ys,At,O,q,fs,n1,dm,sub,kk⟩:=M.atL ea;have:=vp.fn O;subst this;obtain⟨e',w,A2,Ae,e1,ew,rfl,f2,fe⟩:=fs.last (λz=>by rw[z]at J;cases J)
 rw[J]at e1;cases e1;have V:=zaO.mp n1;obtain⟨A',S',g,out⟩:=kk H1 _ _ A2 (Same.refl _) f2 V.1 (λa k=>.inl (zaH _ k));refine⟨.inl ⟨rfl,_,SqL.of q⟩,b,ys,w,rfl,rfl,q,ew,?_⟩;have dis:∀a∈Ae,a∉o.map Prod.snd++A':=λa k z=>by
  rcases zas.mp z with z|z
  .exact M.dis a (sub a (zaE _ k)) z
  exact out a (zaE _ k) (λy=>V.2.2 a y a k rfl) z
 have I:Ft X.K (upd H1 b (.lst ys.dropLast)) e w Ae:=by
  have g1:Grow [b] [b] H1 (upd H1 b (.lst ys.dropLast)):=Li q;refine Ft.keep g1.gt _ _ _ (λa k x r=>?_) fe;by_cases hab:a=b
  .exfalso;subst hab;obtain⟨u2,A3,B,f3,_,Q,_,_⟩:=M.focQ ea;cases O.fn B;obtain⟨b2,a0,B2,e2,R,rfl,r2⟩:=f3;cases e2;rw[q]at R;cases R;have W:(a::B2).Nodup:=by assumption
   rw[Fts.uniq _ _ _ _ r2 fs]at W;exact(zaQ.mp W).1 (zaE _ k)
  rw[y0 hab];exact r
 exact k1 _ _ _ _ _ _ (S'.setR hj (Ft.rep _ _ _ dis I)) h1
structure FM(P:Program)(w:World)(K:W.Frag)(mg:Str->Option Value)(base:Heap)(k:Nat)(C:Addr)(ns:List Str)(m:Str)(ps:List Str)(T:FTQ):Prop where
 ex:∃f fd,FnOk P w K mg base CX0 k f fd ps (spQ K ps.length T)/\uj K fd ps []/\Meth K C m f
 no:m∉ns
def K8(l n:Nat)(C:Addr)(ns:List Str)(T:FTQ)(t:TQs):TQ:=λU Y=>∃S,slot U l=some (dv (.ob C ns S))/\t U λes a=>match slot a l with
 |some ⟨.val,d⟩=>Nat.beq (es.length+1) n=true/\T d es λr d'=>Y r (setS a l (dv d'))
 |_=>False
def Wd{H_:Hp}(J:m∉ns):∀G H Q,z1h X.K H_ l (K8 l ps.length C ns T t) G H Q->Lo C m (spQ X.K ps.length T) [] E0 (tVar l) (Gm X.K H_ l t) G H Q:=λG H Q q=>by
 obtain⟨U,o,A,d,v,ds,Y,⟨S,z,x⟩,M⟩:=q;have R:some (dv d)=some (dv (.ob C ns S)):=by rw[<- z];exact(wq ds.hd).symm
 cases R
 obtain⟨a,dx,E,B,O,I,W,nn,Z,r⟩:=ds.ft;refine⟨v,ds.hv,a,dx,_,O,I,kq J,U,o,A,_,v,ds,_,x,λus rs j H1 V d1 g1 e k h1=>?_⟩;have y:slot j l=some (dv d1):=wq e.hd;rw[y]at h1;show spQ X.K ps.length T (v::(us++[])) H1 Q E0;rw[zbT];refine⟨d1,rs,v,us,V,_,rfl,zeG h1.1,e.ft,e.ndA,zp.sub (λa N=>zaE _ N) _ _ k,h1.2,λu r d' H' A' g ft L fr pr D h2=>?_⟩;exact M u r _ H' A' d' (g1.trans g) (e.chg g ft L fr) pr D h2
def yp{pl:Sem Bool}(O:CO X.K C ns)(F:FM X.prog X.w X.K X.mg X.base k C ns m ps T)(hr:Room k X.A)(x:QA L l X (e::es) t)(z:autoParam (X.N[l]?=some y) zSr)(q:autoParam (Vis X.env.scope y) zSo)(v:autoParam (D_ y) zSd)(g:autoParam ((y==("__classdict__" : Str))=false) zSd)(a:autoParam (S_ X e es) zSr)(d:autoParam (B_ X es pos) zSr)(r:autoParam (eval (.Call (.Attribute (.Name y np) m apos) (e::es) [] pos) X.env=(do
   let j <- eval (.Name y np) X.env
   standAt apos.atName
   let (f,first) <- holding [j] (getMethod j m pl)
   callWith pos f first (backTo pos (starEach (e::es) X.env)) (backToKw pos (keywordEach [] X.env)))) zSr) :
  EQ L l X (.Call (.Attribute (.Name y np) m apos) (e::es) [] pos) (K8 l ps.length C ns T t):=λH_=>by
 obtain⟨f,fd,ok,b,u⟩:=F.ex;exact impE (Om (uq z q v g) O.cl u ok hr b .nil U2 (x H_) a d r) (Wd F.no)
def Rh{pl:Sem Bool}(O:CO X.K C ns)(F:FM X.prog X.w X.K X.mg X.base k C ns m ps T)(hr:Room k X.A)(J:autoParam (X.N[l]?=some y) zSr)(x:autoParam (Vis X.env.scope y) zSo)(I:autoParam (D_ y) zSd)(j:autoParam ((y==("__classdict__" : Str))=false) zSd)(B:autoParam (eval (.Call (.Attribute (.Name y np) m apos) [] [] pos) X.env=(do
   let r <- eval (.Name y np) X.env
   standAt apos.atName
   let (f,first) <- holding [r] (getMethod r m pl)
   callWith pos f first (backTo pos (starEach [] X.env)) (backToKw pos (keywordEach [] X.env)))) zSr) :
  EQ L l X (.Call (.Attribute (.Name y np) m apos) [] [] pos) (K8 l ps.length C ns T Ei):=λH_=>by
 obtain⟨f,fd,ok,b,D⟩:=F.ex;refine impE (Sr (uq J x I j) O.cl D ok hr b .nil U2 B) λG H Q q=>?_;obtain⟨v,g,a,dx,fs,e1,u,l1,z⟩:=Wd F.no G H Q q;refine⟨v,g,a,dx,fs,e1,u,l1,?_⟩;obtain⟨U,o,A,d,M,ds,Y,e,k⟩:=z;exact k [] [] U H A d Grow.refl ds rfl e
def qWh(tc:TQb)(tb:TQS):TQS:=λU Z=>∃(P:DE->Prop)(μ:DE->Nat),P U/\∀ρ1,P ρ1->tc ρ1 λb d=>(b=true->tb d {nx:=λa=>P a/\μ a<μ ρ1,rt:=Z.rt})/\(b=false->Z.nx d)
def K6{c:Expr}{e:List Stmt}{tc:TQb}{tb:TQS}(V:QT L l X c tc)(W:QSs L l X e tb)(R:PassesOwn X.mo X.A X.env X.xe:=by exact PassesOwn.never):QS L l X (.While c e [] pos) (qWh tc tb):=λH_=>impS (Sn R (V H_) (W H_)) λDz G H h=>by
 obtain⟨U,o,A,d,v,ds,Z,⟨P,u,hP,j⟩,Q,k2,k3,O⟩:=h;refine⟨λm a H'=>∃ρ' o' A' d',ST X.K H_.1 H' a ρ' o' l A' d' v/\P ρ'/\u ρ'=m,⟨_,U,o,A,d,ds,hP,rfl⟩,?_⟩;rintro m D H1 ⟨g,x,A1,d1,S1,J,rfl⟩;refine⟨g,x,A1,d1,v,S1,_,j g J,λb r H2 A2 d2 g2 z h2=>?_⟩;cases b with
 |false =>
  rw[zaI aB]
  exact Q _ _ _ _ _ _ z (h2.2 rfl)
 |true =>
  rw[zaK rfl];refine⟨λa H'=>∃ρ' o' A' d',ST X.K H_.1 H' a ρ' o' l A' d' v/\P ρ'/\u ρ'<u g,λa H' ⟨ρ',o',A',d',S',M,I⟩=>⟨_,I,ρ',o',A',d',S',M,rfl⟩,r,x,A2,d2,v,z,_,h2.1 rfl,λk B H3 N A3 d3 S3 y=>⟨k,N,A3,d3,S3,y.1,y.2⟩,λ_ _ _ _ _ _ _ q=>q.elim,λ_ _ _ _ _ _ _ q=>q.elim,O⟩
def Ej(l:Nat)(C:Addr)(f:Str)(a:TP1)(e:TF):TQS:=λU Z=>e U λx=>a U λπ=>∃d ns S,slot U l=some (dv d)/\atQ π d=some (.ob C ns S)/\ns.length<=100/\f∉ns/\Z.nx (setS U l (dv (putQ π d (.ob C (ns++[f]) (S++[x])))))
def sr(cl:Cls X.K C)(na:f6 X.K C f)(hp:EPQ L l X oe tp)(he:EF L l X e tf)(hs:autoParam (swapsWith e (some (.Attribute oe f pos')) pos.line X.env=pure false) zSr):QS L l X (.Assign [.Attribute oe f pos'] e pos) (Ej l C f tp tf):=λH_=>impS (G6 (hp H_) (he H_) hs) λDz G H h=>by
 obtain⟨U,o,A,d,v,ds,Z,hZ,k1,k2,k3,k4⟩:=h;refine⟨U,o,A,d,v,ds,_,hZ,λw y B H1 s1 fy nB r h1=>⟨U,o,A,d,v,ds.to s1,_,h1,λu π H2 s2 vp h2=>?_⟩⟩;obtain⟨d',ns,S,es,ea,hn,hf,h2⟩:=h2;cases s2_ es ds.hd
 obtain⟨u',A1,hv,f1,W,sub,dm,_⟩:=ds.focQ ea;have j:=s1.trans s2;cases (vp.fn (hv.to j));obtain⟨b,dx,E,At,rfl,q,D,M,rfl,fs⟩:=f1;have lx:ns.length=E.length:=by rw[D,fs.length]
 have V:Fts X.K H2 S E At:=Fts.keep (Gt.same j) _ _ _ (λa _ x N=>j _ _ N) fs;have R:Ft X.K H2 y w B:=Ft.keep (Gt.same s2) _ _ _ (λa _ x N=>s2 _ _ N) fy;have I:=zaQ.mp W;have J:(ns++[f]).Nodup:=by
  rw[zaO];refine⟨M,by simp,λa k c Q e=>?_⟩
  rw[zaC.mp Q]at e;exact hf (e▸k)
 obtain⟨A',S',g,_⟩:=ds.putH (e:=.ob C (ns++[f]) (S++[y])) (ho:=.ins C dx ((ns++[f]).zip (E++[w]))) (A1':=At++B) ea ⟨b,dx,E,At,rfl,q,D,M,rfl,fs⟩ W (λu A2 O f2 n2=>by
  cases hv.fn O
  exact⟨rfl,Ft.uniq _ _ _ _ f2 ⟨b,dx,E,At,rfl,q,D,M,rfl,fs⟩⟩) j (V.app (es:=[y]) (ys:=[w]) ⟨w,[],B,[],rfl,by simp,R,rfl,rfl⟩) (by
   rw[zaO];refine⟨I.2,nB,λa k c Q e=>?_⟩;subst e;exact dm a (zal _ k) (r a Q)) (λa k=>(zas.mp k).imp id (r a)) (λ_ z=>by cases z) (λ_ _ z=>by cases z) (λH' hb f'=>⟨b,dx,_,_,rfl,hb,by rw[zLa,zLa,D];rfl,J,rfl,f'⟩)
 refine⟨b,C,dx,_,rfl,j _ _ q,cl,na,by rw[zbI];lia,?_⟩
 rw[Sl hf lx];exact k1 _ _ _ _ _ _ S' h2
end
abbrev QE(P:Program)(w:World)(K:W.Frag)(mg:Str->Option Value)(base:Heap)(a:Str)(st:Stmt)(N ps:List Str)(k:Nat)(T:FTQ)(f:Addr):Prop:=∀ (qZ:Value) (A:Around) (outer:List Env) (s:Shared) (H:Hp) (xs:XK) (d:D) (S:List D) (Y:D->D->Prop),Room k (A.deeper (envOfC a (zd st) s.z f qZ))->S.length+1=ps.length->T d S Y -> ∃ t,QSs (λ_=>True) 0 (cxOf CX0 P w K mg base N a (zd st) f qZ A outer s H xs).nox (yr st) t/\t (wb N.length (d::S)) {nx:=λU=>∃ d',slot U 0=some (dv d')/\Y .non d',rt:=λr U=>∃ d',slot U 0=some (dv d')/\Y r d'}
def qm{x a m:Str}{st:Stmt}{f:Addr}{fd:FuncData}{N ps:List Str}{k:Nat}{T:FTQ}{C:Addr}{ns:List Str}(F:Fun K x a st f fd)(ds:zn N ps (zd st))(b:uj K fd ps [])(V:Meth K C m f)(L:m∉ns)(I:QE P w K mg base a st N ps k T f):FM P w K mg base (k+1) C ns m ps T:=by
 refine⟨⟨f,fd,F.ok ds (λvs H Q xs h=>?_) (λqZ A outer s H vs Q xs hr h=>?_),b,V⟩,L⟩
 .obtain⟨d,S,v,ws,A,Y,rfl,hl,_,_,r,_⟩:=h;rw[zLc,r.length,hl]
 obtain⟨d,S,v,ws,y,Y,rfl,hl,ft,M,r,hT,z⟩:=h;obtain⟨t,O,R⟩:=I qZ A outer s H xs d S Y hr hl hT;have W:=Yd (N:=N) ft M r;refine⟨Na K (u0 y H) 0 t,O ⟨u0 y H,zaA⟩,wb N.length (d::S),[],y,d,v,W,_,R,λρ' l H' o' A' d2 j B=>?_,λ_ _ _ _ _ _ _ q=>q.elim,λ_ _ _ _ _ _ _ q=>q.elim,λu e ρ' l H' o' A' d2 j J G B=>?_⟩
 all_goals
  obtain⟨d',es,h'⟩:=B;cases (show some (dv d2)=some (dv d') by rw[<- es];exact(wq j.hd).symm)
  obtain⟨g,fr⟩:=Fs ft j
 .exact z _ .non _ H' A' g j.ft j.ndA fr trivial rfl h'
 exact z _ _ _ H' A' g j.ft j.ndA fr J G h'
def Ks:typeLookup (.type "zip") "keys" = pure none:=am_miss_of_fast (by kernel_rfl)
def Y5:typeLookup (.type "zip") "__getattr__" = pure none:=am_miss_of_fast (by kernel_rfl)
def Z8:entryFor table "zip.__getattribute__" = some Builtin.«object.__getattribute__»:=entryFor_alias (id':="object.__getattribute__") (by kernel_rfl) aF aF (by kernel_rfl)
def N2(a:Addr)(fs:Array Value)(u:Tok):Meets (Builtin.«object.__getattribute__» ⟨[.ref a,.str "keys" u],[]⟩) (λA R s=>s.heap.get? a=some {cls:=.type "zip",dict:=none,data:=.fields fs,slots:=#[]}/\raisesAttr (.ref a) "keys" A R s) :=
 Meets.of_wp λP w A R s e=>by
  obtain⟨l,g,d,tk,j⟩:=s;obtain⟨k,e⟩:=e;have hT:(⟨l,g,d,tk,j⟩:Shared).TypeIs (.ref a) "zip":=⟨_,k,rfl⟩;have q:=Ks;unfold Builtin.«object.__getattribute__»
  repeat (any_goals (first|exact hT|exact q|assumption|wp_step))
  exact wpAny_raiseAttrError e.1 e.2 (attrMsg_fits aF (by size_fits))
def ja1{fs:Array Value}{Q:Option Value->Shared->Prop}(q:s.heap.get? a=some {cls:=.type "zip",dict:=none,data:=.fields fs,slots:=#[]})(y:A.handled=none)(h:∀ g tk,(∀ b u,s.heap.get? b=some u->g.get? b=some u)->Q none {s with heap:=g,toks:=tk}):wpAny (model P w) A (getAttr? (.ref a) "keys") Q xs s:=by
 obtain⟨r,g,d,tk,l⟩:=s;have hT:∀j,(⟨r,g,d,j,l⟩:Shared).TypeIs (.ref a) "zip":=λ_=>⟨_,q,rfl⟩;have I:=sub_AttributeError;have G:=F.slot_zip_getattribute.lookup;have D:=F.slot_zip_getattribute.bind (.ref a);have B:=Y5;unfold getAttr? getAttrBy? getAttrBy
 repeat (any_goals (first|assumption|exact hT _|((with_reducible show wpAny _ _ (call (Value.builtin "zip.__getattribute__") _ _) _ _ _);refine zeV F.slot_zip_getattribute (hT _) Z8 (F.args_zip_getattribute_2 _ _) (N2 a fs _) ⟨q,y,λh' j e k=>?_⟩)|wp_step))
 obtain⟨t',z,v⟩:=k.there;have x:∀tk'',(⟨h',g,d,tk'',l⟩:Shared).TypeIs (.ref e) "AttributeError":=λ_=>⟨_,v,rfl⟩;show wpAny _ _ (getattributeRaised _ _ _ _ _ _ _) _ _ _;unfold getattributeRaised
 repeat (any_goals (first|assumption|exact x _|wp_step))
 exact h _ _ k.keeps
section
variable{R:Result->Shared->Prop}{b1 b2:Bool}{d z ti to i1 i2 l1 l2:Addr}{E ys:Array Value}{h0:Heap}
def Rx{more:List (Key×Value)}(hh:A.handled=none)(D:ZZ.ZNe z ti to i1 i2)(d1:ZZ.ZOff z to i1 i2 l1)(d2:ZZ.ZOff z to i1 i2 l2)(lz:z<d)(a4:ti<d)(v:to<d)(G:i1<d)(B:i2<d)(a0:l1≠d)(W:l2≠d)(a8:E.size=ys.size)(a9:more.length=E.size)(hn:E.size<=1000)(a6:(more.map (·.1)).Nodup)(hv:∀ (i:Nat) x y,E[i]?=some x->ys[i]?=some y->∃ k t,x=.str k t/\more[i]?=some (Sum.inr k,y)) :
  ∀(k i:Nat)(s:Shared)(tk:Tok)(as:List Addr),E.size-i=k->i<=E.size->as.length=i->ZZ.ZS b1 b2 z ti to i1 i2 l1 l2 as i s.heap->ZZ.PairsZ s.heap E ys d as->ZZ.SqAt b1 s.heap l1 E->ZZ.SqAt b2 s.heap l2 ys ->
   (∀b o,b≠d->ZZ.ZOff z to i1 i2 b->h0.get? b=some o->s.heap.get? b=some o)->s.heap.DictOf (yq P w) d (more.take i) ->
   (∀g tk,g.DictOf (yq P w) d more->(∀b o,b≠d->ZZ.ZOff z to i1 i2 b->h0.get? b=some o->g.get? b=some o)->R (.ok (.ret .none)) {s with heap:=g,toks:=tk}) ->
   codeAny (model P w) A (.builtin "dict.update.loop" ⟨[.ref d,.ref z,.int i tk,.none],[]⟩) R s:=by
 have l:ZZ.ZOff z to i1 i2 d:=⟨zcA lz,zcA v,zcA G,zcA B⟩;have M:∀{a:Addr},d<a->ZZ.ZOff z to i1 i2 a:=λ{a} q=>⟨zcA (zfQ lz q),zcA (zfQ v q),zcA (zfQ G q),zcA (zfQ B q)⟩;have a7:A.in1.handled=none:=by simpa using hh
 intro k
 induction k with
 |zero =>
  intro i s tk as hk hi O Z I t1 t2 j q hR;have e:i=E.size:=by lia
  refine zdJ t7 ?_;rw[zcT wa _];show wpAny _ A.in1 (pyNext (.ref z) >>= _) _ _ s;refine zaa (Cw a7 D d1 d2 Z I t1 t2 (by rw[e];simp) λg r=>?_)
  show wpAny _ A.in1 (Builtin.Dict.addKeywords d [] >>= _) _ _ _;refine zaa (zab (zab (hR g s.toks ?_ λb o h1 h2 e=>r b o h2 (j b o h1 h2 e))));rw[zcJ aD]at q
  obtain⟨o,es,ep,ho,mm⟩:=q;exact⟨o,es,ep,r d o l ho,mm⟩
 |succ k ih =>
  intro i s tk as hk hi O Z I t1 t2 j q hR;have lt:i<E.size:=by lia
  have ex:E[i]?=some E[i]:=by simp[lt]
  have Q:ys[i]?=some (ys[i]' aD):=by simp[show i<ys.size by lia]
  obtain⟨x,t,hx,hm⟩:=hv i _ _ ex Q;obtain⟨u,hu⟩:∃u,u=ys[i]' aD:=⟨_,rfl⟩
  rw[<- hu]at Q hm;rw[hx]at ex;refine zdJ t7 ?_;rw[zcT wa _];show wpAny _ A.in1 (pyNext (.ref z) >>= _) _ _ s;refine zaa (Fa D d1 d2 Z I t1 t2 ex Q λg Z2 pr r=>?_);have ld:d<s.z:=by obtain⟨o,_,_,ho,_⟩:=q;exact zae ho
  have q2:g.DictOf (yq P w) d (more.take i):=by
   obtain⟨o',es,ep,a5,mm⟩:=q;exact⟨o',es,ep,r d o' l a5,mm⟩
  have N:(Sum.inr x:Key)∉(more.take i).map (·.1):=by
   have e:more.take (i+1)=more.take i++[(Sum.inr x,u)]:=by rw[zfN,hm];rfl
   have h4:((more.take (i+1)).map (·.1)).Nodup:=a6.sublist ((zeK _ _).map _);rw[e,zMa,zaO]at h4;intro z;exact h4.2.2 _ z (Sum.inr x) aE rfl
  have L:ZZ.PairsZ g E ys d (as++[s.z]):=(I.to λa o ha e=>r a o (M (I.1 a ha)) e).snoc ld (λm=>zcS _ (I.lt m)) (by rw[O];exact ex) (by rw[O];exact Q) pr
  show wpAny _ A.in1 (holding [Value.ref s.z] _ >>= _) _ _ _;refine zaa (zaZ (zaa (wpAny_tryCatch ?_)));unfold Builtin.Dict.pairItems;refine zaa (zfP (s:={s with heap:=g}) ⟨_,pr,rfl⟩ ?_);rw[zaK aB]
  refine zaa (zcK (s:={s with heap:=g}) pr rfl (zab ?_));show wpAny _ A.in1 (holding [Value.str x t,u] (dictSet d (.str x t) u)) _ _ _;refine zaZ (wpAny_dictSet_pairs (s:={s with heap:=g}) (knd:=yq P w) (k:=Sum.inr x) (ci P w x t) q2 (λg2 q3 J=>?_) (by rw[zaX];exact zak (Nat.min_le_left _ _) (zak hi (zak hn aB))))
  refine zab ⟨zfC wa _,?_⟩;rw[Ze N,show more.take i++[((Sum.inr x:Key),u)]=more.take (i+1) by rw[zfN,hm];rfl]at q3
  show codeAny (model P w) A (.builtin "dict.update.loop" ⟨[.ref d,.ref z,.int ((i:Int)+1) _,.none],[]⟩) R _;have ei:((i:Int)+1)=((i+1:Nat):Int):=by lia
  rw[ei];refine ih (i+1) _ _ (as++[s.z]) aD lt (by rw[zLa,O];rfl) (Z2.to λc o hc e=>J.extBut c o (λz=>?_) e) (L.to λa o ha e=>J.extBut a o (zcA (L.1 a ha)) e) ((t1.at λo e=>r _ o d1 e).at λo e=>J.extBut _ o a0 e) ((t2.at λo e=>r _ o d2 e).at λo e=>J.extBut _ o W e)
   (λb o' h1 h2 e=>J.extBut b o' h1 (r b o' h2 (j b o' h1 h2 e))) q3 λg3 V q4 k4=>hR g3 V q4 k4
  subst z;rcases hc with rfl|rfl|rfl|rfl|rfl
  .exact zcS _ lz
  .exact zcS _ a4
  .exact zcS _ v
  .exact zcS _ G
  exact zcS _ B
end
section
variable{b1 b2:Bool}{z ti to i1 i2 l1 l2:Addr}{E ys:Array Value}
def dict_zip{more:List (Key×Value)}{Q:Value->Shared->Prop}(hh:A.handled=none)(D:ZZ.ZNe z ti to i1 i2)(d1:ZZ.ZOff z to i1 i2 l1)(d2:ZZ.ZOff z to i1 i2 l2)(Z:ZZ.ZAt b1 b2 s.heap z ti to i1 i2 l1 l2 .none 0)(t1:ZZ.SqAt b1 s.heap l1 E)(t2:ZZ.SqAt b2 s.heap l2 ys)(O:E.size=ys.size)(V:more.length=E.size)(hn:E.size<=1000)(R:(more.map (·.1)).Nodup)(hv:∀ (i:Nat) x y,E[i]?=some x->ys[i]?=some y->∃ k t,x=.str k t/\more[i]?=some (Sum.inr k,y))(h:∀ g tk,g.DictOf (yq P w) s.z more->(∀ b o,ZZ.ZOff z to i1 i2 b->s.heap.get? b=some o->g.get? b=some o)->Q (.ref s.z) {s with heap:=g,toks:=tk}):wpAny (model P w) A (call (.type "dict") [.ref z]) Q xs s:=by
 refine callType_codes (Q₁:=λv y=>v=.ref s.z/\y={s with heap:=s.heap.push {cls:=.type "dict",data:=.dict #[]}}) F.kt_called_dict (F.kt_typeCall_dict_1 _) F.entry_dict_init (kt_code_dict_new _ ⟨rfl,rfl⟩) ?_;rintro v y ⟨rfl,rfl⟩;obtain⟨I,its,⟨oa,ob,out⟩,one,r⟩:=id Z;have lz:z<s.z:=zae I;have N:ti<s.z:=zae its;have M:to<s.z:=zae out;have li:∀{b:Bool}{it l:Addr}{i:Nat},ZZ.ItAt b s.heap it l i->it<s.z:=λ{b it l i} q=>by
  cases b with
  |true=>obtain⟨o,e,_⟩:=(show s.heap.IsTupleIter it l i from q);exact zae e
  |false=>obtain⟨o,e,_⟩:=(show s.heap.IsListIter it l i from q);exact zae e
 have W:∀{b:Bool}{l:Addr}{E:Array Value},ZZ.SqAt b s.heap l E->l<s.z:=λ{b l E} q=>by
  cases b with
  |true=>obtain⟨o,e,_⟩:=(show s.heap.IsTuple l E from q);exact zae e
  |false=>obtain⟨o,e,_⟩:=(show s.heap.IsList l E from q);exact zae e
 have new:(s.heap.push {cls:=.type "dict",data:=.dict #[]}).DictOf (yq P w) s.z []:=Heap.DictOf.new s.heap;have G:∀b u,s.heap.get? b=some u->(s.heap.push {cls:=.type "dict",data:=.dict #[]}).get? b=some u:=λb u e=>zac _ e;have d:=G z _ I;have J:Shared.TypeIs {s with heap:=s.heap.push {cls:=.type "dict",data:=.dict #[]}} (.ref z) "zip":=⟨_,d,rfl⟩;refine⟨new.typeIs,F.args_dict_init_2 _ _,?_⟩;unfold Builtin.«dict.__init__»;refine zaa ?_;unfold Builtin.Dict.selfAndRest;refine zaa (wpAny_notOrdered_dict new.typeIs ?_);show wpAny _ _ (pure (s.z,[Value.ref z])) _ _ _;refine zab ?_;show wpAny _ _ (Builtin.Dict.updateFrom "dict.__init__" s.z (.ref z) [] .none) _ _ _;unfold Builtin.Dict.updateFrom;refine zaa (zfP J ?_);rw[zaK aB]
 refine zaa (ja1 d (by simpa using hh) λg tk B=>?_)
 rw[zaK (show(Option.none:Option Value).isNone=true from rfl)];have up:∀b o,s.heap.get? b=some o->g.get? b=some o:=λb o e=>B b o (G b o e);refine zaa (zfJ (zaa (wpAny_pyIter_zip (s:={s with heap:=g,toks:=tk}) (up z _ I) ?_)));refine zab ⟨zfC wa _,?_⟩;have q0:g.DictOf (yq P w) s.z []:=by
  obtain⟨o,es,ep,ho,mm⟩:=new;exact⟨o,es,ep,B _ _ ho,mm⟩
 refine Rx (h0:=s.heap) (b1:=b1) (b2:=b2) (ys:=ys) (by simpa using hh) D d1 d2 lz N M (li one) (li r) (zaL (W t1)) (zaL (W t2)) O V hn R hv E.size 0 _ _ [] (Nat.sub_zero _) (zbW _) rfl
  (.inl ⟨rfl,up _ _ I,up _ _ its,⟨oa,ob,up _ _ out⟩,one.at λo e=>up _ o e,r.at λo e=>up _ o e⟩) ⟨(λ_ q=>nomatch q),zcX,λj a e=>by simp at e⟩ (t1.at λo e=>up _ o e) (t2.at λo e=>up _ o e) (λb o _ _ e=>up b o e) q0 λg2 L q2 k2=>?_
 exact⟨rfl,h g2 L q2 λb o q e=>k2 b o (zaL (zae e)) q e⟩
end
def Lp(K:W.Frag)(ta:TA):TE:=λG H Q=>ta G H λvs H1=>∃b1 b2 l1 l2 E ys,∃zs:List Str,vs=[.ref l1,.ref l2]/\SqK b1 K H1 l1 E/\SqK b2 K H1 l2 ys/\E=zs.map V.str/\E.length=ys.length/\E.length<=1000/\zs.Nodup /\
 ∀l,H1 l=none->Q (.ref l) (upd H1 l (.dK ((zs.map Sum.inr).zip ys)))
def Q8{X:Cx}{a b:Expr}{ta:TA}{p p2 pos pos2:Pos}(hc:X.calm=true)(hg:Gl X "dict")(hm:X.mg "dict" = none)(a5:Gl X "zip")(a4:X.mg "zip" = none)(ha:PA X [a,b] ta)(h1:autoParam (starEach [.Call (.Name "zip" p2) [a,b] [] pos2] X.env=(false,eval (.Call (.Name "zip" p2) [a,b] [] pos2) X.env)::starEach [] X.env) zSr)(he:autoParam (starEach [a,b] X.env=(false,eval a X.env)::starEach [b] X.env) zSr)(a0:autoParam ((backTo pos2 (starEach [b] X.env)).any (·.1)=false) zSr) :
  PE X (.Call (.Name "dict" p) [.Call (.Name "zip" p2) [a,b] [] pos2] [] pos) (Lp X.K ta):=by
 intro pn s G H Q I h;refine zbR (sw I hg hm ZZ.boot_dict' ?_ aB aB)
 refine zbB ?_ h1 (by rfl)
 rw[h1];show wpAny _ _ (spliced ((false,eval _ X.env)::backTo pos (starEach [] X.env))) _ _ s;refine Calls.spliced_cons ?_;refine zbR (sw I a5 a4 Vf ?_ aB aB)
 refine zbB (thn (ha pos2 pn s G H _ I h) λus s1 Zh=>?_) he a0;obtain⟨vs,H1,L,r,b1,b2,l1,l2,E,ys,zs,e,e1,e2,ez,hl,hn,nd,q⟩:=Zh;subst e;obtain⟨u,v,rfl,ru,rv⟩:=Lg r;cases ru;cases rv;obtain⟨d,r,g1⟩:=Xz L e1;obtain⟨j,r2,g2⟩:=Xz L e2;refine Th (E:=d.toArray) (ys:=j.toArray) g1 g2 λg Z W=>Calls.spliced_nil ?_;have D:ZNe (s1.z+4) (s1.z+2) (s1.z+3) s1.z (s1.z+1):=by
  constructor <;> (intro z;exact absurd (show(_:Nat)=_ from z) aD)
 have B:∀{c:Addr},c<s1.z->ZOff (s1.z+4) (s1.z+3) s1.z (s1.z+1) c:=λ{c} q=>⟨zaL (zaW q (zdD _ _)),zaL (zaW q (zdD _ _)),zaL q,zaL (zaW q (zdD _ _))⟩;have M:∀{b:Bool}{l:Addr}{its:List Value},SqAt b s1.heap l its.toArray->l<s1.z:=λ{b l its} q=>by
  cases b with
  |true=>obtain⟨o,e,_⟩:=(show s1.heap.IsTuple _ _ from q);exact zae e
  |false=>obtain⟨o,e,_⟩:=(show s1.heap.IsList _ _ from q);exact zae e
 have big:s1.z+4<g.objs.size:=zae Z.zz;have n1:=r.length;have n2:=r2.length;have hb:=L.big;have ex:∀(zs:List Str)(d j:List Value)(ys:List V),Vals (zs.map V.str) d->Vals ys j->zs.length=ys.length->∃more:List (Key×Value),KV ((zs.map (Sum.inr:Str->Key)).zip ys) more/\more.length=d.length/\more.map (·.1)=zs.map (Sum.inr:Str->Key) /\
   ∀(i:Nat) x y,d[i]?=some x->j[i]?=some y->∃k t,x=.str k t/\more[i]?=some (Sum.inr k,y):=by
  intro zs
  induction zs with
  |nil =>
   intro d j ys r r2 l;cases r;cases ys with
   |nil=>exact⟨[],.nil,rfl,rfl,λi x y e=>by simp at e⟩
   |cons _ _=>simp at l
  |cons zt zs ih =>
   intro d j ys r r2 l;cases ys with
   |nil=>simp at l
   |cons y ys =>
    cases r with
    |cons h1 t1 =>
     cases r2 with
     |cons h2 t2 =>
      obtain⟨more,R,O,k3,k4⟩:=ih _ _ ys t1 t2 (by simpa using l)
      obtain⟨tt,rfl⟩:=h1;rename_i u2 _;refine⟨(Sum.inr zt,u2)::more,.cons ⟨rfl,h2⟩ R,by simp[O],by simp[k3],λi x y' e N=>?_⟩
      cases i with
      |zero =>
       simp at e N;subst e N;exact⟨zt,tt,rfl,rfl⟩
      |succ i =>
       obtain⟨k,t,e3,e4⟩:=k4 i x y' (by simpa using e) (by simpa using N)
       exact⟨k,t,e3,by simpa using e4⟩
 subst ez;obtain⟨more,R,O,k3,k4⟩:=ex zs d j ys r r2 (by simpa using hl)
 rw[zLm]at hn n1 hl;refine ZZ.dict_zip (s:={s1 with heap:=g}) (A:=X.A) (more:=more) (L.ok.hd hc) D (B (M g1)) (B (M g2)) Z (g1.at λo e=>W _ o e) (g2.at λo e=>W _ o e) (by rw[zap,zap];lia) (by rw[zap];exact O) (by rw[zap];lia) (by
   rw[k3];exact zfL _ (λa b h e=>h (zeR e)) nd) (λi x y e N=>k4 i x y (by simpa using e) (by simpa using N)) λh' tk qd keep=>?_
 dsimp only at keep qd ⊢
 have J:∀b o,s1.heap.get? b=some o->h'.get? b=some o:=λb o e=>keep b o (B (zae e)) (W b o e);have gb:(s1.z:Nat)<=g.objs.size:=by have:(s1.z+4:Nat)<g.objs.size:=big;lia
 have fr:H1 g.objs.size=none:=L.hok.fresh gb;refine⟨.ref g.objs.size,_,L.laid (o:=.dK ((zs.map Sum.inr).zip ys)) (t':=tk) J gb ?_,rfl,q _ fr⟩;have lk:=R.length;exact V7 (by rw[lk,O,<- n1];exact zak hn aB) (by simpa using zcA (zaW hb gb)) R qd
section
variable{a b oe:Expr}{t:TDs}{x:Str}{p p2 pos pos2 pos' np:Pos}
def Ml(t:TDs):TD:=λU Y=>t U λrs=>∃(zs:List Str)(S:List D),(match rs with
 |[r1,r2]=>(r1.d=.lst (zs.map D.str)\/r1.d=.tup (zs.map D.str))/\(r2.d=.lst S\/r2.d=.tup S)
 | _=>False)/\zs.length=S.length/\zs.length<=1000/\zs.Nodup/\Y (df (.dk (zs.map Sum.inr) S))
def Pd{K:W.Frag}{H:Hp}{O:List Addr}{d:D}{v:V}{S:List D}(h:View K H O d v)(e:d=.lst S\/d=.tup S):∃b l E,v=.ref l/\SqK b K H l E/\Reps K H O S E:=by
 rcases e with rfl|rfl
 .obtain⟨a,E,rfl,q,r⟩:=h;exact⟨false,a,E,rfl,SqL.of q,r⟩
 obtain⟨a,E,rfl,q,r⟩:=h;exact⟨true,a,E,rfl,q.1,r⟩
def Rk(O:X.mg "dict" = none)(y:X.mg "zip" = none)(ha:EA L X [a,b] t)(Z:autoParam (X.calm=true) zSr)(V:autoParam (Gl X "dict") zSr)(z:autoParam (Gl X "zip") zSr)(h1:autoParam (starEach [.Call (.Name "zip" p2) [a,b] [] pos2] X.env=(false,eval (.Call (.Name "zip" p2) [a,b] [] pos2) X.env)::starEach [] X.env) zSr)(W:autoParam (starEach [a,b] X.env=(false,eval a X.env)::starEach [b] X.env) zSr)(x:autoParam ((backTo pos2 (starEach [b] X.env)).any (·.1)=false) zSr) :
  ED L X (.Call (.Name "dict" p) [.Call (.Name "zip" p2) [a,b] [] pos2] [] pos) (Ml t):=λH_ =>
 impE (Q8 Z V O z y (ha H_) h1 W x) λG H Q q=>by
  obtain⟨U,J,R,Y,v,M⟩:=q;refine⟨U,J,R,_,v,λvs rs H1 s1 k h1=>?_⟩;obtain⟨zs,S,h0,hl,N,B,h1⟩:=h1;split at h0
  .rename_i r1 r2;obtain⟨v1,ws,rfl,r,v2,j,rfl,l,e⟩:=k;cases (show j=[] from e);obtain⟨b1,l1,E,rfl,I,u⟩:=Pd r.view h0.1;obtain⟨b2,l2,ys,rfl,D,d⟩:=Pd l.view h0.2;have ex:=W2 u;have m2:=d.length;refine⟨b1,b2,l1,l2,E,ys,zs,rfl,I,D,ex,by rw[ex,zLm];lia,by rw[ex,zLm];exact N,B,λp g=>?_⟩
   have n:=ye g (HO.dK ((zs.map Sum.inr).zip ys));refine M (.ref p) (df (.dk (zs.map Sum.inr) S)) _ (s1.trans n) ⟨p,rfl,s1.free g,R.ofree (s1.free g),ys,zu,by rw[zLm];exact hl,zfL _ (λa b h e=>h (zeR e)) B,zp.grow (X6 g) _ _ d⟩ h1
  exact h0.elim
def G4(l j:Nat)(a:TP1)(te:TD):TQS:=λU Z=>a U λπ=>∃d ks S,slot U l=some (dv d)/\atQ π d=some (.dk ks S)/\j<U.length/\te (hid j U) λr=>match r with
 |⟨.fre,.dk ks2 ds2⟩=>y7 ds2/\ks.length+ks2.length<=1000/\(ks++ks2).Nodup/\Z.nx (hid j (setS U l (dv (putQ π d (.dk (ks++ks2) (S++ds2))))))
 |_=>False
def K7(j:Nat)(hj:j≠l)(hN:X.N.Nodup)(hp:EPQ L l X oe tp)(he:ED L X e te)(hi:autoParam (X.N[j]?=some x) zSr)(Q:autoParam (Loc X.env.scope x) zSo)(hs:autoParam (swapsWith oe (some (.Name x pos')) pos.line X.env=pure false) zSr)(hf:autoParam (X.fn x=true\/X.env.scope.names.lookup x=some .local) zSo)(hv:autoParam (Vis X.env.scope x) zSo)(hd:autoParam (D_ x) zSd)(a4:autoParam ((x==("__classdict__" : Str))=false) zSd)(W:∀ {ta tb:TE},PE X (.Name x np) ta->PE X e tb->PS X (.Expr (.Call (.Attribute (.Name x np) "update" apos) [e] [] cpos) pos2) (Vu (Bq ta tb)):=by
   intro ta tb h1 h2;exact sv (D5 h1 h2 ⟨rfl,rfl,rfl,rfl⟩)) :
  QSs L l X [.Assign [.Name x pos'] oe pos,.Expr (.Call (.Attribute (.Name x np) "update" apos) [e] [] cpos) pos2] (G4 l j tp te):=λH_ =>
 Uo (vj (dw hN hi Q (hp H_) hs hf) (qy (W (uq hi hv hd a4) (he H_)))) λDz G H h=>by
  obtain⟨U,o,A,d,v,ds,Z,hZ,k1,k2,k3,k4⟩:=h;refine⟨U,o,A,d,v,ds,_,hZ,λu π H1 s1 vp h1=>?_⟩;obtain⟨d',ks,S,es,ea,a8,h1⟩:=h1;cases s2_ es ds.hd
  have S1:=(ds.to s1).letgo hj u;have sl:G.length=U.length:=ds.R.len;obtain⟨u',A1,B,f1,n1,sub,dm,_⟩:=S1.focQ ea;cases vp.fn B;obtain⟨b,E,At,rfl,q,M,nd,rfl,fs⟩:=f1;have J:ks.length=E.length:=by rw[M,fs.length]
  refine⟨.ref b,zaU aD,b,_,rfl,q,hid j U,o,S1.R,_,h1,λw r H2 s2 rv h2=>?_⟩
  split at h2
  .rename_i k a6;obtain⟨pd,I,D,h2⟩:=h2;obtain⟨c,rfl,mc,nc,ys,qc,y,a7,rc⟩:=rv;have yl:k.length=ys.length:=by rw[y,rc.length]
   have a0:b≠c:=λz=>by
    subst z;rw[q]at mc;cases mc
   have a5:Fts X.K H2 S E At:=Fts.keep (Gt.same s2) _ _ _ (λa _ x Q=>s2 _ _ Q) fs;have O:=zaQ.mp n1;obtain⟨A',S',g,_⟩:=S1.putH (e:=.dk (ks++k) (S++a6)) (ho:=.dK ((ks++k).zip (E++ys))) (A1':=At++[]) ea ⟨b,E,At,rfl,q,M,nd,rfl,fs⟩ n1 (λu A2 V f2 n2=>by
    cases B.fn V
    exact⟨rfl,Ft.uniq _ _ _ _ f2 ⟨b,E,At,rfl,q,M,nd,rfl,fs⟩⟩) s2 (a5.app (zp.fts _ _ pd rc)) (by rw[zbT];exact O.2) (λa ha=>by rw[zbT]at ha;exact .inl ha) (λ_ z=>by cases z) (λ_ _ z=>by cases z)
    (λH' hb f=>⟨b,_,_,rfl,hb,by rw[zLa,zLa,M,y],D,rfl,f⟩)
   refine⟨c,_,_,rfl,a0,s2 _ _ q,qc,?_,?_,?_⟩
   .rw[zbI,zbI,<- J,<- yl,zfR,zfR];exact zak I aB
   .rw[<- Vo ks E k ys J,ja _ _ (by rw[zLa,zLa,J,yl])]
    exact D
   rw[<- Vo ks E k ys J];rw[<- qh _ _ (Ne.symm hj)]at S';exact k1 _ _ _ _ _ _ S' h2
  exact h2.elim
end
def z1k(K:W.Frag)(H_:Hp)(l:Nat)(t:TF):TE:=λG H Q=>∃U o A d v,ST K H_ H G U o l A d v/\∃Y,t U Y/\∀u e H',Same H H'->RepN K H' (λa=>H_ a=none) e u->Y e->Q u H'
def Dp(K:W.Frag)(H_:Hp)(l:Nat)(t:TFs):TA:=λG H Q=>∃U o A d v,ST K H_ H G U o l A d v/\∃Y,t U Y/\∀us es H',Same H H'->zp K H' (λa=>H_ a=none) es us->Y es->Q us H'
def ER(G:Hp->Prop)(l:Nat)(X:Cx)(e:Expr)(t:TF):Prop:=∀H_:{H:Hp // G H},PE X e (z1k X.K H_.1 l t)
def ERs(G:Hp->Prop)(l:Nat)(X:Cx)(es:List Expr)(t:TFs):Prop:=∀H_:{H:Hp // G H},PA X es (Dp X.K H_.1 l t)
section
variable{es:List Expr}{pos:Pos}
def rE(te:TD):TF:=λU Y=>te U λr=>zw r.d/\Y r.d
def Jw(j:ED L X e te):ER L l X e (rE te):=λH_=>impE (j H_) λG H Q q=>by
 obtain⟨U,o,A,d,v,ds,Y,a,k⟩:=q;exact⟨U,o,ds.R,_,a,λu r H1 s1 g h1=>k u r.d H1 s1 (RepN.toN _ _ h1.1 g.view.rep0) h1.2⟩
def rP(l:Nat)(a:TP1):TF:=λU Y=>a U λπ=>∃d d1,slot U l=some (dv d)/\atQ π d=some d1/\Y d1
def fq(x:EPQ L l X e tp):ER L l X e (rP l tp):=λH_=>impE (x H_) λG H Q q=>by
 obtain⟨U,o,A,d,v,ds,Y,g,k⟩:=q;refine⟨U,o,A,d,v,ds,_,g,λu π H1 s1 j h1=>?_⟩;obtain⟨d',d1,es,B,h1⟩:=h1;cases s2_ es ds.hd
 obtain⟨D,I,r,z,_,sub,_⟩:=(ds.to s1).focQ B;cases j.fn r;exact k u d1 H1 s1 (Ft.repN _ _ _ (λa y=>ds.frA a (sub a y)) z) h1
def Mc:ERs L l X [] fNil:=λH_=>impA uc λG H Q q=>by
 obtain⟨U,o,A,d,v,ds,Y,a,k⟩:=q;exact k [] [] H (Same.refl H) rfl a
def ur{te:TF}{j:TFs}(x:ER L l X e te)(hr:ERs L l X es j)(r:autoParam (S_ X e es) zSr):ERs L l X (e::es) (Jt te j):=λH_=>impA (wg (x H_) (hr H_) r) λG H Q q=>by
 obtain⟨U,o,A,d,v,ds,Y,a,k⟩:=q;refine⟨U,o,A,d,v,ds,_,a,λu e1 H1 s1 B h1=>⟨U,o,A,d,v,ds.to s1,_,h1,λus g H2 s2 y h2=>?_⟩⟩;exact k (u::us) (e1::g) H2 (s1.trans s2) ⟨u,us,rfl,RepN.to s2 aA _ _ B,y⟩ h2
def Gz{t:TFs} {x1} (h:ERs L l X es t):ER L l X (.Tuple es x1 pos) (fTup t):=λH_=>impE (Ol (h H_)) λG H Q q=>by
 obtain⟨U,o,A,d,v,ds,Y,a,k⟩:=q;refine⟨U,o,A,d,v,ds,_,a,λus e H1 s1 f h1=>⟨by rw[f.length,zbC];lia,λp g=>?_⟩⟩
 have n:=ye g (HO.tup us);exact k (.ref p) (.tup e) _ (s1.trans n) ⟨p,us,rfl,⟨SqT.of zu,zu⟩,zp.to n aA _ _ f⟩ h1.2
def An(t:TF):TQS:=λU Z=>t U λd=>Z.rt d U
def O8{t:TF}(h:ER L l X e t):RS L l X (.Return (some e) pos) (An t):=λH_=>impS (Zm (h H_)) λDz G H h=>by
 obtain⟨U,o,A,d,v,ds,Z,g,j,a⟩:=h;exact⟨U,o,A,d,v,ds,_,g,λu e H1 s1 r h1=>a u e U H1 (ds.Q.same.trans s1) r h1⟩
end
structure FMR(P:Program)(w:World)(K:W.Frag)(mg:Str->Option Value)(base:Heap)(k:Nat)(C:Addr)(ns:List Str)(m:Str)(ps:List Str)(T:FTR):Prop where
 ex:∃f fd,FnOk P w K mg base CX0 k f fd ps (spR K ps.length T)/\uj K fd ps []/\Meth K C m f
 no:m∉ns
def z2i{x g m:Str}{st:Stmt}{f:Addr}{fd:FuncData}{N ps:List Str}{k:Nat}{T:FTR}{C:Addr}{ns:List Str}(F:Fun K x g st f fd)(ds:zn N ps (zd st))(b:uj K fd ps [])(R:Meth K C m f)(B:m∉ns)(z:∀ (qZ:Value) (A:Around) (outer:List Env) (s:Shared) (H:Hp) (xs:XK) (d:D) (S:List D) (Y:D->Prop),Room k (A.deeper (envOfC g (zd st) s.z f qZ))->S.length+1=ps.length->T d S Y ->
   ∃ t,RSs (λ_=>True) 0 (cxOf CX0 P w K mg base N g (zd st) f qZ A outer s H xs).nox (yr st) t/\t (wb N.length (d::S)) {nx:=λ_=>False,rt:=λr _=>Y r}):FMR P w K mg base (k+1) C ns m ps T:=by
 obtain⟨f',W,ok,b',I,e⟩:=(z5b (mg:=λ_=>some (.ref f)) (P:=P) (w:=w) (base:=base) (x:=x) (k:=0) (T:=λ_ _ _=>False) F ds b rfl λ_ _ _ _ _ _ _ _ _ _ _ h=>h.elim).ex;refine⟨⟨f,fd,F.ok ds (λvs H Q xs h=>?_) (λqZ A outer s H vs Q xs hr h=>?_),b,R⟩,B⟩
 .obtain⟨d,S,v,ws,A,Y,rfl,hl,_,_,r,_⟩:=h;rw[zLc,r.length,hl]
 obtain⟨d,S,v,ws,j,Y,rfl,hl,ft,G,r,hT,J⟩:=h;obtain⟨t,L,M⟩:=z qZ A outer s H xs d S Y hr hl hT;have Z:=Yd (N:=N) ft G r;refine⟨Sy K (u0 j H) 0 t,L ⟨u0 j H,zaA⟩,wb N.length (d::S),[],j,d,v,Z,_,M,λρ' q H' o' A' d2 S' h'=>h'.elim,λu e ρ' H' s' y h'=>?_⟩;refine J u e H' (λb x V O=>s' b x (by rw[xr O];exact V)) (RepN.to (Same.refl _) (λa l=>?_) _ _ y) h'
 by_cases hA:a∈j
 .exact .inl hA
 rw[xr hA]at l;exact .inr l
def ST.make{H_ H H2:Hp}{G:St}{U:DE}{o:List (Nat×Addr)}{l:Nat}{A:List Addr}{d:D}{v:V}(R:REnv K H_ H G U o)(hl:l<U.length)(s:Same H H2)(f:Ft K H2 d v A)(B:A.Nodup)(fr:∀ a∈A,H a=none) :
  ST K H_ H2 (G.set l (some v)) (setS U l (dv d)) o l A d v:=by
 have R2:=R.to s;have dis:∀a∈A,a∉o.map Prod.snd:=λa x=>R.ofree (fr a x);refine⟨⟨R2.same,λp j=>?_,λp j=>?_,λp j=>?_,?_,λi q e=>?_,?_⟩,?_,?_,f⟩
 .rcases zas.mp j with j|j
  .exact R.fresh p j
  obtain⟨a,x,rfl⟩:=zah.mp j;exact R.same.free (fr a x)
 .rcases zas.mp j with j|j
  .exact R2.trk p j
  obtain⟨a,x,rfl⟩:=zah.mp j;obtain⟨u,hu,_⟩:=Ft.dom _ _ _ f a x;exact⟨u,hu⟩
 .rcases zas.mp j with j|j
  .exact R2.mtb p j
  obtain⟨a,x,rfl⟩:=zah.mp j;obtain⟨u,hu,J,I⟩:=Ft.dom _ _ _ f a x;refine⟨λE z=>?_,λy w z=>?_⟩
  .rw[hu]at z;cases z;exact J _ rfl
  rw[hu]at z;cases z;exact I _ _ rfl
 .rw[vi,zaO];exact⟨R.nda,B,λa x b r e=>dis b r (e▸x)⟩
 .rw[X5]at e;obtain⟨hi,e⟩:=cw e;obtain⟨w,L,q⟩:=R.slots i q e;refine⟨w,by rw[zaN (Ne.symm hi)];exact L,?_⟩
  rw[vi];have g:Grow (o.map Prod.snd) (o.map Prod.snd++A) H H2:=⟨λb u r n=>⟨s _ _ r,λz=>(zas.mp z).elim n λz=>by rw[fr b z]at r;cases r⟩,λb E r=>s _ _ r,λb y u r=>s _ _ r⟩
  rcases q with⟨k,q⟩|⟨k,c,e1,m,M⟩
  .exact .inl ⟨k,RepN.grow g _ _ q⟩
  exact .inr ⟨k,c,e1,zaH _ m,M.grow (λu h=>s _ _ h) g⟩
 .rw[X5,rf,zaY,zaY];exact R.len
 .rw[xx,zaU hl]
 rw[zaU (by rw[R.len];exact hl)]
section
variable{x:Str}{pos pos':Pos}
def Ar(j:Nat)(te:TD):TQS:=λU Z=>te U λr=>frs2 r/\Z.nx (setS U j (dv r.d))
def Ee(j:Nat)(J:j≠l)(V:X.N.Nodup)(O:ED L X e te)(hi:autoParam (X.N[j]?=some x) zSr)(D:autoParam (Loc X.env.scope x) zSo)(I:autoParam (swapsWith e (some (.Name x pos')) pos.line X.env=pure false) zSr)(M:autoParam (X.fn x=true\/X.env.scope.names.lookup x=some .local) zSo):QS L l X (.Assign [.Name x pos'] e pos) (Ar j te):=λH_=>impS (dw V hi D (O H_) I M) λDz G H h=>by
 obtain⟨U,o,A,d,v,ds,Z,Q,u,k2,k3,k4⟩:=h;refine⟨U,o,ds.R,_,Q,λw r H1 s1 q h1=>?_⟩;obtain⟨B,f,W,fr⟩:=Nu q h1.1;refine u _ _ H1 o A d ((ds.to s1).setR J (Ft.rep _ _ _ (λa k z=>?_) f)) h1.2;rcases zas.mp z with z|z
 .exact ds.R.ofree (fr a k) z
 obtain⟨y,g,_⟩:=Ft.dom _ _ _ ds.ft a z;rw[fr a k]at g;cases g
end
def at_0{α:Type}(a:α)(r:List α):atI (a::r) (0:Int)=some a:=by
 unfold atI ixN;rw[zaK aB,zaK (by rw[zLc];lia)]
 rfl
def Mq(rs us:List D)(h:us≠[]):cutD (rs++us) (some (-(us.length:Int))) none=us/\cutD (rs++us) none (some (-(us.length:Int)))=rs:=by
 have a:=List.length_pos_iff.mpr h;have e:ZZ.sIx (rs++us).length 0 (some (-(us.length:Int)))=rs.length:=by
  unfold ZZ.sIx;simp only[zLa];rw[zaK aD]
  lia
 have e2:ZZ.sIx (rs++us).length (rs++us).length (some (-(us.length:Int)))=rs.length:=by
  unfold ZZ.sIx;simp only[zLa];rw[zaK aD]
  lia
 refine⟨?_,?_⟩
 .unfold cutD;rw[e];rw[List.drop_left];show us.take ((rs++us).length-rs.length)=us;rw[zLa];exact zcJ aD
 unfold cutD;rw[e2];show(rs++us).take (rs.length-0)=rs;rw[Nat.sub_zero,List.take_left]
def Ja(n:Nat):ixN (n+1) (-1:Int)=some n:=by
 unfold ixN;rw[zaI aB,zaK aD]
 congr 1
 lia
def S7:Manifest.owners.lookup (String.ofList ['d','e','s','r','e','v','e','r'].reverse)=some Manifest.sig_reversed:=by kernel_rfl
def di:Slot "reversed" "__next__" "reversed.__next__" :=
 .of (owner:="reversed") (n:="__next__") (by rw[zdV,zcQ];kernel_rfl) aF aF aF
  (by first|exact .inl aF|exact .inr aF) (by rw[zeA];kernel_rfl)
def S8:entryFor table "reversed.__next__" = some Builtin.«reversed.__next__»:=zfV (by kernel_rfl)
def O7(a:Value):argsOk "reversed.__next__" ⟨[a],[]⟩:=by
 unfold argsOk;rw[signature?_of (id:="reversed.__next__") (n:=['_','_','t','x','e','n','_','_']) (o:=['d','e','s','r','e','v','e','r']) (by kernel_rfl) S7];kernel_rfl
def O4:Slot "reversed" "__iter__" "reversed.__iter__" :=
 .of (owner:="reversed") (n:="__iter__") (by rw[zdV,zcQ];kernel_rfl) aF aF aF
  (by first|exact .inl aF|exact .inr aF) (by rw[zeA];kernel_rfl)
def K2(a:Value):argsOk "reversed.__iter__" ⟨[a],[]⟩:=by
 unfold argsOk;rw[signature?_of (id:="reversed.__iter__") (n:=['_','_','r','e','t','i','_','_']) (o:=['d','e','s','r','e','v','e','r']) (by kernel_rfl) S7];kernel_rfl
def O5:entryFor table "reversed.__iter__" = some Builtin.«dict_keyiterator.__iter__» :=
 entryFor_alias (id':="dict_keyiterator.__iter__") (by kernel_rfl) (by first|rfl|decide +kernel|(unfold String.splitOn;simp +decide [String.splitOnAux])) aF (by kernel_rfl)
def K1:typeLookup (.type "tuple") "__reversed__" = pure none:=by rw[zdV,zcQ];kernel_rfl
def O3:isSubtype (.type "tuple") (.type "dict")=pure false:=by rw[zeA];kernel_rfl
def Ea:Slot "reversed" "__init__" "object.__init__" :=
 .of (owner:="object") (n:="__init__") (by rw[zdV,zcQ];kernel_rfl) aF aF aF
  (by first|exact .inl aF|exact .inr aF) (by rw[zeA];kernel_rfl)
def O6:TypeCalled "reversed" "reversed.__new__" "object.__init__":=⟨by decide +kernel,F.create_reversed,⟨_,_,F.mro_reversed⟩,F.made_reversed,F.plain_reversed_new,F.sub_reversed_self,Ea⟩
noncomputable def Ai(l:Addr)(i:Int):Obj:={cls:=.type "reversed",data:=.fields #[.ref l,rawInt i]}
def RtIt(h:Heap)(a l:Addr)(i:Int):Prop:=∃o,h.get? a=some o/\o.cls=.type "reversed"/\o.data=.fields #[.ref l,rawInt i]
def RtIt.typeIs{s:Shared}{a l:Addr}{i:Int}(x:RtIt s.heap a l i):s.TypeIs (.ref a) "reversed":=by obtain⟨o,ho,hc,_⟩:=x;exact ⟨o,ho,hc⟩
def RtIt.at{h h':Heap}{a l:Addr}{i:Int}(x:RtIt h a l i)(e:∀ o,h.get? a=some o->h'.get? a=some o):RtIt h' a l i:=by obtain⟨o,ho,r⟩:=x;exact ⟨o,e _ ho,r⟩
def Ag(l:Addr)(items:Array Value)(d:(items.size:Int)<2 ^ 63) :
  Meets (Builtin.«reversed.__new__» ⟨[.type "reversed",.ref l],[]⟩) (λ_ R s=>IsTup s.heap l items/\R (.ok (.ret (.ref s.z))) {s with heap:=s.heap.push (Ai l ((items.size:Int)-1)),toks:=s.toks+1+1}) :=
 .of_wp λprog w A R s h=>by
  obtain⟨e,h⟩:=h;unfold Builtin.«reversed.__new__»;refine zaa (zdX (newClass_reversed _) ?_)
  try dsimp only
  refine zaa (zdX (a:=()) (by first|rfl|kernel_rfl) ?_)
  refine zaa (zdX (a:=()) (by first|rfl|kernel_rfl) ?_)
  try dsimp only
  refine zaa (zfD e.typeIs K1 ?_)
  try dsimp only
  refine zaa ?_;show wpAny _ _ (isInstance (.ref l) (.type "dict") >>= _) _ _ s;refine zaa (zdY e.typeIs O3 ?_);rw[zaI zaT];refine zaa (zfD e.typeIs F.slot_tuple_getitem.lookup ?_);show wpAny _ _ (if (["tuple.__getitem__","str.__getitem__","bytes.__getitem__","bytearray.__getitem__","memoryview.__getitem__","numpy.ndarray.__getitem__","sqlite3.Row.__getitem__"].contains "tuple.__getitem__")=true then _ else _) _ _ s
  rw[zaK aB]
  refine zab ?_;rw[zaI aB]
  refine zaa (len_tuple e d ?_);refine zaa (zdX (a:=some ((items.size:Int))) rfl ?_);refine zaa ?_;show wpAny _ _ (newObj (Value.type "reversed") (.fields #[Value.ref l,rawInt ((items.size:Int)-1)])) _ _ _;exact zbK (zab ⟨_,rfl,h⟩) (by size_fits)
def E9{it l:Addr}{i:Nat}{items:Array Value}{x:Value}{Q:Option Value->Shared->Prop}(k:(items.size:Int)<2 ^ 63)(d:RtIt s.heap it l (i:Int))(hl:IsTup s.heap l items)(g:items[i]?=some x)(q:∀ h',RtIt h' it l ((i:Int)-1)->Heap.SameBut it s.heap h'->Q (some x) {s with heap:=h',toks:=s.toks+1}):wpAny (model prog w) A (pyNext (.ref it)) Q xs s:=by
 obtain⟨o,ho,r,e⟩:=id d;have hi:i<items.size:=(Array.getElem?_eq_some_iff.mp g).1;unfold pyNext;refine zaa (zdP (zbA (name:=Str.ofString "__next__") d.typeIs di
  (zbF di d.typeIs S8 ?_ (O7 _))))
 unfold Builtin.«reversed.__next__»;refine zaa (zdX (a:=(Value.ref it,[])) rfl ?_)
 try dsimp only
 refine zaa (zbE ho e (x:=.ref l) rfl ?_);refine zaa (zbE ho e (x:=rawInt (i:Int)) rfl ?_);show wpAny _ _ (if (i:Int)<0 then _ else _) _ _ s
 rw[zaI aD]
 refine zaa (zfD hl.typeIs F.slot_tuple_getitem.lookup ?_);show wpAny _ _ (if (Option.isNone (some (Value.builtin "tuple.__getitem__")))=true then _ else _) _ _ s
 rw[zaI aB]
 refine zaa (wpAny_mkInt ?_);refine zaa (zdP (PyProof.Rows.getItem_tuple (s:={s with toks:=s.toks+1}) hl aD aD (j:=i) ?_ g ?_))
 .exact seqIndex_of aD aD
 refine zaa (zbE (s:={s with toks:=s.toks+1}) ho e (x:=rawInt (i:Int)) rfl ?_);show wpAny _ _ (setField (.ref it) 1 (rawInt ((i:Int)-1)) >>= _) _ _ _;refine zaa (zdR (s:={s with toks:=s.toks+1}) ho e aE ?_)
 first
 |refine zab ⟨x,rfl,zab (q _ ?_ (zbH ..))⟩
 |refine zaa (zab (zab ⟨x,rfl,zab (q _ ?_ (zbH ..))⟩))
 exact⟨_,zcO _ ho (zdO (zbY e _)),(zfI ..).trans r,by
  rw[zbY e];simp⟩
def Ah{it l:Addr}{Q:Option Value->Shared->Prop}(g:A.handled=none)(d:RtIt s.heap it l (-1))(j:∀ h',Heap.ExtBut it s.heap h'->Q none {s with heap:=h'}):wpAny (model prog w) A (pyNext (.ref it)) Q xs s:=by
 obtain⟨o,ho,k,e⟩:=id d;unfold pyNext;refine zaa (zdP (zbA (name:=Str.ofString "__next__") d.typeIs di
  (zbF di d.typeIs S8 ?_ (O7 _))))
 unfold Builtin.«reversed.__next__»;refine zaa (zdX (a:=(Value.ref it,[])) rfl ?_)
 try dsimp only
 refine zaa (zbE ho e (x:=.ref l) rfl ?_);refine zaa (zbE ho e (x:=rawInt (-1)) rfl ?_);show wpAny _ _ (if (-1:Int)<0 then _ else _) _ _ s
 rw[zaK aB]
 refine zaa (zfJ ?_);refine zaa ?_;show wpAny _ _ (setField (.ref it) 1 (rawInt (-1)) >>= _) _ _ _;refine zaa (zdR ho e aE ?_)
 have g1:=zcO (h:=s.heap) (Obj.mapFields (·.setIfInBounds 1 (rawInt (-1)))) ho (zdO (zbY e _));have d1:(Obj.mapFields (·.setIfInBounds 1 (rawInt (-1))) o).data=_:=zbY e _;refine zdR g1 d1 aE ?_
 refine zaa ?_;show wpAny _ _ (newExc (.type "StopIteration") [] >>= _) _ _ _;refine zaa ?_;simp only[newExc,newTuple];refine zaa (zbK ?_ (by size_fits))
 refine zaa (m:=firstArgMember _ _) (zdX (a:=Value.none) (by first|rfl|(simp only[firstArgMember];rfl)) ?_)
 refine zbK ?_ (by size_fits)
 simp only[raiseNew];refine zaa (wpAny_handled ?_)
 first|rw[show A.in1.handled=none from g]|rw[g]
 refine zaa (zab (wpAny_throw ?_));refine zaa (zdY (T:="StopIteration") (b:=true) ⟨_,zad _ rfl,rfl⟩ isSubtype_stop ?_);refine zab (j _ ?_);exact((((zbH ..).trans (zbH ..)).extBut).push _).push _
def O2{it l:Addr}{i:Int}{Q:Value->Shared->Prop}(a:RtIt s.heap it l i)(h:Q (.ref it) s):wpAny (model prog w) A (pyIter (.ref it)) Q xs s:=by
 refine wpAny_pyIter_slot a.typeIs O4 (zbF O4 a.typeIs O5 ?_ (K2 _));show wpAny _ _ (ret (.ref it)) _ _ s;exact zab ⟨_,rfl,"reversed",_,a.typeIs,di.lookup,h⟩
noncomputable def Itbt(K:W.Frag)(a:Addr)(n:Nat):It:=⟨λi H=>(∃E,SqT K H a E/\E.length=n)/\i<n,λi H x H'=>H'=H/\∀E,SqT K H a E->E[n-1-i]?=some x,λi H=>(∃E,SqT K H a E/\E.length=n)/\i=n⟩
def Pf{P:Program}{w:World}{K:W.Frag}{tg:Expr}(a it:Addr)(n:Nat):Turn P w K tg (Itbt K a n) [it] it (λi h=>RtIt h it a ((n:Int)-1-(i:Int))) where
 mem:=by simp
 obj:=λi h st b j=>by
  have e:b=it:=by simpa using j
  subst e;obtain⟨o,e,c,d⟩:=st;exact⟨o,e,λv z=>by rw[d]at z;cases z⟩
 keep:=λi h h' st k=>st.at λo e=>k it aE o e
 item:=by
  intro X B q D hc i pn s G H xs I l st y;subst B q D;obtain⟨⟨E,r,hl⟩,hi⟩:=y;obtain⟨its,V,p,hz⟩:=I.tuple r;obtain⟨x,Z⟩:∃x,E[n-1-i]?=some x:=⟨E[n-1-i]' aD,by simp⟩
  obtain⟨u,hu,ru⟩:=V.get Z;obtain⟨O,N,f2,M,L,J⟩:=l it aE
  have R:(n:Int)-1-(i:Int)=((n-1-i:Nat):Int):=by lia
  rw[R]at st;have a4:=ku;have a0:=V.length;refine E9 (by rw[zap];lia) st p (x:=u) (by simpa using hu) λh' g sb=>?_
  have I1:Inv X pn G H {s with heap:=h',toks:=s.toks+1}:=I.turned (t':=s.toks+1) (λb o j e=>(sb.2 b j).trans e) O N M L J;obtain⟨o,e,c,d⟩:=id g;have Q:((n-1-i:Nat):Int)-1=(n:Int)-1-((i+1:Nat):Int):=by lia
  rw[Q]at g;exact⟨u,rfl,Qp (s:={s with heap:=h',toks:=s.toks+1}) e c d aB ⟨x,H,I1,ru,⟨rfl,λys hy=>by rw[I.tuple_inj hy r];exact Z⟩,g,λb j=>(l b j).1⟩⟩
 done:=by
  intro X B q D hc i pn s G H xs I l st y;subst B q D;obtain⟨⟨E,r,hl⟩,hi⟩:=y;obtain⟨O,N,f2,M,L,J⟩:=l it aE
  have R:(n:Int)-1-(i:Int) = -1:=by lia
  rw[R]at st;exact Ah (I.ok.hd hc) st λh' eb=>⟨rfl,I.turned (t':=s.toks) (λb o j e=>eb b o j e) O N M L J⟩
 self:=λ_ _ _ _ _ st h=>O2 st h
def z4y(K:W.Frag)(ta:TA):TI:=λG H R=>ta G H λvs H1=>∃l E,vs=[.ref l]/\SqT K H1 l E/\R (Itbt K l E.length) H1
def Ey{X:Cx}{tg a:Expr}{ta:TA}{p pos:Pos}(x:Gl X "reversed")(v:X.mg "reversed" = none)(B:PA X [a] ta)(y:autoParam (starEach [a] X.env=(false,eval a X.env)::starEach [] X.env) zSr):PI X tg (.Call (.Name "reversed" p) [a] [] pos) (z4y X.K ta):=by
 intro pn s G H R I h;refine zbR (sw I x v qv ?_ aB aB)
 refine zbB (thn (B pos pn s G H _ I h) λus s1 Zh=>?_) y (by rfl)
 obtain⟨vs,H1,d,r,l,E,e,e1,q⟩:=Zh;subst e;obtain⟨u,rfl,k⟩:=sj r;cases k;obtain⟨its,j,pl,J⟩:=d.tuple e1;have hl:=j.length;have D:=ku;refine callType_new O6 aB (F.typeCall_reversed_1 _) (F.newCall_reversed_1 _) (λg=>F.args_object_init_2 g _) F.entry_reversed_new (Ag l its.toArray (by rw[zap];lia)) ⟨pl,?_⟩
 have st:RtIt (s1.heap.push (Ai l ((its.toArray.size:Int)-1))) s1.z l ((E.length:Int)-1-((0:Nat):Int)):=by
  refine⟨_,zad _ rfl,rfl,?_⟩;show Data.fields #[.ref l,rawInt ((its.toArray.size:Int)-1)]=_;rw[show((its.toArray.size:Int)-1)=(E.length:Int)-1-((0:Nat):Int) by rw[zap];lia]
 refine⟨⟨_,zad _ rfl,rfl⟩,?_⟩;refine O2 st ?_;refine⟨s1.z,[s1.z],_,_,H1,rfl,d.kept (t':=s1.toks+1+1) λb o e=>zac _ e,Pf l _ E.length,st,λb z=>?_,q⟩;have e:b=s1.z:=by simpa using z
 subst e;exact d.fpOk (zaj _) (d.hok.fresh (zaj _))
def iBT(t:TDs):TID:=λU Y=>t U λrs=>match rs with
 | [r]=>(nw r)/\(match r.d with
  |.tup l=>Y l.reverse
  | _=>False)
 |_=>False
def Dt{K:W.Frag}{l:Addr}{S:List D}:ItD K (Itbt K l S.length) S.reverse (λH O=>Rep K H O (.tup S) (.ref l)) where
 go:=λH O i d j e=>by
  obtain⟨a,E,k,q,r⟩:=j;cases k;have hi:i<S.length:=by have:=(zag.mp e).1;simpa using this
  rw[List.getElem?_reverse hi]at e;obtain⟨v,z,u⟩:=r.get e;refine⟨⟨⟨E,q.1,r.length⟩,hi⟩,λx H' y=>?_⟩;obtain⟨e1,y⟩:=y;subst e1;have:=y E q.1;rw[z]at this;cases this;exact⟨Same.refl _,u⟩
 stop:=λH O j=>by
  obtain⟨a,E,k,q,r⟩:=j;cases k;exact⟨⟨E,q.1,r.length⟩,by rw[zaJ]⟩
 keep:=λO O' H H' j g=>RepN.grow g _ _ j
def V3{tg a:Expr}{t:TDs}{p pos:Pos}(x:X.mg "reversed" = none)(B:EA L X [a] t)(y:autoParam (Gl X "reversed") zSr)(z:autoParam (starEach [a] X.env=(false,eval a X.env)::starEach [] X.env) zSr):EI L X tg (.Call (.Name "reversed" p) [a] [] pos) (iBT t):=λH_=>impI (Ey y x (B H_) z) λG H R q=>by
 obtain⟨U,o,D,Y,g,k⟩:=q;refine⟨U,o,D,_,g,λvs rs H1 s1 e h1=>?_⟩;split at h1
 .rename_i r;obtain⟨v,h1⟩:=h1;obtain⟨I,w1,rfl,u,rfl⟩:=e;have j:=u.solid (vq v);obtain⟨J,d⟩:=r;cases d with
  |tup l =>
   obtain⟨a,E,rfl,q,r⟩:=id j;refine⟨a,E,rfl,q.1,?_⟩;rw[r.length];exact k _ _ _ H1 s1 Dt j h1
  |_=>exact h1.elim
 exact h1.elim
section
variable{ns ps:List Str}{m:Str}{T:FT}{t:TDs}{k:Nat}{es:List Expr}{pos:Pos}
structure FMD(P:Program)(w:World)(K:W.Frag)(mg:Str->Option Value)(base:Heap)(k:Nat)(C:Addr)(ns:List Str)(m:Str)(ps:List Str)(T:FT):Prop where
 ex:∃f fd,FnOk P w K mg base CX0 k f fd ps (spD K ps.length T)/\uj K fd ps []/\Meth K C m f
 no:m∉ns
def z2w(n:Nat)(C:Addr)(ns:List Str)(T:FT)(te:TD)(t:TDs):TD:=λU Y=>te U λr=>(∃S,r.d=.ob C ns S)/\t U λrs=>Nat.beq (rs.length+1) n=true/\T (r.d::rs.map EV.d) Y
def Mf{pl:Sem Bool}(O:CO X.K C ns)(F:FMD X.prog X.w X.K X.mg X.base k C ns m ps T)(hr:Room k X.A)(ho:ED L X o te)(W:EA L X (e::es) t)(x:autoParam (S_ X e es) zSr)(y:autoParam (B_ X es pos) zSr)(N:autoParam (eval (.Call (.Attribute o m apos) (e::es) [] pos) X.env=(do
   let B <- eval o X.env
   standAt apos.atName
   let (f,first) <- holding [B] (getMethod B m pl)
   callWith pos f first (backTo pos (starEach (e::es) X.env)) (backToKw pos (keywordEach [] X.env)))) zSr) :
  ED L X (.Call (.Attribute o m apos) (e::es) [] pos) (z2w ps.length C ns T te t):=λH_=>by
 obtain⟨f,fd,ok,b,V⟩:=F.ex;refine impE (Om (ho H_) O.cl V ok hr b .nil U2 (W H_) x y N) λG H Q q=>?_;obtain⟨U,o,R,Y,l,k⟩:=q;refine⟨U,o,R,_,l,λv r H1 s1 J h1=>?_⟩;obtain⟨⟨S,ed⟩,h1⟩:=h1;have z:=J.view;obtain⟨kd,d⟩:=r;cases ed;have D:Rep X.K H1 [] (.ob C ns S) v:=z.rep0;obtain⟨a,dx,E,rfl,q,_,ln,nd,rr⟩:=z;refine⟨a,dx,_,rfl,q,kq F.no,U,o,R.to s1,_,h1,λvs rs H2 s2 g h2=>?_⟩;show spD X.K ps.length T (.ref a::(vs++[])) H2 Q E0;rw[zbT];refine⟨.ob C ns S::rs.map EV.d,Y,by rw[zLc,zLm];exact zeG h2.1,⟨_,_,rfl,RepN.grow (Grow.same s2) _ _ D,g.reps0⟩,h2.2,λu M H3 I j pr Z=>?_⟩
 exact k u M H3 ((s1.trans s2).trans I) (RV.start (j.lift pr λa e=>R.ofree ((s1.trans s2).free e)) (s1.trans s2)) Z
def z2j{P:Program}{w:World}{K:W.Frag}{mg:Str->Option Value}{base:Heap}{x a m:Str}{st:Stmt}{f:Addr}{fd:FuncData}{N ps:List Str}{k:Nat}{T:FT}{C:Addr}{ns:List Str}(F:Fun K x a st f fd)(ds:zn N ps (zd st))(b:uj K fd ps [])(g:Meth K C m f)(e:m∉ns)(d:∀ (qZ:Value) (A:Around) (outer:List Env) (s:Shared) (H:Hp) (xs:XK) (S:List D) (Y:EV->Prop),Room k (A.deeper (envOfC a (zd st) s.z f qZ))->S.length=ps.length->T S Y ->
   ∃ t,SDs (λ_=>True) (cxOf CX0 P w K mg base N a (zd st) f qZ A outer s H xs).nox (yr st) t/\t (wb N.length S) {nx:=λ_=>Y (dv .non),rt:=λr=>su r/\Y r}):FMD P w K mg base (k+1) C ns m ps T :=
 ⟨⟨f,fd,Nz F ds d,b,g⟩,e⟩
end
structure FunV(K:W.Frag)(x qual:Str)(st:Stmt)(f:Addr)(v:Value)(fd:FuncData):Prop where
 ex:∃(T:Addr)(oT:Obj)(n:Nat)(oc:Value)(od:Option Addr)(kV doc pm:Value)(an:Option Addr)(qZ ct:Value)(osl:Array (Option Value)),
  fd=W.fnOf x qual (vc st) (yr st) (zd st) (.ref T) kV doc pm an qZ ct/\K.lookup f=some ⟨oc,od,.func fd,osl⟩/\W.codeIn K qZ qual=true/\K.lookup T=some oT/\oT.data=.seq #[v] n
 kp:W.keepIn K (.ref f)=true
def FunV.ok{x a:Str}{st:Stmt}{f:Addr}{v:Value}{fd:FuncData}{N ps:List Str}{k:Nat}{sp:Sp}(F:FunV K x a st f v fd)(ds:zn N ps (zd st))(len:∀ vs H Q xs,sp vs H Q xs->vs.length=ps.length)(g:∀ (qZ:Value) (A:Around) (outer:List Env) (s:Shared) (H:Hp) (vs:List V) (Q:VK) (xs:XK),Room k (A.deeper (envOfC a (zd st) s.z f qZ))->sp vs H Q xs ->
   ∃ t,PSs (cxOf CX0 P w K mg base N a (zd st) f qZ A outer s H xs).nox (yr st) t/\t {nx:=λ_ H'=>Q .non H',rt:=Q} (start N vs) H):FnOk P w K mg base CX0 (k+1) f fd ps sp:=by
 obtain⟨T,B,n,z,y,kV,r,u,G,qZ,D,j,rfl,l,e,_⟩:=F.ex;refine z2h l e ds len λA outer s H vs Q xs hr d=>?_;obtain⟨t,h,q⟩:=g qZ A outer s H vs Q xs hr d;exact⟨t,h.nox,q⟩
def FunV.binds{x a:Str}{st:Stmt}{f:Addr}{v:Value}{fd:FuncData}{ps:List Str}{S:List Value}(F:FunV K x a st f v fd)(h:∀ (T:Addr) (kV d e:Value) (j:Option Addr) (qZ g:Value) (us:List Value),(us++S).length=ps.length->∃ k:Option (Array Value)->Sem (List (Str×Value)),bindArgs (W.fnOf x a (vc st) (yr st) (zd st) (.ref T) kV d e j qZ g) ⟨us,[]⟩=seqItems? (.ref T) >>= k/\k (some #[v])=pure (ps.zip (us++S))):uj K fd ps S:=by
 obtain⟨T,q,n,D,B,kV,d,e,j,qZ,g,l,rfl,G,u,r,y⟩:=F.ex;intro s us z hl;obtain⟨k,h1,h2⟩:=h T kV d e j qZ g us hl;exact .of_defaults (T:=T) (o:=q) (items:=#[v]) (n:=n) rfl (z _ _ r) y h1 h2
def z2f{g m:Str}{st s0 s1 s2 s3 s4:Stmt}{f C:Addr}{fd:FuncData}{N ps:List Str}{k nI nM l:Nat}{T:FT}{TI:FTQ}{TM:FTR}{ns:List Str}{as1:List Expr}(b5:∀ {sp:Sp},(∀ vs H Q xs,sp vs H Q xs->vs.length=ps.length)->(∀ (qZ:Value) (A:Around) (outer:List Env) (s:Shared) (H:Hp) (vs:List V) (Q:VK) (xs:XK),Room k (A.deeper (envOfC g (zd st) s.z f qZ))->sp vs H Q xs ->
   ∃ t,PSs (cxOf CX0 P w K mg base N g (zd st) f qZ A outer s H xs).nox (yr st) t/\t {nx:=λ_ H'=>Q .non H',rt:=Q} (ZZ.start N vs) H)->FnOk P w K mg base CX0 (k+1) f fd ps sp)(no:m∉ns)(hb:yr st=[s0,s1,s2,s3,s4])(lM:nM=1)(qY:∀ (qZ:Value) (A:Around) (outer:List Env) (s:Shared) (H:Hp) (xs:XK) (S:List D) (Y:EV->Prop),Room k (A.deeper (envOfC g (zd st) s.z f qZ))->S.length=ps.length->T S Y ->
   ∃ t0 ta t2 t3,SD (λ_=>True) (cxOf CX0 P w K mg base N g (zd st) f qZ A outer s H xs).nox s0 t0/\EA (λ_=>True) (cxOf CX0 P w K mg base N g (zd st) f qZ A outer s H xs).nox as1 ta /\
    (∀ {t:TA},PA (cxOf CX0 P w K mg base N g (zd st) f qZ A outer s H xs).nox as1 t->PS (cxOf CX0 P w K mg base N g (zd st) f qZ A outer s H xs).nox s1 (tAsg (Y9 C (spQ K nI TI) [] E0 t) (se l))) /\
    QS (λ_=>True) l (cxOf CX0 P w K mg base N g (zd st) f qZ A outer s H xs).nox s2 t2/\QS (λ_=>True) l (cxOf CX0 P w K mg base N g (zd st) f qZ A outer s H xs).nox s3 t3 /\
    PS (cxOf CX0 P w K mg base N g (zd st) f qZ A outer s H xs).nox s4 (tRet (Lo C m (spR K nM TM) [] E0 (tVar l) tNil)) /\
    t0 (wb N.length S) {nx:=λU=>l<U.length/\ta U λrs=>(∀ r∈rs,r.k≠.own)/\rs.length+1=nI/\TI (.ob C [] []) (rs.map EV.d) λr0 d=>r0=.non/\t2 (setS U l (dv d)) {nx:=λa4=>t3 a4 {nx:=λa0=>∃ S,slot a0 l=some (dv (.ob C ns S))/\TM (.ob C ns S) [] λe=>Y ⟨.new,e⟩,rt:=λ_ _=>False},rt:=λ_ _=>False},rt:=λ_=>False}):FnOk P w K mg base CX0 (k+1) f fd ps (spD K ps.length T):=by
 refine b5 (λvs H Q xs h=>?_) (λqZ A outer s H vs Q xs hr h=>?_)
 .obtain⟨S,Y,hl,r,_⟩:=h;rw[r.length,hl]
 obtain⟨S,Y,hl,r,hT,kk⟩:=h;obtain⟨t0,ta,t2,t3,h0,R,h1,h2,h3,h4,hq⟩:=qY qZ A outer s H xs S Y hr hl hT;rw[hb];refine⟨_,vj (h0 ⟨H,zaA⟩) (vj (h1 (R ⟨H,zaA⟩)) (vj (h2 ⟨H,zaA⟩) (vj (h3 ⟨H,zaA⟩) (qy h4)))),?_⟩;have R0:=qf (N:=N) (S:=S) (vs:=vs) (H:=H) r;refine⟨_,[],R0,_,hq,λU e6 H1 o1 g1 R1 hn=>?_,λ_ _ _ _ _ _ q=>q.elim,λ_ _ _ _ _ _ q=>q.elim,λ_ _ _ _ _ q=>q.elim⟩;obtain⟨c3,hn⟩:=hn;refine⟨U,o1,R1,_,hn,λus rs H2 y a7 J=>?_⟩;obtain⟨M,O,J⟩:=J;intro v dx x c6 c0;have L:Same H2 (upd (upd H2 dx (.own v)) v (.ins C dx [])):=(ye c6 _).trans (ye (by rw[y0 (Ne.symm c0)];exact x) _)
 show spQ K nI TI (.ref v::(us++[])) _ _ E0;rw[zbT];have rr:=a7.reps M;have gx:Grow (o1.map Prod.snd) [v] H2 (upd (upd H2 dx (.own v)) v (.ins C dx [])):=⟨λc u j _=>⟨L _ _ j,λz=>by rw[zaC.mp z,x]at j;cases j⟩,λc E j=>L _ _ j,λc ob u j=>L _ _ j⟩
 refine⟨.ob C [] [],rs.map EV.d,.ref v,us,[v],_,rfl,by rw[zLm];exact O,⟨v,dx,[],[],rfl,zu,rfl,zcX,rfl,rfl,rfl⟩,by simp,zp.grow gx _ _ rr,J,λu r0 d H3 A3 g3 c7 b0 c8 e9 a8 I=>?_⟩
 obtain⟨rfl,I⟩:=I;have a6:Same H1 H3:=λc u j=>(g3.keep c u (L _ _ (y _ _ j)) λz=>by rw[zaC.mp z]at j;rw[y _ _ j]at x;cases x).1
 have W:∀a∈A3,H1 a=none:=λa R=>by
  rcases c8 a R with z|z
  .rw[zaC.mp z];exact y.free x
  exact y.free (L.free z)
 refine⟨a8,?_⟩;have S3:=ST.make (l:=l) R1 c3 a6 c7 b0 W;refine⟨_,o1,A3,d,.ref v,S3,_,I,λZ e4 H4 o4 A4 d4 S4 c2=>⟨Z,o4,A4,d4,.ref v,S4,_,c2,λe7 e3 H5 o5 A5 d5 B G=>?_,λ_ _ _ _ _ _ _ q=>q.elim,λ_ _ _ _ _ _ _ q=>q.elim,λ_ _ _ _ _ _ _ _ _ _ _ q=>q.elim⟩,λ_ _ _ _ _ _ _ q=>q.elim,λ_ _ _ _ _ _ _ q=>q.elim,λ_ _ _ _ _ _ _ _ _ _ _ q=>q.elim⟩;obtain⟨es,d3,G⟩:=G;have e5:some (dv d5)=some (dv (.ob C ns es)):=by rw[<- d3];exact(wq B.hd).symm
 cases e5
 obtain⟨a5,e0,e8,B5,d0,q5,f1,f0,f2,r5⟩:=id B.ft;refine⟨.ref v,B.hv,a5,e0,_,d0,q5,kq no,?_⟩;show spR K nM TM (.ref v::([]++[])) H5 Q E0;refine⟨_,[],.ref v,[],A5,_,rfl,by rw[lM];rfl,B.ft,B.ndA,rfl,G,λu5 e H6 k6 a9 c1=>?_⟩
 refine kk u5 ⟨.new,e⟩ H6 (λc u j=>k6 c u (B.Q.same _ _ j) λz=>by have z2:H c=none:=B.frA c z;rw[z2]at j;cases j) (RepN.to (Same.refl _) (λa R=>⟨by simp,?_⟩) _ _ a9) trivial c1
 exact R.elim (B.frA a) λz=>B.Q.same.free z
section
variable{pos:Pos}
def O0(i:Nat)(te:TD):TDS:=λU Z=>match slot U i with
 |some ⟨.own,.lst S⟩=>te U λr=>∃gs,r=df (.lst gs)/\gs.length<=1000/\S.length<=100000/\Z.nx (setS U i (dO (.lst (S++gs))))
 |_=>False
def Yj(i:Nat){x:Str}{np apos cpos:Pos}(he:ED L X e te)(hi:autoParam (X.N[i]?=some x) zSr)(V:autoParam (Vis X.env.scope x) zSo)(hd:autoParam (D_ x) zSd)(u:autoParam ((x==("__classdict__" : Str))=false) zSd)(W:∀ {ta tb:TE},PE X (.Name x np) ta->PE X e tb->PS X (.Expr (.Call (.Attribute (.Name x np) "extend" apos) [e] [] cpos) pos)
    (Vu (tBM X.K "list" Ym ta (Q2 tb tNil))):=by
   intro ta tb h1 h2;exact sv (Q9 zcH zeW zeX ca h1 (wg h2 uc))) :
  SD L X (.Expr (.Call (.Attribute (.Name x np) "extend" apos) [e] [] cpos) pos) (O0 i te):=λH_=>impS (W (uq hi V hd u) (he H_)) λD G H h=>by
 obtain⟨U,o,R,Z,j,O,k2,k3,k4⟩:=h;unfold O0 at j;split at j
 .rename_i S g;obtain⟨v0,d,M⟩:=R.slots i _ (xu g);rcases M with⟨k,_⟩|⟨_,a,rfl,m,c⟩
  .cases k
  obtain⟨E,I,B⟩:=c;refine⟨.ref a,d,.inl ⟨rfl,E,SqL.of I⟩,?_⟩;refine⟨U,o,R,_,j,λv r H1 s1 J h1=>?_⟩;obtain⟨gs,rfl,q,hl,hn⟩:=h1;obtain⟨p,rfl,mp,np,ys,Q,y⟩:=J;have R1:=R.to s1;have l:=zp.grow (Grow.same s1) _ _ B;refine⟨a,p,E,ys,rfl,rfl,s1 _ _ I,Q,?_,?_⟩
  .rw[B.length,y.length];exact zak (Nat.add_le_add hl q) aB
  obtain⟨R2,g2⟩:=R1.chg (d':=.lst (S++gs)) (ho:=.lst (E++ys)) (xu g) d m ⟨λ_ z=>(by cases z),λ_ _ z=>(by cases z)⟩ λgr=>⟨E++ys,zu,gr _ _ (l.append (zp.sub (λb hb=>zal _ hb) _ _ y))⟩
  exact O _ G _ o ((Grow.same s1).trans g2) R2 hn
 exact j.elim
end
section
open PySem PySem.Spec PySem.W
structure STab(t:SetTable)(E:Array Nat)(b:Bool):Prop where
 pc:t.place=E
 dm:t.dummies=#[]
 ms:t.mask=7
 ld:t.led=!b
 pl:t.plain=true
theorem STab.fits{t:SetTable}{E:Array Nat}{b:Bool}(T:STab t E b)(a:E.size<=1):t.fits E.size=true:=by
 unfold SetTable.fits SetTable.fill;rw[T.pc,T.dm,T.ms];simp;lia
def z1l{t:SetTable}{b:Bool}{h:Int}(T:STab t #[] b)(x:Value):(layNew t #[] h x).1=#[(h,x)]/\(∃j,STab (layNew t #[] h x).2.1 #[j] b)/\(layNew t #[] h x).2.2.1=false:=by
 have e:SetTable.runEnd 7 (SetTable.bits h % 8)=SetTable.bits h % 8:=zaI aD
 have k:∀j,t.slot j=.empty:=λj=>by
  unfold SetTable.slot;rw[T.pc,T.dm];rfl
 obtain⟨f,l⟩:∃f,10*SetTable.turns t.mask=f+1:=⟨_,by rw[T.ms];rfl⟩
 have a:t.freeSlot h=some (SetTable.bits h % 8,false):=by
  unfold SetTable.freeSlot SetTable.probe;rw[l];unfold SetTable.probe.go SetTable.probeStart;rw[T.ms];simp[e,k]
 have d:SetTable.below t.place (SetTable.bits h % 8)=0:=by rw[T.pc];rfl
 unfold layNew;rw[a]
 dsimp only
 rw[show(t.put (SetTable.bits h % 8)).2=0 from d];have g:STab (t.put (SetTable.bits h % 8)).1 #[SetTable.bits h % 8] b:=⟨by
  show SetTable.insertAt t.place (SetTable.below t.place _) _=_;rw[d,T.pc];rfl,by
  show(if SetTable.has t.dummies _ then _ else t.dummies)=#[]
  rw[T.dm];rfl,T.ms,T.ld,T.pl⟩
 refine⟨rfl,⟨SetTable.bits h % 8,?_⟩,rfl⟩;show STab ((t.put _).1.orStandIn (SetTable.insertAt (#[]:Array (Int×Value)) 0 (h,x)).size) _ _;unfold SetTable.orStandIn;rw[zaK (show(t.put (SetTable.bits h % 8)).1.fits (SetTable.insertAt (#[]:Array (Int×Value)) 0 (h,x)).size=true from g.fits (zaj _))];exact g
def SetI(P:Program)(w:World)(h:Heap)(a:Addr)(k:Int):Prop :=
 ∃o x ep t j,h.get? a=some o/\o.ExactSet/\o.data=.set #[x] ep t/\ElemsOf (intKind P w) [x]/\(intKind P w).is k x.2=true/\STab t #[j] (w.params.followText "set-order")
def SetI.to{P:Program}{w:World}{h g:Heap}{a:Addr}{k:Int}(x:SetI P w h a k)(f:∀ o,h.get? a=some o->g.get? a=some o):SetI P w g a k:=by obtain⟨o,es,ep,t,j,e,r⟩:=x;exact ⟨o,es,ep,t,j,f o e,r⟩
def SetN(w:World)(h:Heap)(a:Addr):Prop:=∃o t,h.get? a=some o/\o.ExactSet/\o.data=.set #[] 0 t/\STab t #[] (w.params.followText "set-order")
def z3e{k:Int}{x:Value}{Q:Bool->Shared->Prop}(z:(intKind P w).is k x=true)(y:x.scannable=true)(O:plainKind x=true)(ds:SetN w s.heap a)(q:∀ r h',Heap.SameBut a s.heap h'->SetI P w h' a k->Q r {s with heap:=h'}):wpAny (model P w) A (setAddHashed a x ((intKind P w).hash k)) Q xs s:=by
 obtain⟨o,t,ho,D,u,T⟩:=ds;have d:ElemsOf (intKind P w) (#[]:Array (Int×Value)).toList:=λe l=>by simp at l
 have J:t.fits (#[]:Array (Int×Value)).size=true:=T.fits (zbW _);unfold setAddHashed setAddHashedIn;refine zaZ (zaa (wpAny_setState_of ho u J ?_))
 dsimp only
 rw[byScan_of y aB d]
 simp only[↓reduceIte];unfold setAddByScan;refine zaa ?_;refine zaa (zfJ ?_);refine zaa (wpAny_setScan_of z ho u J d ?_);rw[show List.findIdx? (λe:Int×Value=>(intKind P w).is k e.2) (#[]:Array (Int×Value)).toList=none from rfl]
 dsimp only
 obtain⟨l,⟨j,g⟩,v⟩:=z1l (h:=(intKind P w).hash k) T x;generalize hL:layNew t #[] ((intKind P w).hash k) x=L at l g v ⊢;obtain⟨V,t1,M,gv⟩:=L
 dsimp only at l g v ⊢
 subst v l;have B:∀(b:Bool){s₁:Shared}{G:Unit->Shared->Prop},G () s₁->wpAny (model P w) A (match b with|true=>rule "set.scan.the-table-gave-way"|false=>pure ()) G xs s₁ :=
  λb s₁ G I=>by cases b <;> first|exact zab I|exact zfJ I
 refine zaa (B _ ?_);rw[g.pl];simp only[↓reduceIte];refine zaa ?_;rw[hashByValue_scannable 8 y,O];refine zab ?_;simp only[↓reduceIte];refine zaa (wpAny_storeSet_of ho u ?_ (by rw[zbC];show 1<=16777216;decide))
 have N:t1.tooFull=false:=by
  unfold SetTable.tooFull SetTable.fill;rw[g.pc,g.dm,g.ms];simp
 rw[N];simp only[Bool.not_false,Bool.and_false,zbZ,zeP];refine zab (zab (q _ _ (zbH s.heap a _) ?_));have R:(s.heap.update a (Obj.putSet #[((intKind P w).hash k,x)] t1)).get? a=some {o with data:=.set #[((intKind P w).hash k,x)] (0+1) t1}:=by
  have:=zcO (Obj.putSet #[((intKind P w).hash k,x)] t1) ho (by rw[putSet_of _ t1 u];rfl)
  rw[putSet_of _ t1 u]at this;exact this
 exact⟨_,_,0+1,t1,j,R,D,rfl,d.push z y,z,g⟩
section
variable{R:Result->Shared->Prop}{it:Addr}{fp wr:List Addr}{G:Array GenState->Array GenState->Prop}{Pv:Nat->Value->Prop}{St:Nat->Shared->Prop}
def Kv(W:WalksS P w A.in1 it fp wr G 1 Pv St)(d:Addr){k:Int}(a:d∉wr)(st:St 1 s)(q:SetI P w s.heap d k)(l:∀ z,Moved (d::wr) G s z->SetI P w z.heap d k->R (.ok (.ret .none)) z):codeAny (model P w) A (.builtin "set.update.loop" ⟨[.ref d,.ref it],[]⟩) R s:=by
 refine zdJ F.entry_set_update_loop ?_;rw[zcT zfE _];show wpAny _ A.in1 (pyNext (.ref it) >>= _) _ _ s;refine zaa (W.done s _ _ st λz g=>?_);show wpAny _ A.in1 (ret Value.none) _ _ z;exact zab (l z (g.mono λb j=>zal _ j) (q.to λo e=>g.heap d _ a e))
def Dn(W:WalksS P w A.in1 it fp wr G 1 Pv St)(d:Addr)(B:d∉fp){k:Int}(J:∀ v,Pv 0 v->∃ t,v=.int k t)(st:St 0 s)(q:SetN w s.heap d)(L:∀ z,Moved (d::wr) G s z->SetI P w z.heap d k->R (.ok (.ret .none)) z) :
   codeAny (model P w) A (.builtin "set.update.loop" ⟨[.ref d,.ref it],[]⟩) R s:=by
 have a:d∉wr:=λh=>B (W.sub _ h);refine zdJ F.entry_set_update_loop ?_;rw[zcT zfE _];show wpAny _ A.in1 (pyNext (.ref it) >>= _) _ _ s;refine zaa (W.item 0 s _ _ (zbP 0) st λv z M j x=>?_);obtain⟨t,rfl⟩:=J v M;show wpAny _ A.in1 (holding [Value.int k t] (setAdd d (.int k t)) >>= _) _ _ z;refine zaa (zaZ ?_);unfold setAdd;refine zaZ (zaa ((intKind P w).pyHash (k:=k) (intKind_is _ _ _ _) ?_));refine z3e (s:={z with toks:=z.toks+1}) (intKind_is _ _ _ _) rfl rfl (let ⟨o,t,e,r⟩:=q;⟨o,t,x.heap d _ a e,r⟩) λ_ h1 u I=>?_
 refine zab ⟨zfC zfE _,Kv W d a (W.frame _ z _ _ j (Nat.le_succ _) λb g o e=>?_) I λy l D=>?_⟩
 .rw[u.2 b λh=>B (by rw[<- h];exact g)];exact e
 refine L y (Moved.trans W.gtrans ((x.mono λb g=>zal _ g).then_heap (Nat.le_succ _) λb o g e=>?_) l) D;rw[u.2 b λh=>g (by rw[h];exact zao)];exact e
end
noncomputable def set0(w:World):Obj:={cls:=.type "set",dict:=none,data:=.set #[] 0 (.fresh 0 0 (!w.params.followText "set-order"))}
def z0z(a:Value){Q:Value->Shared->Prop}(h:Q (.ref s.z) {s with heap:=s.heap.push (set0 w)}) :
  codeAny (model P w) A (.call (.builtin "set.__new__") ⟨[.type "set",a],[]⟩) (wants Q xs) s:=by
 refine codeAny_of_tree ?_;show wpAny _ A.in1 (do checkBuiltinCall "set.__new__" ⟨[.type "set",a],[]⟩;again (.builtin "set.__new__" ⟨[.type "set",a],[]⟩)) _ _ s
 refine zaa (zdX (F.newCall_set_1 a) (zab ⟨zfC F.plain_set_new _,zdJ F.entry_set_new ?_⟩));rw[zcT F.plain_set_new _];unfold Builtin.«set.__new__» Builtin.Frozenset.newClass;have e:=sub_set_self;obtain⟨k,g,d,tk,j⟩:=s
 dsimp only
 wp_walk;refine zeQ (zab ?_)
 dsimp only
 simp only[newObj];refine zaa (wpAny_alloc (zab ?_));exact zab h
def A8{l:Addr}{its:Array Value}{k:Int}{Q:Value->Shared->Prop}(hh:A.handled=none)(hl:s.heap.IsList l its)(hv:∀ v,its[0]?=some v->∃ t,v=.int k t)(hn:its.size=1)(h:∀ (g:Heap) (tk:Nat),SetI P w g s.z k->(∀ b o,s.heap.get? b=some o->g.get? b=some o)->Q (.ref s.z) {s with heap:=g,toks:=tk}) :
  wpAny (model P w) A (call (.type "set") [.ref l]) Q xs s:=by
 obtain⟨c,tl,a4⟩:=F.called_set.mro;have O:=F.called_set.made;have a0:=F.called_set.sub;refine wpAny_call (codeAny_of_tree ?_);show wpAny _ _ (callAny (.type "set") _) _ _ _;refine zab ⟨Code.quiet_builtin _ aF,zdJ F.entry_type_call ?_⟩
 rw[Around.under_plain (weight_type_call_type "set" [.ref l] []) rfl];have n1:=F.called_set.notType;have n2:=F.called_set.canCreate;have n3:=F.typeCall_set_1 (.ref l)
 repeat (any_goals (first|assumption|wp_step))
 refine zfO (z0z (.ref l) (xs:=xs) (Q:=λu z=>u=.ref s.z/\z={s with heap:=s.heap.push (set0 w)}) ⟨rfl,rfl⟩) λr z hr=>?_;cases r with
 |error e=>exact hr
 |ok fl =>
  cases fl with
  |ret u =>
   obtain⟨rfl,rfl⟩:=hr;have there:(s.heap.push (set0 w)).get? s.z=some (set0 w):=zad _ rfl;have ty:Shared.TypeIs {s with heap:=s.heap.push (set0 w)} (.ref s.z) "set":=⟨_,there,rfl⟩;have i1:=F.called_set.init.lookup;have i2:=F.called_set.init.bind (.ref s.z)
   repeat (any_goals (first|assumption|wp_step))
   refine zfO (codeAny_call_builtin (R:=wants (λr z=>r=.none/\∃g tk,z={s with heap:=g,toks:=tk}/\SetI P w g s.z k/\(∀b o,s.heap.get? b=some o->g.get? b=some o)) xs) F.called_set.init.plain F.entry_set_init (check_set_init_1 ty ?_)) λr2 z2 j=>?_
   .obtain⟨ol,y,G,Z,D⟩:=hl;obtain⟨W,d,M,a⟩:=ol;simp only at G D;subst G D;have x:(s.heap.push (set0 w)).get? l=some {cls:=.type "list",dict:=d,data:=.seq its Z,slots:=a}:=zac _ y;have b1:=F.sub_list_set;have b2:=F.sub_list_frozenset;have b3:(Value.type "list"==Value.type "dict")=false:=by decide
    have B:(s.heap.push (set0 w)).IsList l its:=⟨_,x,rfl,Z,rfl⟩;unfold Builtin.«set.__init__» noKeywords Builtin.Frozenset.updateFrom;generalize hPI:pyIter=PI;wp_walk;subst hPI;refine zcP B ?_;refine zaa (wpAny_runValue ?_);have ll:l<s.z:=zae y;have V:A.in1.in1.in1.handled=none:=by simp[hh]
    have N:l≠(s.heap.push (set0 w)).objs.size:=by
     rw[zcR];exact zaL (zfH ll)
    have dn:s.z∉[(s.heap.push (set0 w)).objs.size,l]:=by
     rw[zcR];simp only[zam,zaC,zaS,zdK,not_or];exact⟨zaL (zbP _),zcA ll⟩
    refine Dn (hn▸(Walks.list V _ l N its).toS) s.z dn (λv hx=>hv v hx) ⟨⟨_,zad _ rfl,rfl,rfl⟩,(B.push _)⟩ ⟨_,_,zac _ there,⟨rfl,rfl,rfl⟩,rfl,rfl,rfl,rfl,rfl,rfl⟩ ?last
    case last =>
     intro z I q;obtain⟨g,g',d',J,L⟩:=z;have eg:g'=s.gens:=I.gens;have ed:d'=s.drawn:=I.drawn;have eo:L=s.os:=I.os;subst eg ed eo;show wpAny _ _ _ _ _ _;refine zab ?_;show wpAny _ _ (ret Value.none) _ _ _;refine zab ⟨rfl,g,J,rfl,q,λb o e=>?_⟩;have lb:=zae e;have c1:b≠s.z:=zaL lb;have c2:b≠(s.heap.push (set0 w)).objs.size:=by
      rw[zcR];exact zaL (zfH lb)
     exact I.heap b o (by simp only[zam,zaC,zaS,zdK,not_or];exact⟨c1,c2⟩) (zac _ (zac _ e))
   cases r2 with
   |error e=>exact j
   |ok f2 =>
    cases f2 with
    |ret r =>
     obtain⟨rfl,g,tk,rfl,q,kp⟩:=j
     repeat (any_goals (first|assumption|wp_step))
     exact h _ _ q kp
    |_=>exact j.elim
  |_=>exact hr.elim
noncomputable def slS(w:World)(t:SetTable):Nat->Nat
 |0=>0
 |i+1=>if w.params.followText "set-order" = true then 0 else t.place.getD i 0+1
def SetR(w:World)(h:Heap)(a:Addr)(x:Int×Value)(ep:Nat)(t:SetTable):Prop:=∃o j,h.get? a=some o/\o.ExactSet/\o.data=.set #[x] ep t/\STab t #[j] (w.params.followText "set-order")
def SetJ(h:Heap)(J a:Addr)(d i ep:Nat):Prop:=∃o,h.get? J=some o/\o.cls=.type "set_iterator"/\o.data=.fields #[.int d 0,.int i 0,.ref a,.int 1 0,.int ep 0]
def wu:Slot "set_iterator" "__next__" "set_iterator.__next__" :=
 .of (owner:="set_iterator") (n:="__next__") (by rw[zdV,zcQ];kernel_rfl) aF aF aF
  (by first|exact .inl aF|exact .inr aF) (by rw[zeA];kernel_rfl)
def gj:Slot "set_iterator" "__iter__" "set_iterator.__iter__" :=
 .of (owner:="set_iterator") (n:="__iter__") (by rw[zdV,zcQ];kernel_rfl) aF aF aF
  (by first|exact .inl aF|exact .inr aF) (by rw[zeA];kernel_rfl)
def jh:entryFor table "set_iterator.__next__" = some Builtin.«set_iterator.__next__»:=zfV (by kernel_rfl)
def Xf:entryFor table "set_iterator.__iter__" = some Builtin.«dict_keyiterator.__iter__»:=entryFor_alias (id':="dict_keyiterator.__iter__") (by kernel_rfl) rfl aF (by kernel_rfl)
def gz(a:Value):argsOk "set_iterator.__next__" ⟨[a],[]⟩:=by unfold argsOk;kernel_rfl
def Z9:entryFor table "set.__iter__" = some Builtin.«frozenset.__iter__»:=entryFor_alias (id':="frozenset.__iter__") (by kernel_rfl) rfl aF (by kernel_rfl)
variable{J:Addr}{x:Int×Value}{ep i:Nat}{t:SetTable}
def SetR.ty(y:SetR w s.heap a x ep t):s.TypeIs (.ref a) "set":=by obtain⟨o,_,g,c,_⟩:=y;exact ⟨o,g,c.1⟩
def SetR.to{h k:Heap}(y:SetR w h a x ep t)(f:∀ o,h.get? a=some o->k.get? a=some o):SetR w k a x ep t:=by obtain⟨o,j,g,r⟩:=y;exact ⟨o,j,f o g,r⟩
def SetJ.ty{d i:Nat}(y:SetJ s.heap J a d i ep):s.TypeIs (.ref J) "set_iterator":=by obtain⟨o,g,c,_⟩:=y;exact ⟨o,g,c⟩
def t9{Q:(Array (Int×Value)×Nat×SetTable)->Shared->Prop}(y:SetR w s.heap a x ep t)(h:Q (#[x],ep,t) s):wpAny (model P w) A (setState a) Q xs s:=by
 obtain⟨o,j,g,c,d,T⟩:=y;exact wpAny_setState_of g d (T.fits (zaj _)) h
def Oz{Q:Option (Value×Nat)->Shared->Prop}(y:SetR w s.heap a x ep t)(hi:i<=1)(h:Q ((#[x][i]?).map λe=>(e.2,slS w t (i+1))) s):wpAny (model P w) A (setNext a (slS w t i) i ep) Q xs s:=by
 obtain⟨o,j,g,c,d,T⟩:=id y;unfold setNext setsByText;refine zaa (t9 y ?_)
 dsimp only
 refine zaa (zaa (zeQ (zab ?_)))
 dsimp only
 cases hw:w.params.followText "set-order" with
 |true =>
  have l:slS w t i=0:=by cases i with|zero=>rfl|succ i=>exact zaK hw
  have e1:slS w t (i+1)=0:=zaK hw;simp only[show(model P w).w=w from rfl,hw,if_true,bne_self_eq_false,zbZ,zeP];refine zaa ?_;unfold setWalk setsByText;refine zaa (t9 y ?_)
  dsimp only
  refine zaa (zaa (zeQ (zab ?_)))
  dsimp only
  simp only[show(model P w).w=w from rfl,hw,if_true];refine zaa (zeQ (zab (zab ?_)));rw[e1]at h;rw[l,show ∀f,pickOrder f #[x]=#[x] from λf=>by simp[pickOrder,pickOrder.go,Nat.mod_one]]
  exact h
 |false =>
  simp only[show(model P w).w=w from rfl,hw,zbZ,zeP];have q:(!t.plain&&decide ((#[x]:Array (Int×Value)).size > 1))=false:=by rw[T.pl];rfl
  have k:(!t.led&&!(#[x]:Array (Int×Value)).isEmpty)=false:=by rw[T.ld,hw];rfl
  refine zfZ (λz=>absurd (show(!t.plain&&decide ((#[x]:Array (Int×Value)).size > 1))=true from z) (by rw[q];decide)) λ_=>?_
  refine zaa (m:=if (!t.led&&!(#[x]:Array (Int×Value)).isEmpty)=true then _ else _) ?_
  rw[k];simp only[zbZ,zeP];refine zab ?_;have s1:slS w t 1=j+1:=(zaI (by rw[hw];decide)).trans (by rw[T.pc];rfl)
  match i,hi with
  |0,_ =>
   rw[T.pc,show SetTable.below #[j] (slS w t 0)=0 by simp[SetTable.below,SetTable.below.go,slS]]
   rw[s1]at h;exact zab h
  |1,_ =>
   rw[s1,T.pc,show SetTable.below #[j] (j+1)=1 by simp[SetTable.below,SetTable.below.go]]
   exact zab h
def Lq{Q:Value->Shared->Prop}(y:SetR w s.heap a x ep t)(q:Q (.ref s.z) {s with heap:=s.heap.push {cls:=.type "set_iterator",data:=.fields #[.int 0 0,.int 0 0,.ref a,.int 1 0,.int ep 0]}}) :
  wpAny (model P w) A (pyIter (.ref a)) Q xs s:=by
 have ty:=y.ty;obtain⟨o,j,g,c,d,T⟩:=id y;refine wpAny_pyIter_slot ty F.slot_set_iter (zbF F.slot_set_iter ty Z9 (?body) (F.args_set_iter_1 _));unfold Builtin.«frozenset.__iter__»;refine zaa (zab ?_);show wpAny _ _ (Builtin.Frozenset.sizeOf a >>= _) _ _ s;unfold Builtin.Frozenset.sizeOf setEntries;refine zaa (zaa (zaa (t9 y (zab (zab ?_)))));unfold setDrawn setsByText;refine zaa (zaa (t9 y ?_))
 dsimp only
 refine zaa (zaa (zeQ (zab (zab ?_))));have e:(!w.params.followText "set-order"&&(!t.plain&&decide ((#[x]:Array (Int×Value)).size > 1)))=false:=by rw[T.pl];simp
 refine zfZ (λz=>absurd (show(!w.params.followText "set-order"&&(!t.plain&&decide ((#[x]:Array (Int×Value)).size > 1)))=true from z) (by rw[e];decide)) λ_=>?_
 refine zaa (zab ?_);unfold setEpoch;refine zaa (zaa (t9 y (zab ?_)));refine zaa (zbK (zab ⟨_,rfl,"set_iterator",_,⟨_,zad _ rfl,rfl⟩,wu.lookup,(?_:_)⟩));simpa [rawInt] using q
def Ds{Q:Option Value->Shared->Prop}(y:SetJ s.heap J a (slS w t 0) 0 ep)(z:SetR w s.heap a x ep t)(q:∀ h',SetJ h' J a (slS w t 1) 1 ep->Heap.SameBut J s.heap h'->Q (some x.2) {s with heap:=h'}):wpAny (model P w) A (pyNext (.ref J)) Q xs s:=by
 obtain⟨o,g,c,d⟩:=id y;unfold pyNext;apply zaa;refine zdP (zbA (name:=Str.ofString "__next__") y.ty wu (zbF wu y.ty jh (?_:_) (gz _)));unfold Builtin.«set_iterator.__next__»;refine zaa (zab ?_);refine zaa (wpAny_fieldsOf g d ?_)
 dsimp only
 unfold setEntries;refine zaa (zaa (t9 z (zab ?_)));rw[zaI (show ¬ _ by simp)]
 refine zaa (m:=setNext a _ _ _) ?_;simp only[zcF];refine Oz (i:=0) z (zbW _) ?_
 dsimp only [Option.map]
 refine zaa (zdR g d aE ?_)
 have g2:=zcO (Obj.mapFields (·.setIfInBounds 0 (rawInt (slS w t 1)))) g (zdO (zbY d _));have d2:(Obj.mapFields (·.setIfInBounds 0 (rawInt (slS w t 1))) o).data=.fields #[.int (slS w t 1) 0,.int 0 0,.ref a,.int 1 0,.int ep 0]:=by rw[zbY d];simp[rawInt]
 refine zaa (zdR g2 d2 aE ?_)
 refine zab ⟨_,rfl,zab (q _ ⟨_,zcO _ g2 (zdO (zbY d2 _)),?_,?_⟩ ((zbH ..).trans (zbH ..)))⟩
 .rw[zfI,zfI];exact c
 rw[zbY d2];simp[rawInt]
def z2q{Q:Option Value->Shared->Prop}(e:A.handled=none)(y:SetJ s.heap J a (slS w t 1) 1 ep)(z:SetR w s.heap a x ep t)(q:∀ h',Heap.ExtBut J s.heap h'->Q none {s with heap:=h'}):wpAny (model P w) A (pyNext (.ref J)) Q xs s:=by
 obtain⟨o,g,c,d⟩:=id y;unfold pyNext;apply zaa;refine zdP (zbA (name:=Str.ofString "__next__") y.ty wu (zbF wu y.ty jh (?_:_) (gz _)));unfold Builtin.«set_iterator.__next__»;refine zaa (zab ?_);refine zaa (wpAny_fieldsOf g d ?_)
 dsimp only
 unfold setEntries;refine zaa (zaa (t9 z (zab ?_)));rw[zaI (show ¬ _ by simp)]
 refine zaa (m:=setNext a _ _ _) ?_;simp only[zcF];refine Oz (i:=1) z (zaj _) ?_
 dsimp only [Option.map]
 refine zaa (zdR g d aE ?_)
 show wpAny _ _ (newExc (.type "StopIteration") [] >>= _) _ _ _;apply zaa;simp only[newExc,newTuple];apply zaa;refine zbK ?_ (by size_fits)
 apply zaa (m:=firstArgMember _ _);refine zdX (a:=Value.none) (by first|rfl|(simp only[firstArgMember];rfl)) ?_
 refine zbK ?_ (by size_fits)
 simp only[raiseNew];apply zaa;apply wpAny_handled;rw[show A.in1.handled=none from e];refine zaa (zab (wpAny_throw (?_:_)));apply zaa;refine zdY (T:="StopIteration") (b:=true) ⟨_,zad _ rfl,rfl⟩ isSubtype_stop ?_;exact zab (q _ (((zbH ..).extBut.push _).push _))
def C2{Q:Bool->Shared->Prop}(hT:s.TypeIs (.ref a) "set")(h:Q false s):wpAny (model P w) A (Builtin.List.listLengthHint (.ref a)) Q xs s:=by
 unfold Builtin.List.listLengthHint;refine zaa (zfD hT PySem.F.slot_set_len.lookup ?_);generalize hid:("set.__len__" : String)=e
 wp_delta
 rw[show splitId e=some ("set","__len__") from by subst hid;decide +kernel]
 subst hid;refine zaa (zdY (T:="set") (b:=true) hT (by rw[zeA];kernel_rfl) ?_)
 refine zfZ (λd=>absurd d aB) (λ_=>?_)
 refine zfZ (λ_=>?_) (λd=>absurd aF d)
 refine zaa (zfP hT ?_);exact zab h
def Lf(k:A.handled=none)(ne:a≠J):Walks P w A J [J,a] [J] 1 (λ_ v=>v=x.2) (λi h=>SetJ h J a (slS w t i) i ep/\SetR w h a x ep t) where
 sub:=λb m=>by simp at m;simp[m]
 frame:=λ_ _ _ st f=>⟨let ⟨o,g,r⟩:=st.1;⟨o,f J aE o g,r⟩,st.2.to λo e=>f a aE o e⟩
 item:=λi s Q xs hi st f=>by
  cases Nat.lt_one_iff.mp hi
  refine Ds st.1 st.2 λh' j d=>?_;exact f _ h' s.toks rfl ⟨j,st.2.to λo e=>d.extBut a o ne e⟩ λb o m e=>d.extBut b o (λz=>m (by simp[z])) e
 done:=λs Q xs st f=>z2q k st.1 st.2 λh' l=>f h' s.toks λb o m e=>l b o (λz=>m (by simp[z])) e
 self:=λ_ s _ _ st f=>wpAny_pyIter_slot st.1.ty gj (zbF gj st.1.ty Xf (zab ⟨_,rfl,"set_iterator",_,st.1.ty,wu.lookup,f⟩) (by unfold argsOk;kernel_rfl))
def Bz:KdlSrc P w "set" a a 1 (λ_ v=>v=x.2) (λh=>SetR w h a x ep t) where
 type:=λ_ x=>x.ty
 there:=λ_ x=>by obtain⟨_,_,g,_⟩:=x;exact ⟨zae g,zae g⟩
 keep:=λ_ _ x f=>x.to λo e=>f a (.inl rfl) o e
 notList:=by decide
 notTuple:=by decide
 hint:=λ_ _ _ _ x f=>C2 x.ty f
 iter:=λ_ _ d x=>⟨_,_,(λ_ _ f=>Lq x f),Lf d (let ⟨_,_,g,_⟩:=x;zaL (zae g)),⟨⟨_,zad _ rfl,rfl,rfl⟩,x.to λo e=>zac _ e⟩⟩
noncomputable def Lu(P:Program)(w:World)(a:Addr)(k:Int):HO:=.ext λh=>SetI P w h a k
def jp(B:X.calm=true):ui X (.type "set") (λE H Q=>∃p k,E=[.ref p]/\SqL X.K H p [V.int k]/\∀l,H l=none->Q (.ref l) (upd H l (Lu X.prog X.w l k))):=by
 intro pn s G H E us Q I r h;obtain⟨p,k,rfl,y,q⟩:=h;obtain⟨u,rfl,d⟩:=sj r;cases d;obtain⟨its,j,pl,D⟩:=I.list y;have hi:=Qo (ns:=[k]) j;have hl:its.toArray.size=1:=by rw[zap];exact hi.length
 refine A8 (k:=k) (I.ok.hd B) pl.isList (λv e=>hi.int_at 0 v (by simpa using e)) hl λg tk a x=>?_
 refine⟨.ref s.z,_,I.laid (t':=tk) x (zaj _) ?_,rfl,q _ I.fresh⟩;exact⟨a,by obtain⟨o,_,_,_,_,e,_⟩:=a;exact⟨o,e⟩,λh1 h2 z k=>z.to k⟩
def Xo:ui X (.builtin "len") (λE H Q=>∃p k,E=[.ref p]/\H p=some (Lu X.prog X.w p k)/\Q (.int 1) H):=by
 intro pn s G H E us Q I r h;obtain⟨p,k,rfl,e,q⟩:=h;obtain⟨u,rfl,d⟩:=sj r;cases d;obtain⟨⟨o,x,ep,t,j,ho,a,l,g,v,T⟩,_⟩:=I.hok p _ e;exact call_len_set ho a l (T.fits (zaj _)) (show(1:Int)<2 ^ 63 by decide) ⟨.int 1,H,I.tok _,⟨_,rfl⟩,q⟩
def f9(hc:X.calm=true):ui X (.builtin "sorted") (λE H Q=>∃p k,E=[.ref p]/\H p=some (Lu X.prog X.w p k)/\∀l,H l=none->Q (.ref l) (upd H l (.lst [V.int k]))):=by
 intro pn s G H E us Q I r h;obtain⟨p,k,rfl,Z,q⟩:=h;obtain⟨u,rfl,N⟩:=sj r;cases N;obtain⟨⟨o,x,ep,t,j,ho,B,hd,a0,hm,T⟩,_⟩:=I.hok p _ Z;refine Calls.call_function_entry kind_sorted plain_sorted entry_sorted (args_sorted1 _) (?_:_);unfold Builtin.«sorted»;apply zaa (m:=checkCount "sorted" 1 1 _);apply zab;apply zaa;refine kdu_collect (Bz (P:=X.prog) (w:=X.w) (a:=p) (x:=x) (ep:=ep) (t:=t)) (I.ok.hd hc) ⟨o,j,ho,B,hd,T⟩ (by rw[zbC];decide) λh1 tk d R v=>?_
 have D:d.toList=[x.2]:=by
  have W:d.toList.length=1:=by simpa using v.1
  obtain⟨y,e⟩:=List.length_eq_one_iff.mp W
  have:=v.2 0 y (by rw[<- zeF,e];rfl)
  rw[e,this]
 obtain⟨M,et⟩:=Value.isInt_shape hm;have hi:IntsAre d.toList [k]:=by rw[D,et];exact .cons k M .nil
 apply zaa;refine wpAny_newList ?_ (by rw[D,zbC];show 1<=16777216;decide)
 have L:Inv X pn G H {s with heap:=h1,toks:=tk}:=I.kept R;apply zaa;have g:(h1.push (seqObj "list" d.toList.toArray 0)).get? h1.objs.size=some (seqObj "list" d.toList.toArray 0):=zad _ rfl;refine zaZ (zbF slot_list_sort ⟨_,g,rfl⟩ entry_list_sort (?_:_) (args_list_sort _));refine list_sort_tree (s:={s with heap:=h1.push (seqObj "list" d.toList.toArray 0),toks:=tk}) g hi (by rw[D];show 1<64;decide) λout ms ho O _=>?_
 cases List.perm_singleton.mp O
 obtain⟨e',ge⟩:=sortedHeap_at (out:=out) g;have z:=size_push' h1 (seqObj "list" d.toList.toArray 0);refine⟨_,rfl,zab ⟨_,rfl,.ref h1.objs.size,_,L.laid (t':=tk) (o:=.lst [V.int k]) (λb u e=>?_) (zaj _) ?_,rfl,q _ (L.hok.fresh (zaj _))⟩⟩
 .have J:=zae e;rw[sortedHeap_old (zaL J) (by rw[z];exact zfH J)]
  exact zac _ e
 exact⟨by rw[zbC];show 1<=16777216;decide,out.toList,e',d8 ho,by simpa using ge⟩
end
section
variable{p p2 pos pos2:Pos}
def z2v(g:Int->EV)(te:TD):TD:=λU Y=>te U λr=>match r.d with
 |.lst S=>∃c:Int,S=[.int c]/\Y (g c)
 |_=>False
def Qz(I:X.mg "len" = none)(u:X.mg "set" = none)(M:ED L X e te)(N:autoParam (X.calm=true) zSr)(J:autoParam (Gl X "len") zSr)(x:autoParam (Gl X "set") zSr)(h1:autoParam (starEach [e] X.env=(false,eval e X.env)::starEach [] X.env) zSr)(h2:autoParam (starEach [.Call (.Name "set" p2) [e] [] pos2] X.env=(false,eval (.Call (.Name "set" p2) [e] [] pos2) X.env)::starEach [] X.env) zSr)(k:autoParam ((backTo pos2 (starEach [] X.env)).any (·.1)=false) zSr)(j:autoParam ((backTo pos (starEach [] X.env)).any (·.1)=false) zSr) :
  ED L X (.Call (.Name "len" p) [.Call (.Name "set" p2) [e] [] pos2] [] pos) (z2v (λ_=>dv (.int 1)) te):=λH_ =>
 impE (fj Xo J I zfM (wg (c5 (jp N) x u Vh (wg (M H_) uc h1) aB aB h1 k) uc h2) aB aB h2 j) λG H Q q=>by
  obtain⟨U,B,R,Y,g,D⟩:=q;refine⟨U,B,R,_,g,λv r H1 s1 y h1=>?_⟩;obtain⟨O,d⟩:=r;cases d with
  |lst S =>
   obtain⟨c,rfl,h1⟩:=h1;obtain⟨a,E,rfl,q,z⟩:=y.view;have ex:=kh (ns:=[c]) z;subst ex;exact⟨a,c,rfl,SqL.of q,λl hl=>⟨l,c,rfl,zu,D _ (dv (.int 1)) _ (s1.trans (ye hl _)) aH h1⟩⟩
  |_=>exact h1.elim
def Vg:bootBuiltins "sorted" = some (.builtin "sorted"):=by kernel_rfl
def Qy(O:X.mg "sorted" = none)(y:X.mg "set" = none)(W:ED L X e te)(B:autoParam (X.calm=true) zSr)(V:autoParam (Gl X "sorted") zSr)(z:autoParam (Gl X "set") zSr)(h1:autoParam (starEach [e] X.env=(false,eval e X.env)::starEach [] X.env) zSr)(h2:autoParam (starEach [.Call (.Name "set" p2) [e] [] pos2] X.env=(false,eval (.Call (.Name "set" p2) [e] [] pos2) X.env)::starEach [] X.env) zSr)(x:autoParam ((backTo pos2 (starEach [] X.env)).any (·.1)=false) zSr)(k:autoParam ((backTo pos (starEach [] X.env)).any (·.1)=false) zSr) :
  ED L X (.Call (.Name "sorted" p) [.Call (.Name "set" p2) [e] [] pos2] [] pos) (z2v (λc=>df (.lst [.int c])) te):=λH_ =>
 impE (fj (f9 B) V O Vg (wg (c5 (jp B) z y Vh (wg (W H_) uc h1) aB aB h1 x) uc h2) aB aB h2 k) λG H Q q=>by
  obtain⟨U,J,R,Y,j,M⟩:=q;refine⟨U,J,R,_,j,λv r H1 s1 D h1=>?_⟩;obtain⟨kd,d⟩:=r;cases d with
  |lst S =>
   obtain⟨c,rfl,h1⟩:=h1;obtain⟨a,E,rfl,q,I⟩:=D.view;have ex:=kh (ns:=[c]) I;subst ex;refine⟨a,c,rfl,SqL.of q,λl hl=>⟨l,c,rfl,zu,λl2 g=>?_⟩⟩;have s2:=s1.trans (ye hl (Lu X.prog X.w l c));have R2:=R.to s2;exact M _ (df (.lst [.int c])) _ (s2.trans (ye g _)) ((sk (λb Z m=>by
    obtain⟨p,N,rfl⟩:=zah.mp m;obtain⟨u,e⟩:=R2.trk p N;rw[Z]at e;cases e) g (zp.ints [c])).start s2) h1
  |_=>exact h1.elim
end
def spO(K:W.Frag)(n:Nat)(T:FT):Sp:=λvs H Q _=>∃S Y,S.length=n/\Reps K H [] S vs/\T S Y/\∀v r H',Same H H'->RV K H H' [] r v->Y r->Q v H'
structure FO(P:Program)(w:World)(K:W.Frag)(mg:Str->Option Value)(base:Heap)(k:Nat)(x:Str)(ps:List Str)(T:FT):Prop where
 ex:∃f fd,FnOk P w K mg base CX0 k f fd ps (spO K ps.length T)/\uj K fd ps []/\W.keepIn K (.ref f)=true/\mg x=some (.ref f)
def Oy:DE->Prop
 |[]=>True
 |none::U=>Oy U
 |some r::U=>(nw r)/\Oy U
theorem Yq:∀{U:DE}{i:Nat}{r:EV},Oy U->U[i]?=some (some r)->r.k≠.own
 |none::U,0,r,h,e=>by simp at e
 |some r'::U,0,r,h,e=>by
  have e:r'=r:=by simpa using e
  subst e;exact vq h.1
 |none::U,i+1,r,h,e=>Yq (U:=U) (i:=i) h (by simpa using e)
 |some r'::U,i+1,r,h,e=>Yq (U:=U) (i:=i) h.2 (by simpa using e)
def Ny{x a:Str}{st:Stmt}{f:Addr}{fd:FuncData}{N ps:List Str}{k:Nat}{T:FT}(F:Fun K x a st f fd)(ds:zn N ps (zd st))(b:uj K fd ps [])(m:mg x=some (.ref f))(g:∀ (qZ:Value) (A:Around) (outer:List Env) (s:Shared) (H:Hp) (xs:XK) (S:List D) (Y:EV->Prop),Room k (A.deeper (envOfC a (zd st) s.z f qZ))->S.length=ps.length->T S Y ->
   ∃ t,SDs (λ_=>True) (cxOf CX0 P w K mg base N a (zd st) f qZ A outer s H xs).nox (yr st) t/\t (wb N.length S) {nx:=λ_=>False,rt:=Y}):FO P w K mg base (k+1) x ps T:=by
 refine⟨f,fd,F.ok ds (λvs H Q xs h=>?_) (λqZ A outer s H vs Q xs hr h=>?_),b,F.kp,m⟩
 .obtain⟨S,Y,hl,r,_⟩:=h;rw[r.length,hl]
 obtain⟨S,Y,hl,r,hT,j⟩:=h;obtain⟨t,l,u⟩:=g qZ A outer s H xs S Y hr hl hT;exact⟨Qi K H t,l ⟨H,zaA⟩,wb N.length S,[],qf r,_,u,λ_ _ _ _ _ _ q=>q.elim,λ_ _ _ _ _ _ q=>q.elim,λ_ _ _ _ _ _ q=>q.elim,λv e H' s' d q=>j v e H' s' d q⟩
noncomputable def Hid(P:Program)(w:World)(a:Addr)(E:List V):HO:=.ext λh=>wk P w (λ_=>none) h a (.lst E)
section
open Classical in
noncomputable def hide(P:Program)(w:World)(O:List Addr)(H:Hp):Hp:=λa=>match H a with
 |some (.lst E)=>if a∈O then some (Hid P w a E) else some (.lst E)
 |u=>u
open Classical in
noncomputable def back(O:List Addr)(H H':Hp):Hp:=λa=>match H a with
 |some (.lst E)=>if a∈O then some (.lst E) else H' a
 |_=>H' a
def R9(h:a∉O):hide P w O H a=H a:=by
 unfold hide;split
 .rename_i e;rw[zaI h,e]
 rfl
def Up{E:List V}(h:a∈O)(e:H a=some (.lst E)):hide P w O H a=some (Hid P w a E):=by
 unfold hide;rw[e];exact zaK h
def vn(h:∀ E,H a≠some (.lst E)):hide P w O H a=H a:=by
 unfold hide;split
 .rename_i e;exact absurd e (h _)
 rfl
def X4:hide P w O H a=H a\/(a∈O/\∃E,H a=some (.lst E)/\hide P w O H a=some (Hid P w a E)):=by
 by_cases h:a∈O
 .cases e:H a with
  |none=>exact .inl ((vn λE=>by rw[e];exact nofun).trans e)
  |some u =>
   by_cases q:∃E,u=.lst E
   .obtain⟨E,rfl⟩:=q;exact .inr ⟨h,E,rfl,Up h e⟩
   exact .inl ((vn λE z=>q ⟨E,zaP (e.symm.trans z)⟩).trans e)
 exact .inl (R9 h)
def Rr(h:a∉O):back O H H' a=H' a:=by
 unfold back;split
 .exact zaI h
 rfl
def T9{E:List V}(h:a∈O)(e:H a=some (.lst E)):back O H H' a=some (.lst E):=by
 unfold back;rw[e];exact zaK h
def Hi(h:∀ E,H a≠some (.lst E)):back O H H' a=H' a:=by
 unfold back;split
 .rename_i e;exact absurd e (h _)
 rfl
def T8(s:∀ b u,hide P w O H b=some u->H' b=some u):back O H H' a=H' a\/(∃E,H a=some (.lst E)/\back O H H' a=some (.lst E)/\H' a=some (Hid P w a E)):=by
 rcases X4 (P:=P) (w:=w) (O:=O) (H:=H) (a:=a) with e|⟨h,E,e,q⟩
 .by_cases h:a∈O
  .by_cases z:∃E,H a=some (.lst E)
   .obtain⟨E,z⟩:=z;exact .inr ⟨E,z,T9 h z,s _ _ (Up h z)⟩
   exact .inl (Hi λE y=>z ⟨E,y⟩)
  exact .inl (Rr h)
 exact .inr ⟨E,e,T9 h e,s _ _ q⟩
theorem Inv.hide(I:Inv X pn G H s):Inv X pn G (hide X.prog X.w O H) s:=by
 have up:∀b,H b=none->ZZ.hide X.prog X.w O H b=none:=λb d=>(vn λE=>by rw[d];exact nofun).trans d
 refine⟨I.ok,I.os,I.bare,⟨I.base.keep,I.base.slot,λb o h n M=>up b (I.base.free b o h n M),I.base.there,λb E z=>?_,λb o u z=>?_,λb ps z=>?_⟩,I.loc,I.cell,up _ I.free,λx c z=>up _ (I.freeC x c z),λp L=>?_,λb u z=>?_,I.len⟩
 .have q:=I.base.tups b E z;exact(vn λE=>by rw[q];exact nofun).trans q
 .have q:=I.base.frzs b o u z;exact(vn λE=>by rw[q];exact nofun).trans q
 .obtain⟨more,q⟩:=I.base.tbls b ps z;exact⟨more,(vn λE=>by rw[q];exact nofun).trans q⟩
 .obtain⟨h1,h2,N⟩:=I.pin p L;exact⟨h1,up _ h2,N⟩
 rcases X4 (P:=X.prog) (w:=X.w) (O:=O) (H:=H) (a:=b) with e|⟨h,E,e,q⟩
 .rw[e]at z;exact(I.hok b u z).stay (λ_ _ _ y=>y) (λc y=>(vn λE=>by rw[y];exact nofun).trans y) λc E y=>(vn λE=>by rw[y];exact nofun).trans y
 rw[q]at z;cases z;obtain⟨j,its,n,r,g⟩:=(show wk X.prog X.w H s.heap b (.lst E) from I.hok b _ e);exact⟨⟨j,its,n,r,g⟩,⟨_,g⟩,λh1 h2 ⟨J,D,B,v,l⟩ k=>⟨J,D,B,v,k _ l⟩⟩
theorem Inv.back(I:Inv X pn G H' s')(k:∀ b u,ZZ.hide X.prog X.w O H b=some u->H' b=some u):Inv X pn G (back O H H') s':=by
 have j:=λb=>T8 (O:=O) (H:=H) (H':=H') (a:=b) k;have up:∀b,H' b=none->ZZ.back O H H' b=none:=λb g=>(j b).elim (λe=>e.trans g) λ⟨E,_,_,q⟩=>by rw[g]at q;cases q
 have d:∀b u,H' b=some u->(∀Y,u≠.ext Y)->ZZ.back O H H' b=some u:=λb u g n=>(j b).elim (λe=>e.trans g) λ⟨E,_,_,q⟩=>by rw[g]at q;exact absurd (zaP q) (n _)
 refine⟨I.ok,I.os,I.bare,⟨I.base.keep,I.base.slot,λb o h n r=>up b (I.base.free b o h n r),I.base.there,λb E z=>d _ _ (I.base.tups b E z) nofun,λb o u z=>d _ _ (I.base.frzs b o u z) nofun,λb ps z=>?_⟩,I.loc,I.cell,up _ I.free,λx c z=>up _ (I.freeC x c z),λp l=>?_,λb u z=>?_,I.len⟩
 .obtain⟨more,q⟩:=I.base.tbls b ps z;exact⟨more,d _ _ q nofun⟩
 .obtain⟨h1,h2,v⟩:=I.pin p l;exact⟨h1,up _ h2,v⟩
 rcases j b with e|⟨E,e,q,q'⟩
 .rw[e]at z;exact(I.hok b u z).stay (λ_ _ _ y=>y) (λc y=>d _ _ y nofun) λc E y=>d _ _ y nofun
 rw[q]at z;cases z;exact(I.hok b _ q').1
end
def plnD:D->Prop
 |.non|.bl _|.int _|.str _=>True
 |.tup S|.lst S=>plnDs S
 |_=>False
where plnDs:List D->Prop
 |[]=>True
 |d::S=>plnD d/\plnDs S
mutual
theorem Se(t:∀ a∈O,∃ u,H a=some u)(j:∀ b u,hide P w O H b=some u->H' b=some u):∀(d:D)(v:V),plnD d->Rep K H' [] d v->Rep K (back O H H') O d v
 |.non,_,_,h=>h
 |.bl _,_,_,h=>h
 |.int _,_,_,h=>h
 |.str _,_,_,h=>h
 |.tup S,v,p,h=>by
  obtain⟨a,E,e,q,r⟩:=h;have:back O H H' a=some (.tup E):=(T8 j).elim (λe=>e.trans q.2) λ⟨ys,_,_,z⟩=>by rw[q.2]at z;cases z
  exact⟨a,E,e,⟨SqT.of this,this⟩,dq t j S E p r⟩
 |.lst S,v,p,h=>by
  obtain⟨a,E,e,q,_,r⟩:=h;have n:a∉O:=λm=>by
   obtain⟨u,hu⟩:=t a m;rcases X4 (P:=P) (w:=w) (O:=O) (H:=H) (a:=a) with z|⟨_,ys,_,z⟩
   .have g:=j a u (z.trans hu);rw[q]at g;cases g;have k:=Up (P:=P) (w:=w) m hu;rw[z,hu]at k;cases k
   have g:=j a _ z;rw[q]at g;cases g
  exact⟨a,E,e,(Rr n).trans q,n,dq t j S E p r⟩
 |.ty _,_,p,_=>p.elim
 |.scr _,_,p,_=>p.elim
 |.fo _,_,p,_=>p.elim
 |.sx _,_,p,_=>p.elim
 |.cn _,_,p,_=>p.elim
 |.dk _ _,_,p,_=>p.elim
 |.ob _ _ _,_,p,_=>p.elim
theorem dq(t:∀ a∈O,∃ u,H a=some u)(g:∀ b u,hide P w O H b=some u->H' b=some u):∀(S:List D)(E:List V),plnD.plnDs S->Reps K H' [] S E->Reps K (back O H H') O S E
 |[],_,_,h=>h
 |d::S,E,p,h=>by
  obtain⟨v,r,e,q,z⟩:=h;exact⟨v,r,e,Se t g d v p.1 q,dq t g S r p.2 z⟩
end
structure FW(P:Program)(w:World)(K:W.Frag)(mg:Str->Option Value)(base:Heap)(k:Nat)(x:Str)(ps:List Str)(c:List Int)(T:FT):Prop where
 ex:∃f fd S,FnOk P w K mg base CX0 k f fd ps (spO K ps.length T)/\uj K fd ps S/\Vals (c.map V.int) S/\W.keepIn K (.ref f)=true/\mg x=some (.ref f)
def FO.fw{P:Program}{w:World}{K:W.Frag}{mg:Str->Option Value}{base:Heap}{k:Nat}{x:Str}{ps:List Str}{T:FT}(F:FO P w K mg base k x ps T):FW P w K mg base k x ps [] T:=by obtain⟨f,fd,o,b,r⟩:=F.ex;exact ⟨f,fd,[],o,b,.nil,r⟩
section
variable{x:Str}{ps:List Str}{T:FT}{k:Nat}{es:List Expr}{t:TDs}{p pos:Pos}{c:List Int}
def F6(n:Nat)(T:FT)(c:List Int)(t:TDs):TD:=λU Y=>t U λrs=>Oy (rs.map some)/\Nat.beq (rs.length+c.length) n=true/\T (rs.map EV.d++c.map D.int) λr=>plnD r.d/\Y (dv r.d)
def Qb:∀{rs:List EV},Oy (rs.map some)->∀r∈rs,r.k≠.own:=λ{rs} h r m=>by
 obtain⟨i,e⟩:=zbJ m;exact Yq (i:=i) h (by rw[zai,e];rfl)
def qk(F:FW X.prog X.w X.K X.mg X.base k x ps c T)(hr:Room k X.A)(ha:EA L X (e::es) t)(hg:autoParam (Gl X x) zSr)(Z:autoParam (D_ x) zSd)(he:autoParam (S_ X e es) zSr)(N:autoParam (B_ X es pos) zSr):ED L X (.Call (.Name x p) (e::es) [] pos) (F6 ps.length T c t):=λH_ pn s G H Q I h=>by
 obtain⟨f,fd,S,ok,b,hd,kp,m⟩:=F.ex;obtain⟨U,o,R,Y,M,kk⟩:=h;refine zbR (Yt I hg m ?_ Z);refine W.callWith_K (h₀:=X.base) I.ok.mod.kin kp (thn (ha H_ pos pn s G H (λvs H1=>Same H H1/\spO X.K ps.length T (vs++c.map V.int) (hide X.prog X.w (o.map Prod.snd) H1) (λv H'=>(∀b u,hide X.prog X.w (o.map Prod.snd) H1 b=some u->H' b=some u)/\Q v (back (o.map Prod.snd) H1 H')) E0) I ⟨U,o,R,_,M,λvs rs H1 s1 y h1=>?_⟩) λus s1 ⟨vs,H1,I1,r,sm,q⟩=>⟨I1.kIn,?_⟩) he N
 .have R1:=R.to s1;have J:=y.reps (Qb h1.1);have g:Grow (o.map Prod.snd) [] H1 (hide X.prog X.w (o.map Prod.snd) H1):=⟨λb u h n=>⟨(R9 n).trans h,by simp⟩,λb E h=>(vn λE=>by rw[h];exact nofun).trans h,λb ob u h=>(vn λE=>by rw[h];exact nofun).trans h⟩
  refine⟨s1,rs.map EV.d++c.map D.int,_,?_,(zp.grow g _ _ J).append (zp.ints c),h1.2.2,λv r H2 s2 B h2=>⟨s2,kk v (dv r.d) _ (λb u hb=>?_) ?_ h2.2⟩⟩
  .rw[zLa,zLm,zLm];exact zeG h1.2.1
  .have j:=s1 b u hb;rcases T8 (O:=o.map Prod.snd) (H:=H1) (H':=H2) (a:=b) s2 with e|⟨E,e,q,_⟩
   .rcases X4 (P:=X.prog) (w:=X.w) (O:=o.map Prod.snd) (H:=H1) (a:=b) with z|⟨hm,E,z,_⟩
    .rw[e];exact s2 b u (z.trans j)
    rw[T9 hm z,<- z];exact j
   rw[q,<- e];exact j
  have J:Rep X.K H2 [] r.d v:=by
   have:=RVs.reps0 (rs:=[r]) (vs:=[v]) ⟨v,[],rfl,B,rfl⟩;obtain⟨v',ws,e,q,_⟩:=this;cases e;exact q
  exact Se (P:=X.prog) (w:=X.w) (λa ha=>by
   obtain⟨p,hp,rfl⟩:=zah.mp ha;exact R1.trk p hp) s2 _ _ h2.1 J
 refine wpAny_mono (S6 ok hr b hd U2 I1.hide r q) (λu s2 ⟨v,H2,I2,B,l,q2⟩=>⟨v,_,I2.back l,B,q2⟩) λ_ _ z=>z
end
def z2g{x a:Str}{st:Stmt}{f:Addr}{v:Value}{fd:FuncData}{N ps:List Str}{k:Nat}{T:FT}(F:FunV K x a st f v fd)(ds:zn N ps (zd st))(g:∀ (qZ:Value) (A:Around) (outer:List Env) (s:Shared) (H:Hp) (xs:XK) (S:List D) (Y:EV->Prop),Room k (A.deeper (envOfC a (zd st) s.z f qZ))->S.length=ps.length->T S Y ->
   ∃ t,SDs (λ_=>True) (cxOf CX0 P w K mg base N a (zd st) f qZ A outer s H xs).nox (yr st) t/\t (wb N.length S) {nx:=λ_=>False,rt:=Y}):FnOk P w K mg base CX0 (k+1) f fd ps (spO K ps.length T):=by
 refine F.ok ds (λvs H Q xs h=>?_) (λqZ A outer s H vs Q xs hr h=>?_)
 .obtain⟨S,Y,hl,r,_⟩:=h;rw[r.length,hl]
 obtain⟨S,Y,hl,r,hT,j⟩:=h;obtain⟨t,l,u⟩:=g qZ A outer s H xs S Y hr hl hT;exact⟨Qi K H t,l ⟨H,zaA⟩,wb N.length S,[],qf r,_,u,λ_ _ _ _ _ _ q=>q.elim,λ_ _ _ _ _ _ q=>q.elim,λ_ _ _ _ _ _ q=>q.elim,λv e H' s' d q=>j v e H' s' d q⟩
noncomputable def stL(E:List V)(k:Int):List V:=E.take 1++V.int k::E.drop 1
def Fu(a:E.length=3)(k:Int):(stL E k).length=4:=by
 unfold stL;rw[zLa,zLc,zaX,zdC];lia
def Ps(I:Inv X pn G H s)(h:H a=some (StO a E)):E.length=3/\∃k:Int,0<=k/\Inv X pn G (upd H a (.lst (stL E k))) s:=by
 obtain⟨⟨d,k,its,n,g,vs,e⟩,_⟩:=(show wk X.prog X.w H s.heap a (StO a E) from I.hok a _ h);refine⟨d,k,g,?_⟩;exact I.write (t':=s.toks) (h':=s.heap) (x:=a) (e:=a) (o:=.lst (stL E k)) (by rw[h];exact zcV) (.inl rfl) (λ_ _ _ z=>z) ⟨_,e⟩ (show wk X.prog X.w _ s.heap a (.lst _) from⟨by rw[Fu d,zbC];lia,its,n,vs,e⟩)
def Ye{k:Int}(I:Inv X pn G H s)(h:H a=some (.lst (stL E k)))(g:E.length=3)(d:0<=k):Inv X pn G (upd H a (StO a E)) s:=by
 obtain⟨z,its,n,vs,e⟩:=(show wk X.prog X.w H s.heap a (.lst (stL E k)) from I.hok a _ h);exact I.write (t':=s.toks) (h':=s.heap) (x:=a) (e:=a) (o:=StO a E) (by rw[h];exact zcV) (.inl rfl) (λ_ _ _ z=>z) ⟨_,e⟩ ⟨⟨g,k,its,n,d,vs,e⟩,⟨_,e⟩,λh1 h2 ⟨g,k,its,n,d,vs,e⟩ q=>⟨g,k,its,n,d,vs,q _ e⟩⟩
def z4s:IxR X (λx y H Q=>∃a E j v,x=.ref a/\H a=some (StO a E)/\y=.int j/\(∀k,E.length=3->atI (stL E k) j=some v)/\Q v H):=by
 intro value d pn s G H x y v u Q I z r h J;obtain⟨a,E,j,w,rfl,l,rfl,L,q⟩:=h;obtain⟨g,k,D,M⟩:=Ps I l;refine thn (sy value d pn s G _ (.ref a) (.int j) v u (λe H'=>e=w/\H'=upd H a (.lst (stL E k))) M z r ⟨a,_,j,w,rfl,rfl,SqL.of zu,L k g,rfl,rfl⟩ J) λO s' Zh=>?_;obtain⟨e,H',N,B,e1,e2⟩:=Zh;subst e1 e2;have:=Ye N zu g D;rw[B3 l]at this;exact⟨e,H,this,B,q⟩
noncomputable def Ex(j:Int)(S:List D):Option D:=if j=0 then S[0]? else if j=2 then S[1]? else if j=3 then S[2]? else none
def len3{l:List V}(h:l.length=3):∃a b c,l=[a,b,c]:=by
 rcases l with _|⟨a,_|⟨b,_|⟨c,_|⟨d,l⟩⟩⟩⟩ <;> first|exact⟨_,_,_,rfl⟩|cases h
def Kj{K:W.Frag}{H:Hp}{O:List Addr}{j:Int}{S:List D}{d:D}{E:List V}(h:Ex j S=some d)(r:Reps K H O S E):∃v,Rep K H O d v/\∀k,E.length=3->atI (stL E k) j=some v:=by
 have g:∀(n:Nat)(d:D),S[n]?=some d->∃v,E[n]?=some v/\Rep K H O d v:=λn d h=>r.get h;unfold Ex at h;have l:∀(v:V)(n m:Nat),E[n]?=some v->(∀k,E.length=3->(stL E k)[m]?=E[n]?)->m<4->∀k,E.length=3->atI (stL E k) (m:Int)=some v:=λv n m e q x k a=>uu aD (by rw[zcF,q k a,e])
 split at h
 .rename_i z;subst z;obtain⟨v,e,u⟩:=g 0 d h;refine⟨v,u,λk a=>l v 0 0 e (λk a=>?_) aD k a⟩
  obtain⟨_,_,_,rfl⟩:=len3 a;rfl
 split at h
 .rename_i z;subst z;obtain⟨v,e,u⟩:=g 1 d h;refine⟨v,u,λk a=>l v 1 2 e (λk a=>?_) aD k a⟩
  obtain⟨_,_,_,rfl⟩:=len3 a;rfl
 split at h
 .rename_i z;subst z;obtain⟨v,e,u⟩:=g 2 d h;refine⟨v,u,λk a=>l v 2 3 e (λk a=>?_) aD k a⟩
  obtain⟨_,_,_,rfl⟩:=len3 a;rfl
 cases h
def dStx(i:Nat)(j:Int):TD:=λU Y=>match slot U i with
 | some ⟨.val,.sx S⟩=>(match Ex j S with
  |some d=>Y (dv d)
  | none=>False)
 |_=>False
def Pr{K:W.Frag}{H_ H:Hp}{G:St}{U:DE}{o:List (Nat×Addr)}(R:REnv K H_ H G U o){i:Nat}{S:List D}(e:slot U i=some ⟨.val,.sx S⟩):∃a E,G[i]?=some (some (.ref a))/\H a=some (StO a E)/\a∉o.map Prod.snd/\Reps K H (o.map Prod.snd) S E:=by
 obtain⟨v,d,q⟩:=R.slots i _ (Yg.mp e);rcases q with⟨_,a,E,rfl,h,n,r⟩|⟨k,_⟩
 .exact⟨a,E,d,h,n,r⟩
 cases k
def F1(i:Nat)(n:Nat){x:Str}{np pos:Pos} {j p2} (D:autoParam (X.N[i]?=some x) zSr) (g:autoParam (Vis X.env.scope x) zSo) (z:autoParam (D_ x) zSd)
  (k:autoParam ((x==("__classdict__" : Str))=false) zSd) (y:autoParam (gd (.Constant (.int n) j p2)) zSj):ED L X (.Subscript (.Name x np) (.Constant (.int n) j p2) pos) (dStx i n):=λH_ =>
 impE (c4 z4s (uq D g z k) uy y) λG H Q q=>by
  obtain⟨U,M,R,Y,e,u⟩:=q;unfold dStx at e;split at e
  .rename_i S es;split at e
   .rename_i d J;obtain⟨a,E,I,B,O,r⟩:=Pr R es;obtain⟨v,l,g⟩:=Kj J r;exact⟨.ref a,I,a,E,n,v,rfl,B,rfl,g,u _ (dv d) H (Same.refl H) l e⟩
   exact e.elim
  exact e.elim
def z3y(i:Nat):TDS:=λU Z=>∃(ns:List Int)(S:List D),slot U i=some (dv (.sx (.lst (ns.map D.int)::S)))/\∀c:Int,0<=c->Z.rt (dv (.int c))
noncomputable abbrev stE(x:Str)(n:Int)(p:Pos)(j:Nat)(q r:Pos):Expr:=.Subscript (.Name x p) (.Constant (.int n) j q) r
def Fv(i:Nat){x:Str}{d p2 g p4 p5 p6 W Q p9 q1 q2 q3 J D B q7 q8 q9 r1 r2 r3 r4 r5 r6 r7 r8 r9 s1 s2 s3 s4 s5 s6 t1 t2:Pos} {j1 j2 j3 j4 j5 j6 j7 j8 j9 j0 k1} (a8:X.mg "len" = none) (hN:autoParam (X.N[i]?=some x) zSr) (hv:autoParam (Vis X.env.scope x) zSo)
  (hd:autoParam (D_ x) zSd) (a9:autoParam ((x==("__classdict__" : Str))=false) zSd) (hg:autoParam (Gl X "len") zSr)
  (hm:behindInMarks .Gt (.Call (.Name "len" q3) [stE x 0 J j5 D B] [] q7)=false:=by with_unfolding_all rfl)
  (he:autoParam (starEach [stE x 0 J j5 D B] X.env=(false,eval (stE x 0 J j5 D B) X.env)::starEach [] X.env) zSr) (a7:autoParam ((backTo q7 (starEach [] X.env)).any (·.1)=false) zSr)
  (a6:autoParam (swapsWithSole [stE x 1 d j1 p2 g] (.BinOp (stE x 1 p4 j2 p5 p6) .Add (.Constant (.int 1) j3 W) Q) p9.line X.env=pure false) zSr)
  (hw:autoParam (swappedStores [stE x 1 d j1 p2 g] (.BinOp (stE x 1 p4 j2 p5 p6) .Add (.Constant (.int 1) j3 W) Q) X.env=pure none) zSr)
  (h1:autoParam ((assignEach [stE x 1 d j1 p2 g] X.env).map (·.2)=[assign (stE x 1 d j1 p2 g) X.env]) zSr)
  (ha:autoParam (∀v,assign (stE x 1 d j1 p2 g) X.env v=(do
   let ov <- holding [v] (eval (.Name x d) X.env)
   let iv <- holding [v,ov] (eval (.Constant (.int 1) j1 p2) X.env)
   standAt g
   holding [v,ov,iv] (setItem ov iv v)
   release [v,ov,iv] [])) zSi) :
  SDs L X [.Assign [stE x 1 d j1 p2 g] (.BinOp (stE x 1 p4 j2 p5 p6) .Add (.Constant (.int 1) j3 W) Q) p9,
   .If (.Compare (stE x 1 q1 j4 q2 q8) [.Gt] [.Call (.Name "len" q3) [stE x 0 J j5 D B] [] q7] q9) [.Return (some (.Constant (.int 0) j6 r1)) r2] [] r3,
   .Return (some (.BinOp (.Subscript (stE x 0 r4 j7 r5 r6) (.BinOp (stE x 1 r7 j8 r8 r9) .Sub (.Constant (.int 1) j9 s1) s2) s3) .Mod (.BinOp (.Constant (.int 10) j0 s4) .Pow (.Constant (.int 60) k1 s5) s6) t1)) t2] (z3y i):=λH_ pn s G H EE I h=>by
 obtain⟨U,o,R,Z,⟨ns,S,es,hZ⟩,_,_,_,k4⟩:=h;obtain⟨a,E,r,hA,na,rp⟩:=Pr R es;obtain⟨v0,r0,rfl,⟨b,ys,rfl,l,nb,rb⟩,rt⟩:=rp;cases Zi rb;obtain⟨hx,k,k0,I1⟩:=Ps I hA;have a4:b≠a:=λz=>by rw[z,hA]at l;cases l
 have q:∀p:Pos,PE X (.Name x p) _:=λp=>uq hN hv hd a9 (pos:=p);have O:=vj (W6 (Q7 Gi (c4 sy (q p4) (uy (i:=1) (j:=j2) (pos:=p5)) (by intro _ _;rfl) (pos:=p6)) (uy (i:=1) (j:=j3) (pos:=W)) (pos:=Q)) (Oi (q d) (uy (i:=1) (j:=j1) (pos:=p2)) Yi ha) a6 hw h1 (pos:=p9))
  (vj (Kf (Oc z0r (c4 sy (q q1) (uy (i:=1) (j:=j4) (pos:=q2)) (by intro _ _;rfl) (pos:=q8)) (fj rm hg a8 zfM (wg (c4 sy (q J) (uy (i:=0) (j:=j5) (pos:=D)) (by intro _ _;rfl) (pos:=B)) uc he) aB aB he a7 (p:=q3)) hm (pos:=q9)) (qy (Zm (uy (i:=0) (j:=j6) (pos:=r1)) (pos:=r2))) Yn (pos:=r3))
  (qy (Zm (Q7 Ot (c4 sy (c4 sy (q r4) (uy (i:=0) (j:=j7) (pos:=r5)) (by intro _ _;rfl) (pos:=r6)) (Q7 Gb (c4 sy (q r7) (uy (i:=1) (j:=j8) (pos:=r8)) (by intro _ _;rfl) (pos:=r9)) (uy (i:=1) (j:=j9) (pos:=s1)) (pos:=s2)) (by intro _ _;rfl) (pos:=s3)) (Q7 Gc (uy (i:=10) (j:=j0) (pos:=s4)) (uy (i:=60) (j:=k1) (pos:=s5)) (pos:=s6)) (pos:=t1)) (pos:=t2))))
 let D1:Ends:={EE with nx:=λ_ _=>False,bk:=λ_ _=>False,ct:=λ_ _=>False,rt:=λv H2=>∃(c k':Int),v=.int c/\0<=c/\0<=k'/\H2 a=some (.lst (stL (.ref b::r0) k'))/\∀b u,b≠a->H b=some u->H2 b=some u}
 refine thn (O pn s G _ D1 I1 ?_) λfl s' p=>?_
 .obtain⟨_,y,z,e⟩:=len3 hx;cases e;have e1:∀m:Int,stL [V.ref b,y,z] m=[.ref b,.int m,y,z]:=λm=>rfl;rw[e1];have M:∀u,upd H a u b=some (.lst (ns.map V.int)):=λu=>by rw[y0 a4];exact l
  refine⟨.ref a,r,a,_,1,.int k,rfl,rfl,SqL.of zu,rfl,k,1,rfl,rfl,.ref a,r,a,_,1,1,rfl,rfl,zu,rfl,?_⟩;rw[Pe];refine⟨.ref a,r,a,_,1,.int (k+1),rfl,rfl,SqL.of zu,rfl,.ref a,r,a,_,0,.ref b,rfl,rfl,SqL.of zu,rfl,b,_,rfl,.inl (SqL.of (M _)),k+1,ns.length,rfl,by rw[zLm],_,rfl,?_⟩
  have kp:∀u (c:Addr) (w:HO),c≠a->H c=some w->upd H a u c=some w:=λu c w hc hw=>by rw[y0 hc];exact hw
  by_cases hl:(ns.length:Int)<k+1
  .dsimp only
   rw[zaK (zdQ hl)];exact⟨0,k+1,rfl,by lia,by lia,zu,kp _⟩
  dsimp only
  rw[zaI (by simpa using hl)]
  have hk:k.toNat<ns.length:=by lia
  have b0:(10:Int) ^ (60:Int).toNat≠0:=by decide
  refine⟨.ref a,r,a,_,0,.ref b,rfl,rfl,SqL.of zu,rfl,.ref a,r,a,_,1,.int (k+1),rfl,rfl,SqL.of zu,rfl,k+1,1,rfl,rfl,b,_,k+1-1,.int ns[k.toNat],rfl,rfl,SqL.of (M _),?_,10,60,rfl,rfl,?_,_,_,rfl,rfl,b0,?_⟩
  .refine uu aD ?_
   rw[zai,show(k+1-1).toNat=k.toNat by lia,zaf hk]
   rfl
  .exact⟨by decide,by decide,by decide⟩
  exact⟨_,k+1,rfl,zbD _ aB,by lia,zu,kp _⟩
 cases fl with
 |ret u =>
  obtain⟨v,a0,H2,I2,rv,c,k',rfl,c0,a5,e2,kp⟩:=p;refine⟨.int c,a0,upd H2 a (StO a (.ref b::r0)),Ye I2 e2 hx a5,rv,k4 _ (dv (.int c)) _ (R.same.trans λb u l=>?_) aH (hZ c c0)⟩
  by_cases hba:b=a
  .subst hba;rw[zu];rw[hA]at l;exact l
  rw[y0 hba];exact kp b u hba l
 |next=>obtain⟨_,_,_,f⟩:=p;exact f.elim
 |brk=>obtain⟨_,_,_,f⟩:=p;exact f.elim
 |cont=>obtain⟨_,_,_,f⟩:=p;exact f.elim
def REnv.st{K:W.Frag}{H_ H:Hp}{G:St}{U:DE}{o:List (Nat×Addr)}(R:REnv K H_ H G U o){i:Nat}{d e2 f:D}{k:Int}(e:slot U i=some (dO (.lst [d,.int k,e2,f]))) :
  ∃a o' E,E.length=3/\H a=some (.lst (stL E k))/\REnv K H_ (upd H a (StO a E)) G (setS U i (dv (.sx [d,e2,f]))) o'/\Grow (o.map Prod.snd) (o'.map Prod.snd) H (upd H a (StO a E)):=by
 obtain⟨v,ev,q⟩:=R.slots i _ (Yg.mp e);obtain⟨a,rfl,y,E,Z,rp⟩:∃a,v=.ref a/\(i,a)∈o/\∃E,H a=some (.lst E)/\Reps K H (o.map Prod.snd) [d,.int k,e2,f] E:=by
  rcases q with⟨k,_⟩|⟨_,a,e1,m,c⟩
  .cases k
  exact⟨a,e1,m,c⟩
 obtain⟨V,_,rfl,r0,v1,_,rfl,r1,Q,_,rfl,r2,O,_,rfl,r3,rfl⟩:=rp;cases (show v1=_ from r1);have sub:∀p∈o.filter (λp=>decide (p.1≠i)),p∈o:=λp x=>(zcY.mp x).1;have ne:∀p∈o.filter (λp=>decide (p.1≠i)),p.2≠a:=λp x z=>by
  have:=X3 R.nda (sub p x) y z;have L:=zbQ (zcY.mp x).2;rw[this]at L;exact L rfl
 have I:∀b∈(o.filter (λp=>decide (p.1≠i))).map Prod.snd,b∈o.map Prod.snd:=λb M=>by
  obtain⟨p,x,e⟩:=zah.mp M;exact zah.mpr ⟨p,sub p x,e⟩
 have a4:a∈o.map Prod.snd:=zah.mpr ⟨_,y,rfl⟩;have N:a∉(o.filter (λp=>decide (p.1≠i))).map Prod.snd:=λM=>by
  obtain⟨p,x,e⟩:=zah.mp M;exact ne p x e
 have g:Grow (o.map Prod.snd) ((o.filter (λp=>decide (p.1≠i))).map Prod.snd) H (upd H a (StO a [V,Q,O])) :=
  ⟨λb u h n=>⟨by rw[y0 (λz=>n (by rw[z];exact a4))];exact h,λz=>n (I b z)⟩,λb ys h=>by rw[y0 (λz=>by subst z;rw[Z]at h;cases h)];exact h,λb ob u h=>by rw[y0 (λz=>by subst z;rw[Z]at h;cases h)];exact h⟩
 refine⟨a,_,[V,Q,O],rfl,Z,?_,g⟩;have a5:=R.len;exact {
  same:=λb u h=>by
   have M:b≠a:=λz=>by
    subst z;have:=R.fresh _ y;rw[this]at h;cases h
   rw[y0 M];exact R.same b u h
  fresh:=λp x=>R.fresh p (sub p x)
  trk:=λp x=>by rw[y0 (ne p x)];exact R.trk p (sub p x)
  mtb:=λp x=>by rw[y0 (ne p x)];exact R.mtb p (sub p x)
  nda:=List.Nodup.sublist (List.Sublist.map _ List.filter_sublist) R.nda
  len:=by rw[xx,zaY];exact R.len
  slots:=λj r B=>by
   rw[xx,List.getElem?_set]at B;by_cases hj:i=j
   .subst hj;rw[zaK rfl]at B;split at B
    .cases B
     exact⟨.ref a,ev,.inl ⟨rfl,a,[V,Q,O],rfl,zu,N,V,_,rfl,RepN.grow g _ _ r0,Q,_,rfl,RepN.grow g _ _ r2,O,_,rfl,RepN.grow g _ _ r3,rfl⟩⟩
    cases B
   rw[zaI hj]at B;obtain⟨v,a0,q⟩:=R.slots j r B;refine⟨v,a0,?_⟩;rcases q with⟨k,q⟩|⟨k,b,e1,mb,c⟩
   .exact .inl ⟨k,RepN.grow g _ _ q⟩
   have J:(j,b)∈o.filter (λp=>decide (p.1≠i)):=zcY.mpr ⟨mb,zdQ (Ne.symm hj)⟩;have nb:=ne _ J;refine .inr ⟨k,b,e1,J,?_⟩;obtain⟨kk,d⟩:=r;cases d with
   |lst S=>obtain⟨E,q,r⟩:=c;exact⟨E,by rw[y0 nb];exact q,zp.grow g _ _ r⟩
   |dk ks S=>obtain⟨E,q,l,nd,r⟩:=c;exact⟨E,by rw[y0 nb];exact q,l,nd,zp.grow g _ _ r⟩
   | _=>exact c.elim}
def sSt(i:Nat)(t:TDS):TDS:=λU Z=>∃(d:D)(k:Int)(e f:D),slot U i=some (dO (.lst [d,.int k,e,f]))/\0<=k/\t (setS U i (dv (.sx [d,e,f]))) Z
def z3x(i:Nat){st:Stmt}{t:TDS}(h:SD L X st t):SD L X st (sSt i t):=λH_ pn s G H O I q=>by
 obtain⟨U,o,R,Z,⟨d,k,e,f,es,B,M⟩,z,y,x,v⟩:=q;obtain⟨a,o',E,D,J,N,g⟩:=R.st es;refine h H_ pn s G _ O (Ye I J D B) ⟨_,o',N,Z,M,λl j H2 u g2 R2 r=>z l j H2 u (g.trans g2) R2 r,λl j H2 u g2 R2 r=>y l j H2 u (g.trans g2) R2 r,λl j H2 u g2 R2 r=>x l j H2 u (g.trans g2) R2 r,v⟩
def txD(r:EV):Prop:=(∃z,r=dv (.str z))\/∃zs:List Str,r=df (.lst (zs.map D.str))
theorem Zg{K:W.Frag}{H:Hp}{O:List Addr}:∀{ns:List Str}{E:List V},Reps K H O (ns.map D.str) E->E=ns.map V.str
 |[],_,h=>h
 |n::ns,E,h=>by
  obtain⟨v,r,rfl,q,t⟩:=h;cases (show v=_ from q);rw[Zg t];rfl
theorem Xx{K:W.Frag}{H:Hp}{O:List Addr}:∀(ns:List Str),Reps K H O (ns.map D.str) (ns.map V.str)
 |[]=>rfl
 |n::ns=>⟨_,_,rfl,rfl,Xx ns⟩
def txD.up{K:W.Frag}{H0 H:Hp}{O:List Addr}{r:EV}{v:V}{p:Addr}{u:HO} {kvs} (t:txD r) (h:RV K H0 H O r v) (g:H p=some (.dK kvs)):RV K H0 (upd H p u) O r v:=by
 rcases t with⟨z,rfl⟩|⟨zs,rfl⟩
 .exact h
 obtain⟨a,rfl,h0,n,E,d,e⟩:=h;cases Zg e;exact⟨a,rfl,h0,n,_,by rw[y0 (λz=>by rw[z,g]at d;cases d)];exact d,Xx zs⟩
section
variable{a1 b1 a2 b2 a3 b3 ix:Expr}{t1 u1 t2 u2 t3 u3 tk:TD}{pos pos2:Pos}
def dPk3(t1 u1 t2 u2 t3 u3 tk:TD):TD:=λU Y=>t1 U λa=>u1 U λx=>t2 U λb=>u2 U λy=>t3 U λc=>u3 U λz=>∃z1 z2 z3:Str,a.d=.str z1/\b.d=.str z2/\c.d=.str z3/\z1≠z2/\z1≠z3/\z2≠z3/\txD x/\txD y/\txD z/\tk U λe=>∃w:Str,e.d=.str w/\((w=z1/\Y x)\/(w=z2/\Y y)\/(w=z3/\Y z))
def F2(hu:X.A.units+64<cLine)(h1:ED L X a1 t1)(g1:ED L X b1 u1)(h2:ED L X a2 t2)(g2:ED L X b2 u2)(h3:ED L X a3 t3)(g3:ED L X b3 u3)(hk:ED L X ix tk)(hs:autoParam (gd ix) zSj):ED L X (.Subscript (.Dict [some a1,some a2,some a3] [b1,b2,b3] pos) ix pos2) (dPk3 t1 u1 t2 u2 t3 u3 tk):=λH_ =>
 impE (c4 (U7 aD) (On (ki (h1 H_) (g1 H_) (ki (h2 H_) (g2 H_) (ki (h3 H_) (g3 H_) Od))) rfl rfl aE aE) (hk H_) hs) λG H Q q=>by
  obtain⟨U,o,R,Y,c2,k⟩:=q;intro p hp;have g:=ye hp (HO.dK []);refine⟨U,o,R.to g,_,c2,λv1 r1 H1 s1 b0 a0=>⟨U,o,R.to (g.trans s1),_,a0,λr r2 H2 s2 a9 Z=>⟨U,o,R.to ((g.trans s1).trans s2),_,Z,λv3 r3 H3 x a8 W=>⟨U,o,R.to (((g.trans s1).trans s2).trans x),_,W,λl r4 H4 M a7 O=>⟨U,o,R.to ((((g.trans s1).trans s2).trans x).trans M),_,O,λv5 r5 H5 J a6 N=>⟨U,o,R.to (((((g.trans s1).trans s2).trans x).trans M).trans J),_,N,λj r6 H6 s6 a5 e=>?_⟩⟩⟩⟩⟩⟩;obtain⟨z1,z2,z3,e1,e2,e3,D,B,z,tx,ty,tz,e⟩:=e;have v:H6 p=some (.dK []):=s6 _ _ (J _ _ (M _ _ (x _ _ (s2 _ _ (s1 _ _ zu)))));have w1:v1=V.str z1:=by have:=b0.view;rw[e1]at this;exact this
  have w3:v3=V.str z2:=by have:=a8.view;rw[e2]at this;exact this
  have w5:v5=V.str z3:=by have:=a6.view;rw[e3]at this;exact this
  refine⟨v,[(.inr z1,r),(.inr z2,l),(.inr z3,j)],by rw[w1,w3,w5];rfl,by simp,?_⟩
  have em:kn [] [((.inr z1:Key),r),(.inr z2,l),(.inr z3,j)]=[(.inr z1,r),(.inr z2,l),(.inr z3,j)]:=by
   simp[kn,putK,D,B,z,Ne.symm D,Ne.symm B,Ne.symm z]
  rw[em];have sm:Same H (upd H6 p (.dK [((.inr z1:Key),r),(.inr z2,l),(.inr z3,j)])):=λb u hb=>by
   rw[y0 (zk hb hp)];exact s6 _ _ (J _ _ (M _ _ (x _ _ (s2 _ _ (s1 _ _ (g _ _ hb))))))
  refine⟨U,o,R.to sm,_,e,λv7 r7 H7 y a4 d=>?_⟩;obtain⟨w,ew,d⟩:=d;have w7:v7=V.str w:=by have:=a4.view;rw[ew]at this;exact this
  have c1:=(tx.up (((a9.start (g.trans s1)).same (x.trans (M.trans (J.trans s6))))) v (u:=.dK [((.inr z1:Key),r),(.inr z2,l),(.inr z3,j)])).same y;have c0:=(ty.up (((a7.start (g.trans (s1.trans (s2.trans x)))).same (J.trans s6))) v (u:=.dK [((.inr z1:Key),r),(.inr z2,l),(.inr z3,j)])).same y;have b5:=(tz.up (a5.start (g.trans (s1.trans (s2.trans (x.trans (M.trans J)))))) v (u:=.dK [((.inr z1:Key),r),(.inr z2,l),(.inr z3,j)])).same y;have I:=y _ _ (zu (H:=H6) (a:=p) (o:=.dK [((.inr z1:Key),r),(.inr z2,l),(.inr z3,j)]));rcases d with⟨rfl,h⟩|⟨rfl,h⟩|⟨rfl,h⟩
  .exact⟨p,_,.inr w,r,rfl,I,w7,by simp[valV],k _ _ _ (sm.trans y) c1 h⟩
  .exact⟨p,_,.inr w,l,rfl,I,w7,by simp[valV,D],k _ _ _ (sm.trans y) c0 h⟩
  exact⟨p,_,.inr w,j,rfl,I,w7,by simp[valV,B,z],k _ _ _ (sm.trans y) b5 h⟩
def dPk2(t1 u1 t2 u2 tk:TD):TD:=λU Y=>t1 U λa=>u1 U λx=>t2 U λb=>u2 U λy=>∃z1 z2:Str,a.d=.str z1/\b.d=.str z2/\z1≠z2/\txD x/\txD y/\tk U λe=>∃w:Str,e.d=.str w/\((w=z1/\Y x)\/(w=z2/\Y y))
def z2t(hu:X.A.units+64<cLine)(h1:ED L X a1 t1)(g1:ED L X b1 u1)(h2:ED L X a2 t2)(g2:ED L X b2 u2)(hk:ED L X ix tk)(hs:autoParam (gd ix) zSj):ED L X (.Subscript (.Dict [some a1,some a2] [b1,b2] pos) ix pos2) (dPk2 t1 u1 t2 u2 tk):=λH_ =>
 impE (c4 (U7 aD) (On (ki (h1 H_) (g1 H_) (ki (h2 H_) (g2 H_) Od)) rfl rfl aE aE) (hk H_) hs) λG H Q q=>by
  obtain⟨U,o,R,Y,a6,k⟩:=q;intro p hp;have l:=ye hp (HO.dK []);refine⟨U,o,R.to l,_,a6,λv1 r1 H1 s1 a0 D=>⟨U,o,R.to (l.trans s1),_,D,λj r2 H2 s2 Z B=>⟨U,o,R.to ((l.trans s1).trans s2),_,B,λv3 r3 H3 y W z=>⟨U,o,R.to (((l.trans s1).trans s2).trans y),_,z,λg r4 H4 M O e=>?_⟩⟩⟩⟩;obtain⟨z1,z2,e1,e2,r,tx,ty,e⟩:=e;have v:H4 p=some (.dK []):=M _ _ (y _ _ (s2 _ _ (s1 _ _ zu)));have w1:v1=V.str z1:=by have:=a0.view;rw[e1]at this;exact this
  have w3:v3=V.str z2:=by have:=W.view;rw[e2]at this;exact this
  refine⟨v,[(.inr z1,j),(.inr z2,g)],by rw[w1,w3];rfl,by simp,?_⟩
  have em:kn [] [((.inr z1:Key),j),(.inr z2,g)]=[(.inr z1,j),(.inr z2,g)]:=by
   simp[kn,putK,r,Ne.symm r]
  rw[em];have J:Same H (upd H4 p (.dK [((.inr z1:Key),j),(.inr z2,g)])):=λb u hb=>by
   rw[y0 (zk hb hp)];exact M _ _ (y _ _ (s2 _ _ (s1 _ _ (l _ _ hb))))
  refine⟨U,o,R.to J,_,e,λv7 r7 H7 x N d=>?_⟩;obtain⟨w,ew,d⟩:=d;have w7:v7=V.str w:=by have:=N.view;rw[ew]at this;exact this
  have a5:=(tx.up (((Z.start (l.trans s1)).same (y.trans M))) v (u:=.dK [((.inr z1:Key),j),(.inr z2,g)])).same x;have a4:=(ty.up (O.start (l.trans (s1.trans (s2.trans y)))) v (u:=.dK [((.inr z1:Key),j),(.inr z2,g)])).same x;have I:=x _ _ (zu (H:=H4) (a:=p) (o:=.dK [((.inr z1:Key),j),(.inr z2,g)]));rcases d with⟨rfl,h⟩|⟨rfl,h⟩
  .exact⟨p,_,.inr w,j,rfl,I,w7,by simp[valV],k _ _ _ (J.trans x) a5 h⟩
  exact⟨p,_,.inr w,g,rfl,I,w7,by simp[valV,r],k _ _ _ (J.trans x) a4 h⟩
end
def z2x(i:Nat)(te:TD):TD:=λU Y=>te (frzS U i) λr=>(∃es,r=df (.lst es)/\y7 es)/\Y r
def Cp(i:Nat)(x:ED L X e te):ED L X e (z2x i te):=λH_=>impE (x H_) λG H Q q=>by
 obtain⟨U,o,R,Y,d,k⟩:=q;obtain⟨o',y,sub⟩:=R.frz1 i;refine⟨frzS U i,o',y,_,d,λv r H' s g h=>?_⟩;obtain⟨⟨es,rfl,l⟩,h⟩:=h;obtain⟨a,rfl,h0,n,E,u,j⟩:=g;exact k _ (df (.lst es)) H' s ⟨a,rfl,h0,R.ofree h0,E,u,zp.pure _ _ l j⟩ h
section
def Room.far{k:Nat}{A:Around}(r:Room k A):A.units+200<cLine:=by have:=r.un;lia
def rEqH(K:W.Frag)(a:Bool):R2:=λx y H Q=>∃d e,Rep K H [] d x/\Rep K H [] e y/\okD 150 d/\okD 150 e/\Q (.bl (if a then !eqD d e else eqD d e)) H
end
section
variable{a b:Expr}{ta tb:TD}{pos:Pos}
def z0t(hu:X.A.units+200<cLine):OpR X (compareOp .Eq) (rEqH X.K false):=by
 intro pn s G H x y v u Q I g a h;obtain⟨d,e,h1,h2,k,j,q⟩:=h;exact(T1 I 150 d e x y v u X.A k j h1 h2 g a aD).1 X.prog X.w X.xe _ ⟨.bl _,H,I,rfl,q⟩
def sEqH:D->D->(EV->Prop)->Prop:=λx y Y=>okD 150 x/\okD 150 y/\Y (dv (.bl (eqD x y)))
def z2n(hu:X.A.units+200<cLine)(j:ED L X a ta)(g:ED L X b tb):ET L X (.Compare a [.Eq] [b] pos) (tBo (d2 sEqH ta tb)) :=
 jg (z0t hu) (λH O x y q l Y Q ho e d h k=>⟨x,y,e.rep0,d.rep0,h.1,h.2.1,k _ _ H (Same.refl H) aH h.2.2⟩) j g (uz _)
end
section
open PySem PySem.Spec PySem.W PyProof.Rows
noncomputable def Q3:Value->Option Str
 |.str x _=>some x
 |_=>none
def Pq{us:List Value}{zs:List Str}(h:us.map Q3=zs.map some){i:Nat}(hi:i<us.length):∃x t,us.getD i Value.none=.str x t:=by
 have e:us.getD i Value.none=us[i]:=by rw[zeL,zaf hi];rfl
 have m:Q3 us[i]∈zs.map some:=by rw[<- h];exact List.mem_map_of_mem (zdM hi)
 rw[e];generalize us[i]=v at m ⊢;obtain⟨x,_,ex⟩:=zah.mp m;cases v with
 |str y t=>exact⟨y,t,rfl⟩
 |_=>cases ex
theorem Xu:∀{us:List Value}{zs:List Str},us.map Q3=zs.map some->Vals (zs.map V.str) us
 |[],[],_=>.nil
 |[],_::_,h=>by cases h
 |_::_,[],h=>by cases h
 |u::us,z::zs,h=>by
  rw[zaB,zaB]at h
  injection h with h1 h2
  refine .cons ?_ (Xu h2);cases u with
  |str y t =>
   cases h1
   exact⟨t,rfl⟩
  |_=>cases h1
def Pw{l:Addr}{bs:List Value}{zs:List Str}{n:Nat}{P:PySem.Fin->Shared->Prop}(g:s.heap.get? l=some (seqObj "list" bs.toArray n))(L:bs.map Q3=zs.map some)(M:bs.length<64)(q:∀ h' (us:List Value) n',us.Perm bs->(∀ b o,b≠l->s.heap.get? b=some o->h'.get? b=some o)->h'.get? l=some (seqObj "list" us.toArray n')->P (.done (.ret .none)) {s with heap:=h'}) :
  wpAny (model prog w) A (Builtin.«list.sort» ⟨[.ref l],[]⟩) P xs s:=by
 obtain⟨e1,g1⟩:∃e1,(s.heap.update l (Obj.mapSeq λ_=>(#[]:Array Value))).get? l=some (seqObj "list" #[] e1):=⟨_,get?_update_seq g λ_=>#[]⟩;have J:=zbH s.heap l (Obj.mapSeq λ_=>(#[]:Array Value));rw[list_sort_plain];apply zaa;refine listItems_at g rfl ?_;apply zaa;refine listUpdate_at g rfl ?_ (by rw[zap,zbC];lia) (zbW _)
 apply zaa;refine seqEpoch_at g1 rfl ?_;apply zaa;refine wpAny_newTuple ?_ (by show bs.length<=_;rw[zbC];lia)
 apply zaa;refine wpAny_newList ?_ (zbW _);apply zaZ;show wpAny (model prog w) A _ P xs {s with heap:=((s.heap.update l (Obj.mapSeq λ_=>(#[]:Array Value))).push (seqObj "tuple" bs.toArray 0)).push (seqObj "list" #[] 0)};generalize eh:((s.heap.update l (Obj.mapSeq λ_=>(#[]:Array Value))).push (seqObj "tuple" bs.toArray 0)).push (seqObj "list" #[] 0)=a;have R:∀b o,b≠l->s.heap.get? b=some o->a.get? b=some o:=λb o I e=>by
  rw[<- eh];exact zac _ (zac _ ((J.2 b I).trans e))
 have g3:a.get? l=some (seqObj "list" #[] e1):=by
  rw[<- eh];exact zac _ (zac _ g1)
 have B:∀us:List Value,us.Perm bs->P (.done (.ret .none)) {s with heap:=a.update l (Obj.mapSeq λ_=>us.toArray)}:=λus D=>by
  obtain⟨N,g4⟩:∃N,(a.update l (Obj.mapSeq λ_=>us.toArray)).get? l=some (seqObj "list" us.toArray N):=⟨_,get?_update_seq g3 λ_=>us.toArray⟩;exact q _ us N D (λb o I e=>((zbH a l (Obj.mapSeq λ_=>us.toArray)).2 b I).trans (R b o I e)) g4
 dsimp only
 by_cases h2:bs.toArray.size<2
 .rw[zaK h2,zaK h2];apply zaa;apply zab;rw[StateT.run_pure];apply zaa;apply zab
  dsimp only
  have eo:(arrOf (SortSt.mk' general' (bs.toArray.zip bs.toArray) #[] 7 none)).map (·.2)=bs.toArray:=by
   show(bs.toArray.zip bs.toArray).map (·.2)=_;apply Array.toList_inj.mp;simp;exact vz _
  rw[eo];apply zaa;refine seqEpoch_at (s:={s with heap:=a}) g3 rfl ?_;apply zaa;refine listUpdate_at (s:={s with heap:=a}) g3 rfl ?_ (zbW _) (by rw[zap,zbC];lia)
  simp only[bne_self_eq_false,zbZ,zeP];exact zab (B _ (List.Perm.refl _))
 rw[zaI h2,zaI h2];have z:2<=bs.length:=by rw[zap]at h2;lia
 apply zaa;refine kas_kind (s:={s with heap:=a}) (T:=Value.type "str") z (λv V=>?_) aB aB ?_
 .have m:Q3 v∈zs.map some:=by rw[<- L];exact List.mem_map_of_mem V
  obtain⟨x,_,ex⟩:=zah.mp m;cases v with
  |str y t=>exact .now
  |_=>cases ex
 apply zaa;have r:Asks bs.length (kas_ask prog w A oneType' bs) {s with heap:=a}:=λi j C hi Z f=>by
  unfold kas_ask;obtain⟨x,t,ei⟩:=Pq L hi;obtain⟨y,u,ej⟩:=Pq L Z;rw[ei,ej];exact kas_lt_str (f _)
 have k:wpAny (model prog w) A _ _ xs _:=kat_run (s:={s with heap:=a}) (κ:=oneType') (ks:=bs) (vs:=bs)
  (Q:=λd s'=>s'={s with heap:=a}/\failedOf d=none/\∃us:List Value,us.Perm bs/\(arrOf d).map (·.2)=us.toArray)
  (G:=λp s'=>s'={s with heap:=a}/\POrd bs.length p) rfl z M
  (λp d s' a1 a2 a3 O=>⟨O.1,a3,_,Kk O.2 _ rfl,kat_snds rfl a2⟩) (Lr aD r λp W=>⟨rfl,W⟩)
 refine wpAny_mono k ?_ λ_ _ e=>e;rintro⟨⟨⟩,d⟩ s' ⟨rfl,hf,us,D,eu⟩
 dsimp only
 rw[eu];apply zaa;refine seqEpoch_at (s:={s with heap:=a}) g3 rfl ?_;apply zaa;refine listUpdate_at (s:={s with heap:=a}) g3 rfl ?_ (zbW _) (by rw[zap,zbC,D.length_eq];lia)
 rw[hf];simp only[bne_self_eq_false,zbZ,zeP];exact zab (B us D)
def Kl{α a k:Type}{f:α->k}{g:a->k}{us bs:List α}(p:us.Perm bs):∀{zs:List a},bs.map f=zs.map g->∃ws:List a,ws.Perm zs/\us.map f=ws.map g:=by
 induction p with
 |nil=>exact λe=>⟨_,List.Perm.refl _,e⟩
 |@cons x as bs h ih =>
  intro zs e;cases zs with
  |nil=>cases e
  |cons z zs =>
   rw[zaB,zaB]at e
   injection e with e1 e2
   obtain⟨ws,d,j⟩:=ih e2;exact⟨z::ws,d.cons z,by rw[zaB,zaB,e1,j]⟩
 |@swap x y l =>
  intro zs e
  match zs,e with
  |z::z'::zs,e =>
   simp only[zaB,List.cons.injEq]at e;exact⟨z'::z::zs,List.Perm.swap _ _ _,by simp only[zaB,e.1,e.2.1,e.2.2]⟩
  |[z],e=>simp at e
  |[],e=>simp at e
 |trans h1 h2 i1 i2 =>
  intro zs e;obtain⟨ws,d,j⟩:=i2 e;obtain⟨vs,q,r⟩:=i1 j;exact⟨vs,q.trans d,r⟩
theorem Gn:∀{kvs:List (Key×V)}{vs:List (Key×Value)},KV kvs vs->vs.map Prod.fst=kvs.map Prod.fst
 |_,_,.nil=>rfl
 |_,_,.cons r t=>by rw[zaB,zaB,Gn t,r.1]
def Hl{P:Program}{w:World}{a:Array Value}{vs:List (Key×Value)}{zs:List Str}(h:ItemsOf (λi v=>∃ k x,vs[i]?=some (k,x)/\(yq P w).is k v=true) a vs.length)(d:vs.map Prod.fst=zs.map Sum.inr):a.toList.map Q3=zs.map some:=by
 have l:a.toList.length=vs.length:=by simpa using h.1
 have j:zs.length=vs.length:=by simpa using(zbO List.length d).symm
 refine List.ext_getElem (by simp[l,j]) λi h1 h2=>?_
 rw[zLm]at h1 h2;obtain⟨k,x,e2,r⟩:=h.2 i a.toList[i] (by rw[<- zeF,zaf h1])
 have q:some k=some (Sum.inr zs[i]):=by
  have:=zbO (·[i]?) d;simpa [e2,h2] using this
 cases q
 rw[List.getElem_map,List.getElem_map];rcases xb (show U6 (Sum.inr zs[i]) _=true from r) with⟨_,_,x,_⟩|⟨_,_,g,e⟩
 .cases x
 rw[e];exact zbO some (zeR g).symm
def Vb(R:X.calm=true):ui X (.builtin "sorted") (λE H Q=>∃a kvs zs,E=[.ref a]/\H a=some (.dK kvs)/\kvs.length<64/\kvs.map Prod.fst=zs.map Sum.inr /\
  ∀p (ws:List Str),H p=none->ws.Perm zs->Q (.ref p) (upd H p (.lst (ws.map V.str)))):=by
 intro pn s G H E us Q I r h;obtain⟨a,kvs,zs,rfl,W,k,v,q⟩:=h;obtain⟨u,rfl,B⟩:=sj r;cases B;obtain⟨z,J,vs,M,Z⟩:=(show wk X.prog X.w H s.heap a (.dK kvs) from I.hok a _ W);obtain⟨ep,j⟩:=Z.dictAt;have kf:=Gn M;have N:vs.length=kvs.length:=by simpa using zbO List.length kf
 refine Calls.call_function_entry kind_sorted plain_sorted entry_sorted (args_sorted1 _) (?_:_);unfold Builtin.«sorted»;apply zaa (m:=checkCount "sorted" 1 1 _);apply zab;apply zaa;refine kdu_collect (kdl_dict (knd:=yq X.prog X.w) (kvs:=vs) (ep:=ep) J) (I.ok.hd R) j aD λh1 tk g O d=>?_
 have x:=Hl d (kf.trans v);have hl:g.toList.length=kvs.length:=by rw[<- N];simpa using d.1
 apply zaa;refine wpAny_newList ?_ (by rw[hl,zbC];lia)
 have y:Inv X pn G H {s with heap:=h1,toks:=tk}:=I.kept O;apply zaa;refine zaZ (zbF slot_list_sort ⟨_,zad _ rfl,rfl⟩ entry_list_sort (?_:_) (args_list_sort _));refine Pw (s:={s with heap:=h1.push (seqObj "list" g.toList.toArray 0),toks:=tk}) (n:=0) (zad _ rfl) x (by rw[hl];exact k) λh' us L D keep gl=>?_
 obtain⟨ws,l,ew⟩:=Kl D x;refine⟨_,rfl,zab ⟨_,rfl,.ref h1.objs.size,_,y.laid (h':=h') (t':=tk) (o:=.lst (ws.map V.str)) (λb u e=>?_) (zaj _) ?_,rfl,q _ ws (y.hok.fresh (zaj _)) l⟩⟩
 .exact keep b u (zaL (zae e)) (zac _ e)
 have:(zs.map (Sum.inr:Str->Key)).length=kvs.length:=by rw[<- v,zLm]
 rw[zLm]at this;exact⟨by rw[zLm,l.length_eq,this];exact z,_,L,Xu ew,gl⟩
end
section
variable{es:List Expr}{t:TDs}{p pos:Pos}
def sSortedS:FT:=λS Y=>match S with
 |[.dk ks _]=>ks.length<64/\∃zs:List Str,ks=zs.map Sum.inr/\∀ws:List Str,ws.Perm zs->Y (df (.lst (ws.map D.str)))
 |_=>False
theorem Tg{α a:Type}:∀{ks:List α}{E:List a},ks.length=E.length->(ks.zip E).map Prod.fst=ks
 |[],_,_=>rfl
 |_::_,[],h=>by cases h
 |k::ks,x::E,h=>by rw[zaM,zaB,Tg (Nat.succ.inj h)]
theorem Sa{K:W.Frag}{H:Hp}{O:List Addr}:∀zs:List Str,Reps K H O (zs.map D.str) (zs.map V.str)
 |[]=>rfl
 |x::k=>⟨_,_,rfl,rfl,Sa k⟩
def Zv(x:X.mg "sorted" = none)(D:EA L X (e::es) t)(B:autoParam (X.calm=true) zSr)(y:autoParam (Gl X "sorted") zSr)(z:autoParam (S_ X e es) zSr)(d:autoParam (B_ X es pos) zSr):ED L X (.Call (.Name "sorted" p) (e::es) [] pos) (dCB sSortedS t) :=
 ut (Vb B) (λH O S vs Y Q ho u h k=>by
  unfold sSortedS at h;split at h
  .rename_i ks l;obtain⟨v,ws,rfl,⟨a,E,rfl,q,l,G,r⟩,rfl⟩:=u;obtain⟨h1,zs,rfl,h2⟩:=h;have hl:(zs.map (Sum.inr:Str->Key)).length=E.length:=by rw[l,r.length]
   refine⟨a,_,zs,rfl,q,by rw[zbI,hl,zfR,<- hl];exact h1,Tg hl,λp ws g j=>?_⟩
   exact k _ _ _ (ye g _) (sk ho g (Sa ws)) (h2 ws j)
  exact h.elim) x (by kernel_rfl) D y aB aB z d
end
def kz{α:Type}{us:List α}(h:us.length=1):∃a0,us=[a0]:=match us,h with
 |[a0],_=>⟨a0,rfl⟩
def t5{α:Type}{us:List α}(h:us.length=2):∃a0 a1,us=[a0,a1]:=match us,h with
 |[a0,a1],_=>⟨a0,a1,rfl⟩
def g0{α:Type}{us:List α}(h:us.length=3):∃a0 a1 a2,us=[a0,a1,a2]:=match us,h with
 |[a0,a1,a2],_=>⟨a0,a1,a2,rfl⟩
def J5{α:Type}{us:List α}(h:us.length=4):∃a0 a1 a2 a3,us=[a0,a1,a2,a3]:=match us,h with
 |[a0,a1,a2,a3],_=>⟨a0,a1,a2,a3,rfl⟩
def uncQ{α:Type}{n:Nat}{l:List α}(h:l.length=n+1):∃a t,l=a::t/\t.length=n:=by
 cases l with
 |nil=>cases h
 |cons a t=>exact⟨a,t,rfl,Nat.succ.inj h⟩
def z4r{α:Type}{us:List α}(h:us.length=6):∃a0 a1 a2 a3 a4 a5,us=[a0,a1,a2,a3,a4,a5]:=by
 obtain⟨a,_,rfl,h1⟩:=uncQ h;obtain⟨b,_,rfl,h2⟩:=uncQ h1;obtain⟨c,_,rfl,h3⟩:=uncQ h2;obtain⟨d,_,rfl,h4⟩:=uncQ h3;obtain⟨e,_,rfl,h5⟩:=uncQ h4;obtain⟨f,_,rfl,h6⟩:=uncQ h5;exact⟨a,b,c,d,e,f,by rw[List.eq_nil_of_length_eq_zero h6]⟩
noncomputable abbrev pC:List Str:=["program","name"]
noncomputable abbrev pA:List Str:=["_law_state","_law_scope","_law_deep","_law_shape"]
noncomputable abbrev pB:List Str:=["shapes","sizes","numbers"]
noncomputable abbrev pE:List Str:=["program","name","args","most"]
noncomputable abbrev pD:List Str:=["_law_program_here","_law_name","_law_params","_law_sizes","_law_number_here","_law_most"]
local macro_rules|`(tactic| walk_at "dl")=>do
 let ids <- (("nw q_ Q_ d2 d1 ux dC slot setS EV.sto aNil u9 dTup dLst dCB da bAnd bNot bYes tTru truD sFd sMod sPow sI sAdd sNeg sIx1 sSl dSl Dj Di sTupC gN wb List.map_cons List.map_nil zLc zLn List.cons_append List.nil_append List.replicate_succ List.replicate_zero Nat.reduceAdd Nat.reduceSub Nat.zero_add Nat.sub_self Bool.and_self true_and Bool.not_true Bool.not_false forall_const false_implies Bool.true_eq_false reduceCtorEq zw kdD Bool.not_eq_eq_eq_not ne_eq not_false_eq_true Hj z3c z5s and_self Nat.beq_eq Nat.ble_eq Nat.reduceLeDiff sIxx keyD cp10 Int.reduceLE Int.reduceToNat zLm dh Int.reduceEq Int.reduceNeg qSeq qSet qE qT qB qIf qNil qRet As Av hid Ei G3 O9 dFld fE2 fTup Jt fNil qFld Aw Au K8 pFld D9 rE rP An List.getElem?_cons_succ List.getElem?_cons_zero ix2 ix3 ix5 ix6 ix7 Ar jq z2w".splitOn " ").toArray).mapM λs=>`(Lean.Parser.Tactic.simpLemma| $(Lean.mkIdent s.toName):ident)
 `(tactic| simp only[$ids,*])
seal SDs SD ED EA ET EW EQ QA QT QS QSs QL
def QH{N ps:List Str}{sc sd scope:Scope}{T F:List Str}(_:zn N ps sc)(h:zy sc scope T F)(e:autoParam (sd=sc) zSr):zy sd scope T F:=e▸h
def QG{p:Prop}(h:p:=by (intro cl C fp s H;walk_at "r")):p:=h
set_option hygiene false in
local macro_rules|`(tactic| walk_at "c")=>`(tactic|exact QH ds ⟨rfl,by decide +kernel,by decide +kernel,by decide +kernel,by decide +kernel,by decide +kernel⟩)
local macro_rules|`(tactic| walk_at "P")=>`(tactic|repeat' first|exact .nil|refine .cons rfl ?_)
local macro_rules|`(tactic| walk_at "l")=>`(tactic|first|exact yk aB|exact jc (xo yu (tw yu vd) (yk aB) (xo yu vd (yk aB) jd)))
local macro_rules|`(tactic| walk_at "h")=>`(tactic|first|exact yj 0|exact vg 0 1)
local macro_rules|`(tactic| walk_at "i")=>`(tactic|first|exact λcl C fp s H=>yy|exact λcl C fp s H=>T2 aR)
structure Tops(mg:Str->Option Value):Prop where
 ValueError:mg "ValueError" = none
 all:mg "all" = none
 bool:mg "bool" = none
 dict:mg "dict" = none
 enumerate:mg "enumerate" = none
 int:mg "int" = none
 isinstance:mg "isinstance" = none
 len:mg "len" = none
 list:mg "list" = none
 max:mg "max" = none
 min:mg "min" = none
 range:mg "range" = none
 reversed:mg "reversed" = none
 set:mg "set" = none
 sorted:mg "sorted" = none
 str:mg "str" = none
 sum:mg "sum" = none
 tuple:mg "tuple" = none
 zip:mg "zip" = none
variable{f:Addr}{fd:FuncData}
noncomputable def mth(i:Nat):Stmt:=Nk (top 19) i
noncomputable def fNames:List Str:=["functions","most","calls","steps","frames","tasks","ready","is_cut"]
structure Con3(K:W.Frag)(mg:Str->Option Value):Prop where
 c_MOST_CALLS:GC K mg "MOST_CALLS" (.int 20)
 c_MOST_SIZE:GC K mg "MOST_SIZE" (.int 100)
noncomputable def fL:List (Str×Nat):=[("nodes_over",35),("forms_of",31),("count_of",30),("trees_of",34),("values_of",33),("inputs_of",32),("is_price",22),("check_table",23),("shapes_of",28),("check_inputs",29),("price_of",24),("_law_table",48),("_law_turned",49),("_law_whole",47),("_law_only",50),("function_of",8),("check_args",18),("is_whole",7),("is_tree",11),("nodes_of",13),("fits",10),("size_of",12),("_law_names",39),("_law_number",38),("_law_cell_at",37),("_law_take",43),("_law_putting",40),("_law_planting",41),("_law_head",42),("_law_expression",44),("_law_body",45),("_law_program",46)]
noncomputable def mL:List (Str×Str×Nat):=[("step","Run.step",3),("own_step","Run.own_step",4),("standing","Run.standing",5),("stand","Run.stand",6),("taken","Run.taken",7),("bring","Run.bring",11),("choose","Run.choose",12),("leave","Run.leave",17),("make","Run.make",15),("follow","Run.follow",10),("behind","Run.behind",8),("begin_value","Run.begin_value",13),("begin_body","Run.begin_body",9),("enter","Run.enter",16),("apply","Run.apply",14),("go","Run.go",2),("__init__","Run.__init__",0),("told","Run.told",1)]
structure AX(K:W.Frag)(mg:Str->Option Value)(C:Addr):Prop where
 T:Tops mg
 O:CO K C fNames
 Z:Con3 K mg
 f:∀x i,(x,i)∈fL->∃f fd,Fun K x x (top i) f fd/\mg x=some (.ref f)
 m:∀x q i,(x,q,i)∈mL->∃f fd,Fun K x q (mth i) f fd/\Meth K C x f
def QB{x:Str}{ps:List Str}{k:Nat}{T:FT}(X:AX K mg C)(i:Nat)(N:List Str)(d:zn N ps (zd (top i))->∀f,QD P w K mg base x (top i) N ps k T f)(h:autoParam ((x,i)∈fL) zSd)(ds:zn N ps (zd (top i)):=by walk_at "f")(b:∀f fd,Fun K x x (top i) f fd->uj K fd ps []:=by walk_at "B"):FD P w K mg base (k+1) x ps T:=by
 obtain⟨f,fd,F,m⟩:=X.f x i h;exact v8 F ds (b f fd F) m (d ds f)
def QC{m:Str}{ps:List Str}{k:Nat}{T:FTQ}(X:AX K mg C)(a:Str)(i:Nat)(N:List Str)(d:zn N ps (zd (mth i))->∀f,QE P w K mg base a (mth i) N ps k T f)(h:autoParam ((m,a,i)∈mL) zSd)(l:autoParam (m∉fNames) zSd)(ds:zn N ps (zd (mth i)):=by walk_at "f")(b:∀f fd,Fun K m a (mth i) f fd->uj K fd ps []:=by walk_at "B"):FM P w K mg base (k+1) C fNames m ps T:=by
 obtain⟨f,fd,F,q⟩:=X.m m a i h;exact qm F ds (b f fd F) q l (d ds f)
def ix0:ixF fNames "functions" = some 0:=by decide
def ix2:ixF fNames "calls" = some 2:=by decide
def ix3:ixF fNames "steps" = some 3:=by decide
def ix4:ixF fNames "frames" = some 4:=by decide
def ix5:ixF fNames "tasks" = some 5:=by decide
def ix6:ixF fNames "ready" = some 6:=by decide
def ix7:ixF fNames "is_cut" = some 7:=by decide
structure MS where
 calls:List D
 steps:List D
 frames:List (Int×List (Str×D))
 tasks:List D
 ready:List D
 cut:Bool
noncomputable def dkD(rows:List (Str×D)):D:=.dk (rows.map λp=>Sum.inr p.1) (rows.map Prod.snd)
noncomputable def frD(p:Int×List (Str×D)):D:=.tup [.int p.1,dkD p.2]
noncomputable def msD(C:Addr)(fns:List (Str×D))(most:Int)(s:MS):D:=.ob C fNames [dkD fns,.int most,.lst s.calls,.lst s.steps,.lst (s.frames.map frD),.lst s.tasks,.lst s.ready,.bl s.cut]
noncomputable def xi(most:Int)(n:Int)(k:Str)(s:MS):Bool×MS:=if most<=s.steps.length then(false,{s with cut:=true}) else(true,{s with steps:=s.steps++[.tup [.int n,.str k]]})
def Fk1(C:Addr):FTQ:=λd S Y=>∃fns most s n k,d=msD C fns most s/\S=[.int n,.str k]/\s.steps.length<=10000/\Y (.bl (xi most n k s).1) (msD C fns most (xi most n k s).2)
def M0(X:AX K mg C):FM P w K mg base 1 C fNames "step" ["self","number","kind"] (Fk1 C):=by
 refine QC X "Run.step" 3 ["self","number","kind"] ?_;walk_at "y";refine⟨_,(yn (vo (uk (z2m (w8 X.T.len (za (vt X.O (z9 0)) zb)) (vt X.O (z9 0)))) (yn (Sj X.O yh (x5 k9))
    (yb (Si (V2 k9)))) gm)
   (yn (w6 (xf X.O yh) (x5 aR))
   (yb (Si (V2 k9))))),?_⟩
 obtain⟨fns,most,ms,n,k,rfl,rfl,d,h⟩:=hT;unfold msD at h ⊢;unfold xi at h;refine⟨rfl,rfl,rfl,rfl,λq=>⟨zaA,_,_,rfl,rfl,by decide,zaA,_,rfl,?_⟩,λq=>⟨_,_,rfl,rfl,_,_,rfl,rfl,by show ms.steps.length<=100000;lia,rfl,rfl,⟨zaA,zaA,zaA⟩,zaA,_,rfl,?_⟩⟩
 .rw[zaK (zbQ q)]at h;exact h
 rw[zaI (zeD q)]at h;exact h
noncomputable def rowG:List (Str×D)->Str->Option D
 |[],_=>none
 |p::r,z=>if p.1=z then some p.2 else rowG r z
theorem Wc(z:Str):∀rows:List (Str×D),ue (rows.map λp=>(Sum.inr p.1:Key)) (rows.map Prod.snd) (Sum.inr z)=rowG rows z
 |[]=>rfl
 |p::r=>by
  show(if (Sum.inr p.1:Key)=Sum.inr z then some p.2 else ue (r.map λp=>(Sum.inr p.1:Key)) (r.map Prod.snd) (Sum.inr z))=_
  unfold rowG;by_cases h:p.1=z
  .rw[zaK h,zaK (by rw[h])]
  rw[zaI h,zaI (λe=>h (zeR e))];exact Wc z r
def we{S:List D}{i:Int}{d:D}{Y:EV->Prop}(h:atI S i=some d)(k:Y (dv d)):sIxx (.lst S) (.int i) Y:=by
 unfold sIxx sIx1
 dsimp only
 rw[h];exact k
def Zr{S:List D}{i:Int}{d:D}{Y:EV->Prop}(h:atI S i=some d)(k:Y (dv d)):sIxx (.tup S) (.int i) Y:=by
 unfold sIxx sIx1
 dsimp only
 rw[h];exact k
def rj{a:D->D->(EV->Prop)->Prop}{ta tb:TD}{U:DE}{Y:EV->Prop}(x y:EV)(h1:∀ M:EV->Prop,M x->ta U M)(h2:∀ M:EV->Prop,M y->tb U M)(h:a x.d y.d Y):d2 a ta tb U Y:=h1 _ (h2 _ h)
def Gr{rows:List (Str×D)}{z:Str}{d:D}{Y:EV->Prop}(e:rowG rows z=some d)(h:Y (dv d)):sIxx (dkD rows) (.str z) Y:=by
 show match ue _ _ _ with|some d=>Y (dv d)|none=>False
 rw[Wc,e];exact h
theorem Y4:∀(zs:List Str)(vs:List D),zs.length=vs.length->(zs.map Sum.inr:List Key)=(zs.zip vs).map λp=>(Sum.inr p.1:Key)
 |[],_,_=>rfl
 |_::_,[],h=>by simp at h
 |z::zs,v::vs,h=>by rw[zaB,zaM,zaB,Y4 zs vs (by simpa using h)]
def tOwn(C:Addr):FTQ:=λd S Y=>∃fns most s k fs n rows,d=msD C fns most s/\S=[.str k]/\s.steps.length<=10000/\s.frames=fs++[(n,rows)]/\Y (.bl (xi most n k s).1) (msD C fns most (xi most n k s).2)
def Bf(C:Addr):FTQ:=λd S Y=>∃fns most s fs n rows,∃zs:List Str,∃vs:List D,d=msD C fns most s/\S=[.tup (zs.map D.str),.tup vs]/\s.frames=fs++[(n,rows)]/\zs.length=vs.length/\zs.length<=10/\rows.length<=900/\(rows.map Prod.fst++zs).Nodup/\y7 vs/\Y .non (msD C fns most {s with frames:=fs++[(n,rows++zs.zip vs)]})
def Bd(C:Addr):FTQ:=λd S Y=>∃fns most s,∃rs us:List D,d=msD C fns most s/\S=[.int us.length]/\s.ready=rs++us/\us≠[]/\us.length<=10/\y7 us/\y7 rs/\s.ready.length<=10000/\Y (.tup us) (msD C fns most {s with ready:=rs})
def uf(X:AX K mg C):FM P w K mg base 2 C fNames "own_step" ["self","kind"] (tOwn C):=by
 refine QC X "Run.own_step" 4 ["self","kind"] ?_;walk_at "y";refine⟨_,(yb (Si (yp X.O (M0 X) (hr.e rfl) (dt (V2 (zg hu (zg hu (vt X.O (z9 0)) (jj zc)) zc)) (y9 (z9 1) x9))))),?_⟩;obtain⟨fns,most,ms,k,fs,n,rows,rfl,rfl,a,l,h⟩:=hT;have d:ms.frames.map frD=fs.map frD++[.tup [.int n,dkD rows]]:=by rw[l,zMa];rfl
 have g:msD C fns most ms=.ob C fNames [dkD fns,.int most,.lst ms.calls,.lst ms.steps,.lst (fs.map frD++[.tup [.int n,dkD rows]]),.lst ms.tasks,.lst ms.ready,.bl ms.cut]:=by unfold msD;rw[d]
 rw[g];exact⟨_,rfl,rj (dv (.tup [.int n,dkD rows])) (dv (.int 0)) (λ_ h=>rj (dv (D.lst (fs.map frD++[D.tup [D.int n,dkD rows]]))) (dv (.int (-1))) (λ_ h=>⟨rfl,rfl,h⟩) aA (we (jq (fs.map frD) (.tup [.int n,dkD rows])) h)) aA ⟨zaA,zaA,rfl,fns,most,ms,n,k,g.symm,rfl,a,_,rfl,h⟩⟩
def Rc(X:AX K mg C):FM P w K mg base 1 C fNames "stand" ["self","names","things"] (Bf C):=by
 refine QC X "Run.stand" 6 ["self","names","things","standing"] ?_;walk_at "y";refine⟨_,(K7 3 aB ds.nd (z0e (z0e (xf X.O yh) (jj zc)) zc) (Rk X.T.dict X.T.zip aR)),?_⟩
 obtain⟨fns,most,ms,fs,n,rows,zs,vs,rfl,rfl,v,hl1,u,r,nd,k,h⟩:=hT;unfold msD at h ⊢;rw[v,zMa,zaB,zbV];have g:zs.Nodup:=(zaO.mp nd).2.1;have l:(fs.map frD++[frD (n,rows)]).length=fs.length+1:=by rw[zLa,zLm];rfl
 have d:(fs.map frD++[frD (n,rows)])[fs.length]?=some (frD (n,rows)):=by
  have:=zaF (l₁:=fs.map frD) (l₂:=[frD (n,rows)]) (i:=fs.length) (by rw[zLm];exact zaj _)
  rw[this,zLm,zeI];rfl
 have j:∀π,atQ (4::fs.length::π) (.ob C fNames [dkD fns,.int most,.lst ms.calls,.lst ms.steps,.lst (fs.map frD++[frD (n,rows)]),.lst ms.tasks,.lst ms.ready,.bl ms.cut])=atQ π (frD (n,rows)):=λπ=>by
  show(match (fs.map frD++[frD (n,rows)])[fs.length]? with|some x=>atQ π x|none=>none)=_
  rw[d]
 refine⟨_,_,rfl,rfl,_,_,_,_,fs.length,rfl,rfl,rfl,rfl,by rw[l];exact Ja _,_,_,_,_,1,rfl,j [],rfl,rfl,rfl,_,_,_,rfl,j [1],zaj 4,zs,vs,⟨.inr rfl,.inr rfl⟩,hl1,by lia,g,k,by rw[zLm,zLm];show rows.length+zs.length<=1000;lia,?_,_,rfl,?_⟩
 .have e:(rows.map λ(p:Str×D)=>(Sum.inr p.1:Key))++zs.map Sum.inr=(rows.map Prod.fst++zs).map Sum.inr:=by rw[zMa,zaV];rfl
  show((rows.map λ(p:Str×D)=>(Sum.inr p.1:Key))++zs.map Sum.inr).Nodup;rw[e];exact zfL _ (λa b h e=>h (zeR e)) nd
 have e1:(rows.map λp=>(Sum.inr p.1:Key))++zs.map Sum.inr=(rows++zs.zip vs).map λp=>(Sum.inr p.1:Key):=by
  rw[zMa];rw[Y4 zs vs hl1]
 have e2:rows.map Prod.snd++vs=(rows++zs.zip vs).map Prod.snd:=by rw[zMa,vz1 hl1]
 have y:putQ [4,fs.length,1] (.ob C fNames [dkD fns,.int most,.lst ms.calls,.lst ms.steps,.lst (fs.map frD++[frD (n,rows)]),.lst ms.tasks,.lst ms.ready,.bl ms.cut]) (.dk ((rows.map λp=>(Sum.inr p.1:Key))++zs.map Sum.inr) (rows.map Prod.snd++vs))=.ob C fNames [dkD fns,.int most,.lst ms.calls,.lst ms.steps,.lst (fs.map frD++[frD (n,rows++zs.zip vs)]),.lst ms.tasks,.lst ms.ready,.bl ms.cut]:=by
  rw[e1,e2];show D.ob C fNames [dkD fns,.int most,.lst ms.calls,.lst ms.steps,(match (fs.map frD++[frD (n,rows)])[fs.length]? with|some x=>D.lst ((fs.map frD++[frD (n,rows)]).set fs.length (putQ [1] x (dkD (rows++zs.zip vs))))|none=>.lst (fs.map frD++[frD (n,rows)])),.lst ms.tasks,.lst ms.ready,.bl ms.cut]=_
  rw[d];show D.ob C fNames [dkD fns,.int most,.lst ms.calls,.lst ms.steps,D.lst ((fs.map frD++[frD (n,rows)]).set fs.length (frD (n,rows++zs.zip vs))),.lst ms.tasks,.lst ms.ready,.bl ms.cut]=_;rw[List.set_append_right _ _ (by rw[zLm];exact zaj _),zLm,zeI]
  rfl
 have h2:=h;rw[show(fs++[(n,rows++zs.zip vs)]).map frD=fs.map frD++[frD (n,rows++zs.zip vs)] from by rw[zMa];rfl]at h2
 rw[<- y]at h2;exact h2
def qi(X:AX K mg C):FM P w K mg base 1 C fNames "taken" ["self","many"] (Bd C):=by
 refine QC X "Run.taken" 7 ["self","many","parts"] ?_;walk_at "y";refine⟨_,(yn (Ee 2 aB ds.nd (xa (vt X.O (z9 0)) (yz (jj (z9 1))) vh))
   (yn (Sj X.O yh (x5 (xa (vt X.O (z9 0)) vh (yz (jj (z9 1))))))
   (yb (Si (V2 (va X.T.tuple aR)))))),?_⟩
 obtain⟨fns,most,ms,rs,us,rfl,rfl,g,ne,hl1,a,pr,e,h⟩:=hT;unfold msD at h ⊢;rw[g];obtain⟨k,j⟩:=Mq rs us ne;walk_at "dl";rw[k,j];exact⟨a,pr,_,_,rfl,rfl,by decide,a,_,rfl,h⟩
def wf{t u:TQS}{U:DE}{Z:QZ}(a:DE)(h:∀ J:DE->Prop,J a->t U {Z with nx:=J})(h2:u a Z):qSeq t u U Z:=h _ h2
def ya{tc:TDb}{t u:TQS}{U:DE}{Z:QZ}(b:Bool)(h:∀ M:Bool->Prop,M b->tc U M)(h1:b=true->t U Z)(h2:b=false->u U Z):qIf (qT tc) t u U Z:=h _ ⟨h1,h2⟩
def cs{n m:Nat}{a b:Str}{Q:Prop}(h:Q):okD n (.str a)/\okD m (.str b)/\Q:=⟨yt▸trivial,yt▸trivial,h⟩
def cn{n m:Nat}{a b:Str}{M:Bool->Prop}(e:a≠b)(h:M false):okD n (.str a)/\okD m (.str b)/\M (eqD (.str a) (.str b)):=⟨yt▸trivial,yt▸trivial,by rw[Xe,zbN.mpr e];exact h⟩
noncomputable def vlD(e:D):D:=.tup [.str "value",e]
noncomputable def bdD(b:D):D:=.tup [.str "body",b]
def Fp(C:Addr):FTQ:=λd S Y=>∃fns most s,∃es:List D,∃t,d=msD C fns most s/\S=[.tup es,t]/\es.length<=100/\y7 es/\zw t/\s.tasks.length<=10000/\Y .non (msD C fns most {s with tasks:=s.tasks++[t]++es.reverse.map vlD})
def Hw(C:Addr):FTQ:=λd S Y=>∃fns most s fs n rows z e b rs v,d=msD C fns most s/\S=[.tup [.str "let",.str z,e,b]]/\s.frames=fs++[(n,rows)]/\s.ready=rs++[v]/\s.steps.length<=10000/\s.ready.length<=10000/\s.tasks.length<=10000/\zw e/\zw b/\zw v/\y7 rs/\rows.length<=900/\(rows.map Prod.fst++[z]).Nodup /\
 Y .non (msD C fns most (match xi most n "let" s with
  |(true,s')=>{s' with frames:=fs++[(n,rows++[(z,v)])],ready:=rs,tasks:=s.tasks++[bdD b]}
  | (false,s')=>s'))
def Po(C:Addr):FTQ:=λd S Y=>∃fns most s fs n rows e1 e2 b1 b2 rs,∃x y:Int,d=msD C fns most s/\S=[.tup [.str "less",e1,e2,b1,b2]]/\s.frames=fs++[(n,rows)]/\s.ready=rs++[.int x,.int y]/\s.steps.length<=10000/\s.ready.length<=10000/\s.tasks.length<=10000/\zw b1/\zw b2/\y7 rs /\
 Y .non (msD C fns most (match xi most n "less" s with
  |(true,s')=>{s' with ready:=rs,tasks:=s.tasks++[bdD (if x<y then b1 else b2)]}
  | (false,s')=>s'))
def Ht(C:Addr):FTQ:=λd S Y=>∃fns most s fs,∃n:Nat,∃rows nm args up rs v cl1 cl2,d=msD C fns most s/\S=[]/\s.frames=fs++[((n:Int),rows)]/\s.ready=rs++[v]/\zw v/\s.calls=cl1++[.tup [nm,args,up,.bl false,.non]]++cl2/\cl1.length=n/\zw nm/\zw args/\zw up /\
 Y .non (msD C fns most {s with frames:=fs,calls:=cl1++[.tup [nm,args,up,.bl true,v]]++cl2})
def Jl(X:AX K mg C):FM P w K mg base 3 C fNames "bring" ["self","body"] (Hw C):=by
 refine QC X "Run.bring" 11 ["self","body"] ?_;walk_at "y";refine⟨_,(yb (vo (Zj (yp X.O (uf X) (hr.e rfl) (y9 zf x9))) (yn (xn (yp X.O (Rc X) (hr.e rfl) (y9 aR (dt (yp X.O (qi X) (hr.e rfl) (y9 zc x9)) x9))))
    (yb (w6 (xf X.O yh) (x5 aR)))) gm)),?_⟩
 obtain⟨fns,most,ms,fs,n,rows,z,e,b,rs,v,rfl,rfl,l,d,hl1,j,B,D,r,k,a,g,u,h⟩:=hT;unfold msD;refine⟨_,rfl,zaA,rfl,fns,most,ms,"let",fs,n,rows,rfl,rfl,hl1,l,?_⟩;by_cases q:most<=ms.steps.length
 .have es:xi most n "let" ms=(false,{ms with cut:=true}):=by unfold xi;rw[zaK q]
  rw[es]at h ⊢;exact⟨λy=>(nomatch y),λ_=>⟨_,rfl,h⟩⟩
 have es:xi most n "let" ms=(true,{ms with steps:=ms.steps++[.tup [.int n,.str "let"]]}):=by unfold xi;rw[zaI q]
 rw[es]at h ⊢;refine⟨λ_=>⟨_,rfl,λy=>(nomatch y.1),zaA,_,rfl,zaA,rfl,fns,most,{ms with steps:=ms.steps++[.tup [.int n,.str "let"]]},rs,[v],rfl,rfl,d,nofun,zaD rfl,⟨k,zaA⟩,a,j,rfl,?_⟩,λy=>(nomatch y)⟩;refine⟨fns,most,{ms with steps:=ms.steps++[.tup [.int n,.str "let"]],ready:=rs},fs,n,rows,[z],[v],rfl,rfl,l,rfl,zaD rfl,g,u,⟨k,zaA⟩,?_⟩;exact⟨_,_,rfl,rfl,_,_,rfl,rfl,by show ms.tasks.length<=100000;lia,rfl,rfl,⟨zaA,r,zaA⟩,_,rfl,h⟩
def M3(X:AX K mg C):FM P w K mg base 3 C fNames "choose" ["self","body"] (Po C):=by
 refine QC X "Run.choose" 12 ["self","body","compared"] ?_;walk_at "y";refine⟨_,(yb (vo (Zj (yp X.O (uf X) (hr.e rfl) (y9 zf x9))) (yn (jw 2 aB ds.nd (yp X.O (qi X) (hr.e rfl) (y9 zc x9)))
    (yb (w6 (xf X.O yh) (x5 (zh (za zf (za (jl aR aR aR) zb))))))) gm)),?_⟩
 obtain⟨fns,most,ms,fs,n,rows,e1,e2,b1,b2,rs,x,y,rfl,rfl,r,d,hl1,g,l,j,p2,a,h⟩:=hT;unfold msD;refine⟨_,rfl,zaA,rfl,fns,most,ms,"less",fs,n,rows,rfl,rfl,hl1,r,?_⟩;by_cases q:most<=ms.steps.length
 .have es:xi most n "less" ms=(false,{ms with cut:=true}):=by unfold xi;rw[zaK q]
  rw[es]at h ⊢;exact⟨λy=>(nomatch y),λ_=>⟨_,rfl,h⟩⟩
 have es:xi most n "less" ms=(true,{ms with steps:=ms.steps++[.tup [.int n,.str "less"]]}):=by unfold xi;rw[zaI q]
 rw[es]at h ⊢;refine⟨λ_=>⟨_,rfl,zaA,rfl,fns,most,{ms with steps:=ms.steps++[.tup [.int n,.str "less"]]},rs,[.int x,.int y],rfl,rfl,d,nofun,zaD rfl,⟨zaA,zaA,zaA⟩,a,g,?_⟩,λy=>(nomatch y)⟩;refine⟨_,_,rfl,rfl,_,_,rfl,rfl,by show ms.tasks.length<=100000;lia,?_⟩
 refine⟨λq=>⟨rfl,rfl,⟨zaA,j,zaA⟩,_,rfl,?_⟩,λq=>⟨rfl,rfl,⟨zaA,p2,zaA⟩,_,rfl,?_⟩⟩
 .rw[zaK (zbQ q)]at h;exact h
 rw[zaI (zeD q)]at h;exact h
def Jk(X:AX K mg C):FM P w K mg base 1 C fNames "leave" ["self"] (Ht C):=by
 refine QC X "Run.leave" 17 ["self","frame"] ?_;walk_at "y";refine⟨_,(yn (uo (W5 1 aB ds.nd (xf X.O yh)))
   (yb (uo (Eg (xf X.O yh) aR (yx (xa (zg hu (vt X.O (z9 0)) aR) vh aR) (zh (za k9 (za (zg hu (vt X.O (z9 0)) (jj zc)) zb)))))))),?_⟩
 obtain⟨fns,most,ms,fs,n,rows,e,a,up,rs,v,d,cl2,rfl,rfl,x,g,k,z,r,q,p2,l,h⟩:=hT;have j:ms.frames.map frD=fs.map frD++[frD ((n:Int),rows)]:=by rw[x,zMa];rfl
 have I:msD C fns most ms=.ob C fNames [dkD fns,.int most,.lst (d++[.tup [e,a,up,.bl false,.non]]++cl2),.lst ms.steps,.lst (fs.map frD++[frD ((n:Int),rows)]),.lst ms.tasks,.lst (rs++[v]),.bl ms.cut]:=by unfold msD;rw[j,z,g]
 rw[I];refine wz (λU=>U=[q_ (.ob C fNames [dkD fns,.int most,.lst (d++[.tup [e,a,up,.bl false,.non]]++cl2),.lst ms.steps,.lst (fs.map frD),.lst ms.tasks,.lst (rs++[v]),.bl ms.cut]),q_ (frD ((n:Int),rows))]) ?_ ?_
 .refine⟨_,_,rfl,rfl,_,_,frD ((n:Int),rows),rfl,rfl,?_,?_⟩
  .rw[zLa];show(fs.map frD++[frD ((n:Int),rows)])[(fs.map frD).length+1-1]?=_;rw[Nat.add_sub_cancel,zaF (zaj _),zeI];rfl
  rw[List.dropLast_concat];rfl
 rintro _ rfl;have B:atI (d++[D.tup [e,a,up,.bl false,.non]]++cl2) (n:Int)=some (.tup [e,a,up,.bl false,.non]):=uu aD (by
  rw[show((n:Int)).toNat=d.length from by lia,zcG,zaF (zaj _),zeI]
  rfl)
 simp only[frD];refine⟨λU=>∃d',slot U 0=q_ d'/\Y .non d',?_,λ_ y=>y⟩;walk_at "dl";simp only[B,jq];have G:cutD [e,a,up,D.bl false,D.non] none (some 3)=[e,a,up]:=rfl;rw[G];refine⟨λy=>absurd y.2 (by unfold ZZ.sIx;simp),by simp,by rw[zbC];show 5<=_;decide,⟨q,p2,l,zaA,k,zaA⟩,_,_,rfl,rfl,_,_,_,n,rfl,rfl,rfl,?_,_,rfl,?_⟩
 .unfold ixN;rw[zaK aD,zaK (by rw[zLa,zLa];simp;lia)]
  rfl
 have es:(d++[D.tup [e,a,up,.bl false,.non]]++cl2).set n (.tup ([e,a,up]++[D.bl true,v]))=d++[.tup [e,a,up,.bl true,v]]++cl2:=by
  rw[zcG,List.set_append_right _ _ aD,r,zeI,zcG]
  rfl
 unfold msD at h;simp only[g]at h;rw[es];exact h
variable{R:Str->D->Int->Prop}
def Pl(R:Str->D->Int->Prop):FT:=g2 λa b Y=>∃sh v n,a=.str sh/\b=v/\R sh v n/\Y (dv (.int n))
def Y91(C:Addr)(R:Str->D->Int->Prop):FTQ:=λd S Y=>∃fns most s fs n rows sh v sz,d=msD C fns most s/\S=[.str sh,v]/\s.frames=fs++[(n,rows)]/\s.steps.length<=10000/\s.ready.length<=10000/\zw v/\R sh v sz /\
 Y .non (msD C fns most (if 100<sz then {s with cut:=true} else match xi most n "make" s with
  |(true,s')=>{s' with ready:=s.ready++[v]}
  | (false,s')=>s'))
def C8(X:AX K mg C)(a:FD P w K mg base 5 "size_of" ["shape","value"] (Pl R)):FM P w K mg base 6 C fNames "make" ["self","shape","thing"] (Y91 C R):=by
 refine QC X "Run.make" 15 ["self","shape","thing"] ?_;walk_at "y";refine⟨_,(yb (vo (uk (Uz (y8 a (hr.e rfl) aR) (gc X.Z.c_MOST_SIZE))) (yb (Sj X.O yh (x5 k9))) (yb (vo (Zj (yp X.O (uf X) (hr.e rfl) (y9 zf x9))) (yb (w6 (xf X.O yh) (x5 (z9 2)))) gm)))),?_⟩;obtain⟨fns,most,ms,fs,n,rows,g,v,sz,rfl,rfl,l,hl1,k,d,r,h⟩:=hT;unfold msD;refine⟨rfl,g,v,sz,rfl,rfl,r,λq=>⟨zaA,_,_,rfl,rfl,by decide,_,rfl,?_⟩,λq=>⟨_,rfl,zaA,rfl,fns,most,ms,"make",fs,n,rows,rfl,rfl,hl1,l,?_⟩⟩
 .rw[zaK (zbQ q)]at h;exact h
 rw[zaI (zeD q)]at h;have u:frs2 (dv v):=by
  cases v <;> first|exact d|exact d.elim
 by_cases q2:most<=ms.steps.length
 .have es:xi most n "make" ms=(false,{ms with cut:=true}):=by unfold xi;rw[zaK q2]
  rw[es]at h ⊢;exact⟨λy=>(nomatch y),λ_=>⟨_,rfl,h⟩⟩
 have es:xi most n "make" ms=(true,{ms with steps:=ms.steps++[.tup [.int n,.str "make"]]}):=by unfold xi;rw[zaI q2]
 rw[es]at h ⊢;exact⟨λ_=>⟨_,_,rfl,rfl,_,_,rfl,rfl,by show ms.ready.length<=100000;lia,u,_,rfl,h⟩,λy=>(nomatch y)⟩
def Mo(v:D)(r:List D):ZZ.cutD (v::r) (some 1) none=r:=by
 unfold ZZ.cutD;simp[ZZ.sIx]
def Yb(C:Addr):FTQ:=λd S Y=>∃fns most s fs n rows,∃kd x:Str,∃b1 b2,d=msD C fns most s/\s.frames=fs++[(n,rows)]/\s.tasks.length<=10000/\zw b1/\zw b2/\rows.length<=900 /\
 ((∃bs th,S=[.tup (.str kd::.str x::b1::bs),th]/\(th=.non\/th=.tup [])/\Y .non (msD C fns most {s with tasks:=s.tasks++[bdD b1]})) \/
  (∃h t:Str,∃v r,S=[.tup [.str "list",.str x,b1,.str h,.str t,b2],.tup (v::r)]/\okD 150 (.tup (v::r))/\zw v/\y7 r/\(rows.map Prod.fst++[h,t]).Nodup/\Y .non (msD C fns most {s with frames:=fs++[(n,rows++[(h,v),(t,.tup r)])],tasks:=s.tasks++[bdD b2]})) \/
  (∃l m r:Str,∃v1 v2 v3,S=[.tup [.str "tree",.str x,b1,.str l,.str m,.str r,b2],.tup [v1,v2,v3]]/\okD 150 (.tup [v1,v2,v3])/\zw v1/\zw v2/\zw v3/\(rows.map Prod.fst++[l,m,r]).Nodup/\Y .non (msD C fns most {s with frames:=fs++[(n,rows++[(l,v1),(m,v2),(r,v3)])],tasks:=s.tasks++[bdD b2]})))
def M2(X:AX K mg C):FM P w K mg base 2 C fNames "follow" ["self","body","thing"] (Yb C):=by
 refine QC X "Run.follow" 10 ["self","body","thing","parts"] ?_;walk_at "y";refine⟨_,(yn (vo (uk (EW.et (Z7 (Cg (z9 2) ug) (b9 (z2n (ZZ.Room.far hr) (z9 2) aR))))) (yn (w6 (xf X.O yh) (x5 aR))
    (yb Ef)) gm)
   (yn (Sg 3 aB ds.nd (jl aR aR (z9 2)))
   (yn (xn (yp X.O (Rc X) (hr.e rfl) (y9 (xa (z9 1) aR (yz (jj zc))) (y9 (z9 3) x9))))
   (yb (w6 (xf X.O yh) (x5 (zh (za zf (za (zg hu (z9 1) (jj zc)) zb))))))))),?_⟩
 obtain⟨fns,most,ms,fs,n,rows,Z,x,b1,b2,rfl,B,hl1,Q,p2,g,h⟩:=hT;unfold msD;have d:okD 150 (.tup []):=by intro x h;cases h
 rcases h with⟨bs,th,rfl,R,h⟩|⟨k,j,v,r,rfl,ok,N,pr,nd,h⟩|⟨k,j,D,L,I,G,rfl,ok,u,q,l,nd,h⟩
 .refine ya true (λM a=>?_) (λ_=>?_) nofun
  .rcases R with rfl|rfl
   .exact⟨λ_=>a,nofun⟩
   exact⟨nofun,λ_=>⟨rfl,rfl,d,d,a⟩⟩
  walk_at "dl";exact⟨_,_,rfl,rfl,_,_,rfl,rfl,by show ms.tasks.length<=100000;lia,⟨zaA,Q,zaA⟩,_,rfl,h⟩
 .refine wf [_,_,_,none] (λJ z=>ya false (λM a=>⟨nofun,λ_=>⟨rfl,rfl,ok,d,a⟩⟩) nofun λ_=>z) ?_;refine wf [q_ (msD C fns most ms),q_ (.tup [.str "list",.str x,b1,.str k,.str j,b2]),q_ (.tup (v::r)),q_ (.tup [v,.tup r])] (λJ z=>?_) ?_
  .refine cs ⟨λ_=>?_,nofun⟩;walk_at "dl";have W:ZZ.cutD (v::r) (some 1) none=r:=Mo v r;rw[W];exact⟨λy=>absurd y.1 (by unfold ZZ.sIx;simp),z⟩
  refine⟨_,rfl,λy=>(nomatch y.1),zaA,zaA,rfl,fns,most,ms,fs,n,rows,[k,j],[v,.tup r],rfl,rfl,B,rfl,zaD rfl,g,nd,⟨N,pr,zaA⟩,?_⟩;exact⟨_,_,rfl,rfl,_,_,rfl,rfl,by show ms.tasks.length<=100000;lia,rfl,rfl,⟨zaA,p2,zaA⟩,_,rfl,h⟩
 refine ya false (λM a=>⟨nofun,λ_=>⟨rfl,rfl,ok,d,a⟩⟩) nofun (λ_=>?_);refine cs ⟨nofun,λ_=>⟨zaA,_,rfl,λy=>(nomatch y.1),zaA,zaA,rfl,fns,most,ms,fs,n,rows,[k,j,D],[L,I,G],rfl,rfl,B,rfl,zaD rfl,g,nd,⟨u,q,l,zaA⟩,?_⟩⟩;exact⟨_,_,rfl,rfl,_,_,rfl,rfl,by show ms.tasks.length<=100000;lia,rfl,rfl,⟨zaA,p2,zaA⟩,_,rfl,h⟩
def cx{v:D}(a:zw v):frs2 (dv v):=by
 cases v <;> first|exact a|exact a.elim
def jf(X:AX K mg C):FM P w K mg base 1 C fNames "behind" ["self","parts","task"] (Fp C):=by
 refine QC X "Run.behind" 8 ["self","parts","task"] ?_;walk_at "y";refine⟨_,(yn (uo (w6 (xf X.O yh) (x5 (z9 2))))
   (yb (uo (Eh (xf X.O yh) (wj (.mk ["part"] [] [] (V3 X.T.reversed aR) QG)))))),?_⟩
 obtain⟨fns,most,ms,es,t,rfl,rfl,hl1,e,pt,l,h⟩:=hT;have ft:frs2 (dv t):=cx pt;refine wz (λU=>U=[q_ (msD C fns most {ms with tasks:=ms.tasks++[t]}),q_ (.tup es),q_ t]) ?_ ?_
 .unfold msD;exact⟨_,_,rfl,rfl,_,_,rfl,rfl,by show ms.tasks.length<=100000;lia,ft,rfl⟩
 rintro _ rfl;refine⟨λU=>∃d',slot U 0=q_ d'/\Y .non d',?_,λ_ y=>y⟩;unfold msD;simp only[Ek,pFld,D9,slot,List.getElem?_cons_zero,ix5];refine⟨_,_,rfl,rfl,_,_,rfl,rfl,by show(ms.tasks++[t]).length<=100000;rw[zLa];simp;lia,?_⟩
 refine x3 es.reverse ?_ (λd=>some (vlD d)) (by rw[zaJ];lia) ?_ ?_
 .intro M a;unfold iBT;exact⟨zaA,a⟩
 .intro d r;exact⟨λ_=>⟨rfl,rfl,zaA,rfl⟩,nofun⟩
 have q:es.reverse.filterMap (λd=>some (vlD d))=es.reverse.map vlD:=by rw[<- zcZ];rfl
 rw[q];refine⟨?_,by rw[zLm,zaJ];lia,_,rfl,?_⟩
 .refine yi.mpr λx j=>?_;obtain⟨y,g,rfl⟩:=zah.mp j;exact⟨zaA,yi.mp e y (List.mem_reverse.mp g),zaA⟩
 exact h
def Fl(C:Addr):FT:=λS Y=>∃fns most s z fs n rows v,S=[msD C fns most s,.str z]/\s.frames=fs++[(n,rows)]/\rowG rows z=some v/\zw v/\Y (dv v)
def gp(X:AX K mg C):FMD P w K mg base 1 C fNames "standing" ["self","name"] (Fl C):=by
 obtain⟨f,fd,F,e⟩:=X.m "standing" "Run.standing" 5 aB
 have ds:zn ["self","name"] ["self","name"] (zd (mth 5)):=by walk_at "f"
 refine z2j F ds (F.binds (by walk_at "3")) e aB λqZ A outer s H xs S Y hr hl hT=>?_
 have hu:=hr.units;refine⟨_,(zm (yg (zg hu (zg hu (zg hu (vt X.O (z9 0)) (jj zc)) zc) (z9 1)))),?_⟩;obtain⟨fns,most,ms,z,fs,n,rows,v,rfl,g,d,a,h⟩:=hT;unfold msD;rw[g,zMa,zaB,zbV];exact rj (dv (dkD rows)) (dv (.str z)) (λ_ h=>rj (dv (frD (n,rows))) (dv (.int 1)) (λ_ h=>rj (dv (.lst (fs.map frD++[frD (n,rows)]))) (dv (.int (-1))) (λ_ h=>⟨rfl,rfl,h⟩) aA (we (jq _ _) h)) aA h) aA (Gr d ⟨a,h⟩)
noncomputable def apD(e:D):D:=.tup [.str "apply",e]
def tVal(C:Addr):FTQ:=λd S Y=>∃fns most s,d=msD C fns most s/\s.tasks.length<=10000/\s.ready.length<=10000 /\
 ((∃v,S=[.tup [.str "num",v]]/\zw v/\Y .non (msD C fns most {s with ready:=s.ready++[v]})) \/
  (∃fs n rows z v,S=[.tup [.str "var",.str z]]/\s.frames=fs++[(n,rows)]/\rowG rows z=some v/\zw v/\Y .non (msD C fns most {s with ready:=s.ready++[v]})) \/
  (S=[.tup [.str "nil"]]/\Y .non (msD C fns most {s with ready:=s.ready++[.tup []]})) \/
  (S=[.tup [.str "leaf"]]/\Y .non (msD C fns most {s with ready:=s.ready++[.non]})) \/
  (∃f es,S=[.tup [.str "call",f,.tup es]]/\es.length<=100/\zw f/\y7 es/\Y .non (msD C fns most {s with tasks:=s.tasks++[apD (.tup [.str "call",f,.tup es])]++es.reverse.map vlD})) \/
  (∃kd:Str,∃es,S=[.tup (.str kd::es)]/\(kd = "cons"\/kd = "node"\/kd = "add"\/kd = "sub")/\es.length<=100/\y7 es/\Y .non (msD C fns most {s with tasks:=s.tasks++[apD (.tup (.str kd::es))]++es.reverse.map vlD})))
def Xw{d:D}{S:List D}{Y M:D->D->Prop}(h:Yb C d S Y)(k:∀ d,Y .non d->M .non d):Yb C d S M:=by
 obtain⟨fns,most,ms,fs,n,rows,N,x,b1,b2,e,Q,hl1,L,p2,y,h⟩:=h;refine⟨fns,most,ms,fs,n,rows,N,x,b1,b2,e,Q,hl1,L,p2,y,?_⟩;rcases h with⟨bs,th,e,O,h⟩|⟨g,a,v,r,e,ok,J,pr,u,h⟩|⟨g,a,z,I,G,B,e,ok,q,l,j,u,h⟩
 .exact .inl ⟨bs,th,e,O,k _ h⟩
 .exact .inr (.inl ⟨g,a,v,r,e,ok,J,pr,u,k _ h⟩)
 exact .inr (.inr ⟨g,a,z,I,G,B,e,ok,q,l,j,u,k _ h⟩)
noncomputable def brD(b:D):D:=.tup [.str "bring",b]
noncomputable def chD(b:D):D:=.tup [.str "choose",b]
def Bw(C:Addr):FTQ:=λd S Y=>∃fns most s,d=msD C fns most s/\s.tasks.length<=10000 /\
 ((∃e,S=[.tup [.str "give",e]]/\zw e/\Y .non (msD C fns most {s with tasks:=s.tasks++[vlD e]})) \/
  (∃z e b,S=[.tup [.str "let",z,e,b]]/\zw z/\zw e/\zw b/\Y .non (msD C fns most {s with tasks:=s.tasks++[brD (.tup [.str "let",z,e,b])]++[vlD e]})) \/
  (∃e1 e2 b1 b2,S=[.tup [.str "less",e1,e2,b1,b2]]/\zw e1/\zw e2/\zw b1/\zw b2/\Y .non (msD C fns most {s with tasks:=s.tasks++[chD (.tup [.str "less",e1,e2,b1,b2])]++[vlD e2,vlD e1]})) \/
  (∃kd x:Str,∃bs fs n rows th,S=[.tup (.str kd::.str x::bs)]/\(kd = "list"\/kd = "tree")/\s.frames=fs++[(n,rows)]/\s.steps.length<=10000/\rowG rows x=some th/\zw th /\
    (match xi most n "open" s with
   |(true,s')=>Yb C (msD C fns most s') [.tup (.str kd::.str x::bs),th] Y
   | (false,s')=>Y .non (msD C fns most s'))))
def Z3(X:AX K mg C):FM P w K mg base 2 C fNames "begin_value" ["self","expression"] (tVal C):=by
 refine QC X "Run.begin_value" 13 ["self","expression","kind"] ?_;walk_at "y";refine⟨_,(yn (Sg 2 aB ds.nd aR)
   (yb (vo (uk aR) (yb (w6 (xf X.O yh) (x5 aR))) (yb (vo (uk aR) (yb (w6 (xf X.O yh) (x5 (Mf X.O (gp X) (hr.e rfl) (z9 0) aR)))) (yb (vo (uk aR) (yb (w6 (xf X.O yh) (x5 aR))) (yb (vo (uk aR) (yb (w6 (xf X.O yh) (x5 ug))) (yb (vo (uk aR) (yb (xn (yp X.O (jf X) (hr.e rfl) (y9 aR (y9 aR x9))))) (yb (xn (yp X.O (jf X) (hr.e rfl) (y9 aR (y9 aR x9)))))))))))))))),?_⟩
 obtain⟨fns,most,ms,rfl,hl1,x,h⟩:=hT;unfold msD;rcases h with⟨v,rfl,l,h⟩|⟨fs,n,rows,z,v,rfl,D,r,l,h⟩|⟨rfl,h⟩|⟨rfl,h⟩|⟨G,es,rfl,d,q,j,h⟩|⟨g,es,rfl,B,d,j,h⟩
 .refine wf [_,_,q_ (.str _)] (λJ a=>⟨zaA,a⟩) (ya true (λ_=>cs) (λ_=>?_) nofun);exact⟨_,_,rfl,rfl,_,_,rfl,rfl,by show ms.ready.length<=100000;lia,cx l,_,rfl,h⟩
 .refine wf [_,_,q_ (.str _)] (λJ a=>⟨zaA,a⟩) (ya false (λ_=>cs) nofun λ_=>ya true (λ_=>cs) (λ_=>?_) nofun);exact⟨_,_,rfl,rfl,_,_,rfl,rfl,by show ms.ready.length<=100000;lia,⟨_,rfl⟩,rfl,fns,most,ms,z,fs,n,rows,v,rfl,D,r,l,cx l,_,rfl,h⟩
 .refine wf [_,_,q_ (.str _)] (λJ a=>⟨zaA,a⟩) (ya false (λ_=>cs) nofun λ_=>ya false (λ_=>cs) nofun λ_=>ya true (λ_=>cs) (λ_=>?_) nofun);exact⟨_,_,rfl,rfl,_,_,rfl,rfl,by show ms.ready.length<=100000;lia,rfl,rfl,zaA,_,rfl,h⟩
 .refine wf [_,_,q_ (.str _)] (λJ a=>⟨zaA,a⟩) (ya false (λ_=>cs) nofun λ_=>ya false (λ_=>cs) nofun λ_=>ya false (λ_=>cs) nofun λ_=>ya true (λ_=>cs) (λ_=>?_) nofun);exact⟨_,_,rfl,rfl,_,_,rfl,rfl,by show ms.ready.length<=100000;lia,zaA,_,rfl,h⟩
 .refine wf [_,_,q_ (.str _)] (λJ a=>⟨zaA,a⟩) (ya false (λ_=>cs) nofun λ_=>ya false (λ_=>cs) nofun λ_=>ya false (λ_=>cs) nofun λ_=>ya false (λ_=>cs) nofun λ_=>ya true (λ_=>cs) (λ_=>?_) nofun);exact⟨_,rfl,zaA,rfl,rfl,zaA,rfl,fns,most,ms,es,apD _,rfl,rfl,d,j,⟨zaA,⟨zaA,q,j,zaA⟩,zaA⟩,hl1,_,rfl,h⟩
 have k:g≠"num"/\g≠"var"/\g≠"nil"/\g≠"leaf"/\g≠"call":=by rcases B with rfl|rfl|rfl|rfl <;> decide
 refine wf [_,_,q_ (.str _)] (λJ a=>rj (dv (.tup (.str g::es))) (dv (.int 0)) aA aA (Zr (at_0 _ _) ⟨zaA,a⟩)) (ya false (λ_=>cn k.1) nofun λ_=>ya false (λ_=>cn k.2.1) nofun λ_=>ya false (λ_=>cn k.2.2.1) nofun λ_=>ya false (λ_=>cn k.2.2.2.1) nofun λ_=>ya false (λ_=>cn k.2.2.2.2) nofun λ_=>?_);walk_at "dl";rw[Mo];refine⟨_,rfl,⟨λy=>absurd y.1 (by unfold ZZ.sIx;simp),?_⟩⟩
 refine⟨fns,most,ms,es,apD _,rfl,rfl,d,j,⟨zaA,⟨zaA,j⟩,zaA⟩,hl1,?_⟩;exact⟨_,rfl,h⟩
def X7(X:AX K mg C):FM P w K mg base 3 C fNames "begin_body" ["self","body"] (Bw C):=by
 refine QC X "Run.begin_body" 9 ["self","body","kind"] ?_;walk_at "y";refine⟨_,(yn (Sg 2 aB ds.nd aR)
   (yb (vo (uk aR) (yb (w6 (xf X.O yh) (x5 aR))) (yb (vo (uk aR) (yb (xn (yp X.O (jf X) (hr.e rfl) (y9 aR (y9 aR x9))))) (yb (vo (uk aR) (yb (xn (yp X.O (jf X) (hr.e rfl) (y9 aR (y9 aR x9))))) (yb (vo (Zj (yp X.O (uf X) (hr.e rfl) (y9 zf x9))) (yb (xn (yp X.O (M2 X) (hr.e rfl) (y9 (z9 1) (dt (V2 (Mf X.O (gp X) (hr.e rfl) (z9 0) aR)) x9))))) gm))))))))),?_⟩
 obtain⟨fns,most,ms,rfl,hl1,h⟩:=hT;unfold msD;rcases h with⟨v,rfl,g,h⟩|⟨z,e,b,rfl,j,p2,k,h⟩|⟨e1,e2,b1,b2,rfl,j,p2,k,D,h⟩|⟨l,x,bs,fs,n,rows,th,rfl,L,B,u,G,g,h⟩
 .refine wf [_,_,q_ (.str _)] (λJ a=>⟨zaA,a⟩) (ya true (λ_=>cs) (λ_=>?_) nofun);exact⟨_,_,rfl,rfl,_,_,rfl,rfl,by show ms.tasks.length<=100000;lia,rfl,rfl,⟨zaA,g,zaA⟩,_,rfl,h⟩
 .refine wf [_,_,q_ (.str _)] (λJ a=>⟨zaA,a⟩) (ya false (λ_=>cs) nofun λ_=>ya true (λ_=>cs) (λ_=>?_) nofun);exact⟨_,rfl,λy=>(nomatch y.1),zaA,rfl,rfl,zaA,rfl,fns,most,ms,[e],brD _,rfl,rfl,zaD rfl,⟨p2,zaA⟩,⟨zaA,⟨zaA,j,p2,k,zaA⟩,zaA⟩,hl1,_,rfl,h⟩
 .refine wf [_,_,q_ (.str _)] (λJ a=>⟨zaA,a⟩) (ya false (λ_=>cs) nofun λ_=>ya false (λ_=>cs) nofun λ_=>ya true (λ_=>cs) (λ_=>?_) nofun);exact⟨_,rfl,λy=>(nomatch y.1),zaA,rfl,rfl,zaA,rfl,fns,most,ms,[e1,e2],chD _,rfl,rfl,zaD rfl,⟨j,p2,zaA⟩,⟨zaA,⟨zaA,j,p2,k,D,zaA⟩,zaA⟩,hl1,_,rfl,h⟩
 have r:l≠"give"/\l≠"let"/\l≠"less":=by rcases L with rfl|rfl <;> decide
 refine wf [_,_,q_ (.str _)] (λJ a=>by walk_at "dl";exact a) (ya false (λ_=>cn r.1) nofun λ_=>ya false (λ_=>cn r.2.1) nofun λ_=>ya false (λ_=>cn r.2.2) nofun λ_=>?_)
 walk_at "dl";refine⟨_,rfl,fns,most,ms,"open",fs,n,rows,rfl,rfl,u,B,?_⟩;by_cases q:most<=ms.steps.length
 .have es:xi most n "open" ms=(false,{ms with cut:=true}):=by unfold xi;rw[zaK q]
  rw[es]at h ⊢;exact⟨λy=>(nomatch y),λ_=>⟨_,rfl,h⟩⟩
 have es:xi most n "open" ms=(true,{ms with steps:=ms.steps++[.tup [.int n,.str "open"]]}):=by unfold xi;rw[zaI q]
 rw[es]at h ⊢;refine⟨λ_=>?_,λy=>(nomatch y)⟩;refine⟨_,rfl,⟨_,rfl⟩,fns,most,{ms with steps:=ms.steps++[.tup [.int n,.str "open"]]},x,fs,n,rows,th,rfl,B,G,g,g,?_⟩;exact Xw h λd M=>⟨_,rfl,M⟩
noncomputable def pmD(ps:List (Str×D)):D:=.tup (ps.map λp=>.tup [.str p.1,p.2])
noncomputable def upD(fs:List (Int×List (Str×D))):D:=match fs.getLast? with
 |some p=>.int p.1
 |none=>.non
noncomputable def ji(most:Int)(a:Str)(as:List D)(ps:List (Str×D))(b:D)(s:MS):MS:=if 20<=s.frames.length then {s with cut:=true} else match xi most s.calls.length "call" s with
 |(true,s')=>{s' with calls:=s.calls++[.tup [.str a,.tup as,upD s.frames,.bl false,.non]],frames:=s.frames++[((s.calls.length:Int),(ps.map Prod.fst).zip as)],tasks:=s.tasks++[.tup [.str "leave"]]++[bdD b]}
 |(false,s')=>s'
def Ts(C:Addr):FTQ:=λd S Y=>∃fns most s,∃nm:Str,∃as:List D,∃n0 ps sz b,d=msD C fns most s/\S=[.str nm,.tup as]/\rowG fns nm=some (.tup [n0,pmD ps,sz,b])/\zw n0/\y7 (ps.map Prod.snd)/\zw sz/\zw b/\y7 as/\ps.length=as.length/\as.length<=10/\(ps.map Prod.fst).Nodup/\s.steps.length<=10000/\s.calls.length<=10000/\s.tasks.length<=10000 /\
 Y .non (msD C fns most (ji most nm as ps b s))
def Pp(C:Addr)(R:Str->D->Int->Prop):FTQ:=λd S Y=>∃fns most s rs,d=msD C fns most s/\s.ready.length<=10000/\y7 rs /\
 ((∃nm:Str,∃es us,S=[.tup [.str "call",.str nm,.tup es]]/\s.ready=rs++us/\us.length=es.length/\us≠[]/\us.length<=10/\y7 us/\Ts C (msD C fns most {s with ready:=rs}) [.str nm,.tup us] Y) \/
  (∃e1 e2 v r,S=[.tup [.str "cons",e1,e2]]/\s.ready=rs++[v,.tup r]/\zw v/\y7 r/\r.length<=10000/\Y91 C R (msD C fns most {s with ready:=rs}) [.str "list",.tup (v::r)] Y) \/
  (∃e1 e2 e3 v1 v2 v3,S=[.tup [.str "node",e1,e2,e3]]/\s.ready=rs++[v1,v2,v3]/\zw v1/\zw v2/\zw v3/\Y91 C R (msD C fns most {s with ready:=rs}) [.str "tree",.tup [v1,v2,v3]] Y) \/
  (∃(kd:Str),∃e1 e2,∃x y:Int,∃fs n rows,S=[.tup [.str kd,e1,e2]]/\(kd = "add"\/kd = "sub")/\s.frames=fs++[(n,rows)]/\s.steps.length<=10000/\s.ready=rs++[.int x,.int y] /\
    Y .non (msD C fns most (match xi most n "sum" s with
   |(true,s')=>{s' with ready:=rs++[.int (if kd = "add" then x+y else x-y)]}
   | (false,s')=>s'))))
def Vs{d:D}{S:List D}{Y M:D->D->Prop}(h:Ts C d S Y)(k:∀ d,Y .non d->M .non d):Ts C d S M:=by
 obtain⟨fns,most,s,q,as,r,ps,sz,b,h1,h2,G,B,z,y,x,v,u,l,j,g,e,a,h⟩:=h;exact⟨fns,most,s,q,as,r,ps,sz,b,h1,h2,G,B,z,y,x,v,u,l,j,g,e,a,k _ h⟩
def Zd{d:D}{S:List D}{Y M:D->D->Prop}(h:Y91 C R d S Y)(k:∀ d,Y .non d->M .non d):Y91 C R d S M:=by
 obtain⟨fns,most,s,fs,n,rows,a,v,sz,h1,h2,q,l,j,g,e,h⟩:=h;exact⟨fns,most,s,fs,n,rows,a,v,sz,h1,h2,q,l,j,g,e,k _ h⟩
def Re(X:AX K mg C):FM P w K mg base 2 C fNames "enter" ["self","name","args"] (Ts C):=by
 refine QC X "Run.enter" 16 ["self","name","args","number","up","function"] ?_;walk_at "y";refine⟨_,(yn (jw 3 aB ds.nd (V2 (w8 X.T.len (za (vt X.O (z9 0)) zb))))
   (yb (vo (uk (z2m (w8 X.T.len (za (vt X.O (z9 0)) zb)) (gc X.Z.c_MOST_CALLS))) (yb (Sj X.O yh (x5 k9))) (yb (vo (Zj (yp X.O (M0 X) (hr.e rfl) (y9 (z9 3) (y9 zf x9)))) (yn (uo (jw 4 aB ds.nd (V2 (jl (si (vt X.O (z9 0))) (zg hu (zg hu (vt X.O (z9 0)) (jj zc)) zc) ug))))
     (yn (jw 5 aB ds.nd (V2 (zg hu (vt X.O (z9 0)) (z9 1))))
     (yn (w6 (xf X.O yh) (x5 aR))
     (yn (w6 (xf X.O yh) (z2s (Ri (x5 (z9 3)) (Ri (x5 (Rk X.T.dict X.T.zip (za (wj (.mk ["param","shape"] [] [] (xc aR) (λcl C fp s H=>(z9 0)))) aR))) Ci))))
     (yn (w6 (xf X.O yh) (x5 aR))
     (yb (w6 (xf X.O yh) (x5 aR)))))))) gm))))),?_⟩
 obtain⟨fns,most,ms,B,as,N,ps,sz,b,rfl,rfl,W,L,p2,J,v,u,hl,V,nd,r,l,k,h⟩:=hT;refine⟨rfl,rfl,zaA,?_⟩;unfold ji at h;refine⟨rfl,rfl,λq=>?_,λq=>?_⟩
 .rw[zaK (by have z:=zbQ q;rw[zLm]at z;lia)]at h
  exact⟨zaA,_,_,rfl,rfl,by decide,_,rfl,h⟩
 have q:¬ 20<=ms.frames.length:=by have z:=zeD q;rw[zLm]at z;lia
 rw[zaI q]at h;refine⟨_,rfl,zaA,zaA,rfl,fns,most,ms,ms.calls.length,"call",rfl,rfl,r,?_⟩;unfold xi at h ⊢;by_cases q2:most<=ms.steps.length
 .rw[zaK q2]at h ⊢;exact⟨λy=>(nomatch y),λ_=>⟨_,rfl,h⟩⟩
 rw[zaI q2]at h ⊢;refine⟨λ_=>?_,λy=>(nomatch y)⟩;generalize ms.steps++[.tup [.int ms.calls.length,.str "call"]]=st at h ⊢;refine wz (λU=>U=[q_ (msD C fns most {ms with steps:=st}),q_ (.str B),q_ (.tup as),q_ (.int ms.calls.length),q_ (upD ms.frames),none]) ?_ ?_
 .unfold msD
  dsimp only
  rcases zfT ms.frames with e|⟨fs,⟨pn,pr⟩,e⟩
  .rw[e];exact⟨rfl,rfl,λz=>(nomatch z),λ_=>⟨zaA,rfl⟩⟩
  rw[e,zeJ,zMa];have eu:upD (fs++[(pn,pr)])=.int pn:=by unfold upD;simp
  rw[eu];refine⟨rfl,rfl,λ_=>rj (dv (frD (pn,pr))) (dv (.int 0)) (λM g=>rj (dv (.lst (fs.map frD++[frD (pn,pr)]))) (dv (.int (-1))) (λM h=>⟨rfl,rfl,h⟩) aA (we (jq _ _) g)) aA ⟨zaA,rfl⟩,λz=>absurd z aE⟩
 rintro _ rfl;have I:zw (pmD ps):=yi.mpr λx Q=>by
  obtain⟨y,G,rfl⟩:=zah.mp Q;exact⟨zaA,yi.mp p2 _ (zah.mpr ⟨y,G,rfl⟩),zaA⟩
 refine rj (dv (dkD fns)) (dv (.str B)) (λM h=>⟨rfl,rfl,h⟩) aA (Gr W ⟨⟨L,I,J,v,zaA⟩,?_⟩);refine⟨_,_,rfl,rfl,_,_,rfl,rfl,zak l aB,rfl,rfl,⟨zaA,u,by unfold upD;split <;> trivial,zaA,zaA,zaA⟩,?_⟩
 refine⟨_,_,rfl,rfl,_,_,rfl,rfl,by show(ms.frames.map frD).length<=100000;rw[zLm];lia,zaA,?_⟩
 dsimp only [Jt,fE2,Ml,u9]
 refine x3 (ps.map λp=>.tup [.str p.1,p.2]) (λM g=>by unfold pmD;exact⟨zaA,g⟩) (λd=>match d with|.tup [a,_]=>some a|_=>none) (by rw[zLm];lia) ?_ ?_
 .intro d hd;obtain⟨y,G,rfl⟩:=zah.mp hd;exact⟨λ_=>⟨zaA,rfl⟩,nofun⟩
 have ef:(ps.map λp=>D.tup [.str p.1,p.2]).filterMap (λd=>match d with|.tup [a,_]=>some a|_=>none)=(ps.map Prod.fst).map D.str:=by
  rw[zbX,zaV,<- zcZ];rfl
 rw[ef];have j:(ps.map Prod.fst).length=as.length:=by rw[zLm];exact hl
 refine⟨ps.map Prod.fst,as,⟨.inl rfl,.inr rfl⟩,j,by lia,nd,u,?_⟩
 refine⟨(aB:2<=1000),?_⟩
 refine⟨_,_,rfl,rfl,_,_,rfl,rfl,zak k aB,rfl,rfl,⟨zaA,zaA⟩,?_⟩
 refine⟨_,_,rfl,rfl,_,_,rfl,rfl,by show(ms.tasks++[_]).length<=100000;rw[zLa];show _+1<=_;lia,rj (dv (.tup [N,pmD ps,sz,b])) (dv (.int 3)) aA aA (Zr (d:=b) rfl ⟨rfl,rfl,⟨zaA,v,zaA⟩,?_⟩)⟩
 have e5:frD ((ms.calls.length:Int),(ps.map Prod.fst).zip as)=.tup [.int ms.calls.length,.dk ((ps.map Prod.fst).map Sum.inr) as]:=by
  show D.tup [_,dkD _]=_;unfold dkD;rw[<- Y4 _ _ j,vz1 j]
 unfold msD at h
 dsimp only at h
 rw[zMa,zaB,zbV,e5]at h;exact⟨_,rfl,h⟩
def Jm(X:AX K mg C)(l:FM P w K mg base 6 C fNames "make" ["self","shape","thing"] (Y91 C R)):FM P w K mg base 7 C fNames "apply" ["self","expression"] (Pp C R):=by
 refine QC X "Run.apply" 14 ["self","expression","kind","parts"] ?_;walk_at "y";refine⟨_,(yn (Sg 2 aB ds.nd aR)
   (yb (vo (uk aR) (yb (xn (yp X.O (Re X) (hr.e rfl) (y9 aR (dt (yp X.O (qi X) (hr.e rfl) (y9 aR x9)) x9))))) (yb (vo (uk aR) (yn (jw 3 aB ds.nd (yp X.O (qi X) (hr.e rfl) (y9 zc x9)))
     (yb (xn (yp X.O l (hr.e rfl) (y9 zf (y9 (Mg aR aR) x9)))))) (yb (vo (uk aR) (yb (xn (yp X.O l (hr.e rfl) (y9 zf (dt (yp X.O (qi X) (hr.e rfl) (y9 zc x9)) x9))))) (yb (vo (Zj (yp X.O (uf X) (hr.e rfl) (y9 zf x9))) (yn (jw 3 aB ds.nd (yp X.O (qi X) (hr.e rfl) (y9 zc x9)))
       (yb (w6 (xf X.O yh) (x5 (jl aR aR aR))))) gm))))))))),?_⟩
 obtain⟨fns,most,ms,rs,rfl,hl1,g,h⟩:=hT;unfold msD;rcases h with⟨nm,es,us,rfl,a,j,ne,L,Z,h⟩|⟨e1,e2,v,r,rfl,a,M,pr,j,h⟩|⟨e1,e2,e3,W,V,Q,rfl,a,D,B,z,h⟩|⟨G,e1,e2,x,y,fs,n,rows,rfl,N,hf,j,a,h⟩
 .refine wf [_,_,q_ (.str _),none] (λJ k=>⟨zaA,k⟩) (ya true (λ_=>cs) (λ_=>?_) nofun);exact⟨_,rfl,zaA,_,rfl,zaA,rfl,fns,most,ms,rs,us,rfl,by rw[j],a,ne,L,Z,g,hl1,rfl,Vs h λd u=>⟨_,rfl,u⟩⟩
 .refine wf [_,_,q_ (.str _),none] (λJ k=>⟨zaA,k⟩) (ya false (λ_=>cs) nofun λ_=>ya true (λ_=>cs) (λ_=>?_) nofun);refine⟨_,rfl,zaA,rfl,fns,most,ms,rs,[v,.tup r],rfl,rfl,a,nofun,zaD rfl,⟨M,pr,zaA⟩,g,hl1,_,rfl,zaA,rfl,rfl,⟨M,zaA⟩,pr,by rw[zbC];show 1+r.length<=_;lia,zaA,rfl,Zd h λd u=>⟨_,rfl,u⟩⟩
 .refine wf [_,_,q_ (.str _),none] (λJ k=>⟨zaA,k⟩) (ya false (λ_=>cs) nofun λ_=>ya false (λ_=>cs) nofun λ_=>ya true (λ_=>cs) (λ_=>?_) nofun);exact⟨_,rfl,zaA,_,rfl,zaA,rfl,fns,most,ms,rs,[W,V,Q],rfl,rfl,a,nofun,zaD rfl,⟨D,B,z,zaA⟩,g,hl1,rfl,Zd h λd u=>⟨_,rfl,u⟩⟩
 have I:G≠"call"/\G≠"cons"/\G≠"node":=by rcases N with rfl|rfl <;> decide
 refine wf [_,_,q_ (.str _),none] (λJ k=>⟨zaA,k⟩) (ya false (λ_=>cn I.1) nofun λ_=>ya false (λ_=>cn I.2.1) nofun λ_=>ya false (λ_=>cn I.2.2) nofun λ_=>?_);refine⟨_,rfl,zaA,rfl,fns,most,ms,"sum",fs,n,rows,rfl,rfl,j,hf,?_⟩;by_cases q:most<=ms.steps.length
 .have es:xi most n "sum" ms=(false,{ms with cut:=true}):=by unfold xi;rw[zaK q]
  rw[es]at h ⊢;exact⟨λy=>(nomatch y),λ_=>⟨_,rfl,h⟩⟩
 have es:xi most n "sum" ms=(true,{ms with steps:=ms.steps++[.tup [.int n,.str "sum"]]}):=by unfold xi;rw[zaI q]
 rw[es]at h ⊢;refine⟨λ_=>⟨_,rfl,zaA,rfl,fns,most,{ms with steps:=ms.steps++[.tup [.int n,.str "sum"]]},rs,[.int x,.int y],rfl,rfl,a,nofun,zaD rfl,⟨zaA,zaA,zaA⟩,g,hl1,?_⟩,λy=>(nomatch y)⟩;refine⟨_,_,rfl,rfl,_,_,rfl,rfl,by show rs.length<=100000;have:=zbO List.length a;rw[zLa]at this;lia,?_⟩
 rcases N with rfl|rfl
 .exact cs ⟨λ_=>⟨zaA,_,rfl,h⟩,nofun⟩
 exact cs ⟨nofun,λ_=>⟨zaA,_,rfl,h⟩⟩
def Does(t:FTQ)(C:Addr)(fns:List (Str×D))(most:Int)(S:List D)(s s1:MS):Prop:=∀Y:D->D->Prop,Y .non (msD C fns most s1)->t (msD C fns most s) S Y
def Mv(C:Addr)(R:Str->D->Int->Prop)(fns:List (Str×D))(most:Int)(s s1:MS):Prop:=∃ts,
 (∃b,s.tasks=ts++[bdD b]/\Does (Bw C) C fns most [b] {s with tasks:=ts} s1) \/
 (∃e,s.tasks=ts++[vlD e]/\Does (tVal C) C fns most [e] {s with tasks:=ts} s1) \/
 (∃e,s.tasks=ts++[apD e]/\Does (Pp C R) C fns most [e] {s with tasks:=ts} s1) \/
 (∃b,s.tasks=ts++[brD b]/\Does (Hw C) C fns most [b] {s with tasks:=ts} s1) \/
 (∃b,s.tasks=ts++[chD b]/\Does (Po C) C fns most [b] {s with tasks:=ts} s1) \/
 (s.tasks=ts++[.tup [.str "leave"]]/\Does (Ht C) C fns most [] {s with tasks:=ts} s1)
inductive RunN(C:Addr)(R:Str->D->Int->Prop)(fns:List (Str×D))(most:Int):Nat->MS->MS->Prop
 |done {s:MS}:(s.tasks=[]\/s.cut=true)->RunN C R fns most 0 s s
 |step {s s1 s2:MS} {n:Nat}:s.cut=false->Mv C R fns most s s1->RunN C R fns most n s1 s2->RunN C R fns most (n+1) s s2
def tGo(C:Addr)(R:Str->D->Int->Prop):FTQ:=λd S Y=>∃fns most s s1 n,d=msD C fns most s/\S=[]/\RunN C R fns most n s s1/\Y .non (msD C fns most s1)
def Wr(p:Nat->Prop)(h:∃ n,p n):∃n,p n/\∀m,p m->n<=m:=by
 obtain⟨n,d⟩:=h
 induction n using Nat.strongRecOn with
 |ind n ih =>
  by_cases q:∃m,m<n/\p m
  .obtain⟨m,lt,a⟩:=q;exact ih m lt a
  exact⟨n,d,λm a=>Nat.le_of_not_lt λlt=>q ⟨m,lt,a⟩⟩
def cq(p:Nat->Prop):Nat:=by
 classical
 exact if h:∃n,p n then Classical.choose (Wr p h) else 0
def cm{p:Nat->Prop}(h:∃ n,p n):p (cq p)/\∀m,p m->cq p<=m:=by
 unfold cq;rw[dif_pos h];exact Classical.choose_spec (Wr p h)
def Fi{tc:TQb}{U:DE}{k:Bool->DE->Prop}(b:Bool)(h:∀ k:Bool->DE->Prop,k b U->tc U k)(a:k b U):tc U k:=h k a
def goP(C:Addr)(R:Str->D->Int->Prop)(fns:List (Str×D))(most:Int)(s1:MS)(U:DE)(n:Nat):Prop:=∃s t,U=[q_ (msD C fns most s),t]/\RunN C R fns most n s s1
def tl1{ts:List D}{x y:D}(h:ts++[x]=ts++[y]):x=y:=List.head_eq_of_cons_eq (List.append_cancel_left h)
def z5c(X:AX K mg C)(u:FM P w K mg base 7 C fNames "apply" ["self","expression"] (Pp C R)):FM P w K mg base 8 C fNames "go" ["self"] (tGo C R):=by
 refine QC X "Run.go" 2 ["self","task"] ?_;walk_at "y";refine⟨_,(yb (K6 (uk (EW.et (Wz (si (vt X.O (z9 0))) (Xd (ba (si (vt X.O (z9 0)))))))) (yn (uo (W5 1 aB ds.nd (xf X.O yh)))
    (yb (vo (uk aR) (yb (xn (yp X.O (X7 X) (hr.e rfl) (y9 aR x9)))) (yb (vo (uk aR) (yb (xn (yp X.O (Z3 X) (hr.e rfl) (y9 aR x9)))) (yb (vo (uk aR) (yb (xn (yp X.O u (hr.e rfl) (y9 aR x9)))) (yb (vo (uk aR) (yb (xn (yp X.O (Jl X) (hr.e rfl) (y9 aR x9)))) (yb (vo (uk aR) (yb (xn (yp X.O (M3 X) (hr.e rfl) (y9 aR x9)))) (yb (xn (Rh X.O (Jk X) (hr.e rfl))))))))))))))))),?_⟩
 obtain⟨fns,most,ms,s1,n,rfl,rfl,B,h⟩:=hT;refine⟨λU=>∃n,goP C R fns most s1 U n,λU=>cq (goP C R fns most s1 U),⟨n,ms,none,rfl,B⟩,λr D=>?_⟩;obtain⟨g,_⟩:=cm D;obtain⟨m,v⟩:∃m,m=cq (goP C R fns most s1 r):=⟨_,rfl⟩;rw[<- v]at g;obtain⟨s,t,rfl,g⟩:=g;refine Fi (!s.tasks.isEmpty&&!s.cut) (λk l=>?_) ?_
 .unfold msD at l ⊢;walk_at "dl";refine⟨λz=>?_,λz=>?_⟩
  .rw[z]at l;exact l
  rw[z]at l;exact l
 refine⟨λq=>?_,λq=>?_⟩
 .have d:∀(s2:MS)(t2:Option EV)(j:Nat),RunN C R fns most j s2 s1->j<m->(∃n,goP C R fns most s1 [q_ (msD C fns most s2),t2] n)/\cq (goP C R fns most s1 [q_ (msD C fns most s2),t2])<cq (goP C R fns most s1 [q_ (msD C fns most s),t]):=λs2 t2 j h2 lt=>⟨⟨j,s2,t2,rfl,h2⟩,by rw[<- v];exact zeC ((cm ⟨j,s2,t2,rfl,h2⟩).2 j ⟨s2,t2,rfl,h2⟩) lt⟩
  cases g with
  |done hd =>
   rcases hd with hd|hd
   .rw[hd]at q;cases q
   rw[hd]at q;simp at q
  |@step s s2 s3 m hc a hr2 =>
   obtain⟨ts,a⟩:=a;obtain⟨x,ex⟩:∃x,s.tasks=ts++[x]:=by rcases a with⟨b,et,a⟩|⟨b,et,a⟩|⟨b,et,a⟩|⟨b,et,a⟩|⟨b,et,a⟩|⟨et,a⟩ <;> exact⟨_,et⟩
   refine wz (λU=>U=[q_ (msD C fns most {s with tasks:=ts}),q_ x]) ?_ ?_
   .unfold msD;rw[ex];refine⟨_,_,rfl,rfl,_,_,x,rfl,rfl,?_,?_⟩
    .rw[zLa];show(ts++[x])[ts.length+1-1]?=_;rw[Nat.add_sub_cancel,zaF (zaj _),zeI];rfl
    rw[List.dropLast_concat];rfl
   rintro _ rfl;rw[ex]at a;rcases a with⟨b,et,a⟩|⟨b,et,a⟩|⟨b,et,a⟩|⟨b,et,a⟩|⟨b,et,a⟩|⟨et,a⟩ <;> cases tl1 et
   .exact ya true (λ_=>cs) (λ_=>⟨_,rfl,zaA,rfl,a _ (d s2 _ _ hr2 (zbP _))⟩) nofun
   .exact ya false (λ_=>cs) nofun λ_=>ya true (λ_=>cs) (λ_=>⟨_,rfl,zaA,rfl,a _ (d s2 _ _ hr2 (zbP _))⟩) nofun
   .exact ya false (λ_=>cs) nofun λ_=>ya false (λ_=>cs) nofun λ_=>ya true (λ_=>cs) (λ_=>⟨_,rfl,zaA,rfl,a _ (d s2 _ _ hr2 (zbP _))⟩) nofun
   .exact ya false (λ_=>cs) nofun λ_=>ya false (λ_=>cs) nofun λ_=>ya false (λ_=>cs) nofun λ_=>ya true (λ_=>cs) (λ_=>⟨_,rfl,zaA,rfl,a _ (d s2 _ _ hr2 (zbP _))⟩) nofun
   .exact ya false (λ_=>cs) nofun λ_=>ya false (λ_=>cs) nofun λ_=>ya false (λ_=>cs) nofun λ_=>ya false (λ_=>cs) nofun λ_=>ya true (λ_=>cs) (λ_=>⟨_,rfl,zaA,rfl,a _ (d s2 _ _ hr2 (zbP _))⟩) nofun
   exact ya false (λ_=>cs) nofun λ_=>ya false (λ_=>cs) nofun λ_=>ya false (λ_=>cs) nofun λ_=>ya false (λ_=>cs) nofun λ_=>ya false (λ_=>cs) nofun λ_=>⟨_,rfl,rfl,a _ (d s2 _ _ hr2 (zbP _))⟩
 refine⟨_,rfl,?_⟩;cases g with
 |done hd=>exact h
 |@step s s2 s3 m hc a hr2 =>
  obtain⟨ts,a⟩:=a;have ne:s.tasks≠[]:=by
   rcases a with⟨b,et,a⟩|⟨b,et,a⟩|⟨b,et,a⟩|⟨b,et,a⟩|⟨b,et,a⟩|⟨et,a⟩
   all_goals
    rw[et];simp
  rw[hc]at q;cases e:s.tasks with
  |nil=>exact absurd e ne
  |cons x y=>rw[e]at q;cases q
noncomputable def ms0:MS:=⟨[],[],[],[],[],false⟩
def Bn(C:Addr):FTQ:=λd S Y=>∃fns:List (Str×D),∃most,d=.ob C [] []/\S=[.tup (fns.map Prod.snd),.int most]/\fns.length<=100/\(fns.map Prod.fst).Nodup/\y7 (fns.map Prod.snd)/\(∀p∈fns,∃r,p.2=.tup (.str p.1::r))/\Y .non (msD C fns most ms0)
def Bc(C:Addr):FTR:=λd S Y=>∃fns most s,d=msD C fns most s/\S=[] /\
 ((s.cut=true/\Y (.tup [.bl false,.non,.lst s.calls,.lst s.steps]))\/(s.cut=false/\∃v r,s.ready=v::r/\zw v/\Y (.tup [.bl true,v,.lst s.calls,.lst s.steps])))
def C9(X:AX K mg C):FM P w K mg base 2 C fNames "__init__" ["self","program","most"] (Bn C):=by
 refine QC X "Run.__init__" 0 ["self","program","most"] ?_;walk_at "y";refine⟨_,(yn (uo (sr X.O.cl (X.O.na _ aB) yh (x5 (Ha X.T.dict (za (wj (.mk ["function"] [] [] (xc (z9 1)) QG)) zb)))))
   (yn (uo (sr X.O.cl (X.O.na _ aB) yh (x5 (z9 2))))
   (yn (uo (sr X.O.cl (X.O.na _ aB) yh (x5 aR)))
   (yn (uo (sr X.O.cl (X.O.na _ aB) yh (x5 aR)))
   (yn (uo (sr X.O.cl (X.O.na _ aB) yh (x5 aR)))
   (yn (uo (sr X.O.cl (X.O.na _ aB) yh (x5 aR)))
   (yn (uo (sr X.O.cl (X.O.na _ aB) yh (x5 aR)))
   (yb (uo (sr X.O.cl (X.O.na _ aB) yh (x5 k9))))))))))),?_⟩
 obtain⟨fns,most,rfl,rfl,hl1,u,l,j,h⟩:=hT;refine wz (λU=>U=[q_ (.ob C ["functions"] [dkD fns]),q_ (.tup (fns.map Prod.snd)),q_ (.int most)]) ?_ ?_
 .simp only[Ej,fE2,dCB,u9,aNil];refine x3 (fns.map Prod.snd) ?_ (λd=>match d with|.tup (.str z::r)=>some (.tup [.str z,.tup (.str z::r)])|_=>none) (by rw[zLm];lia) ?_ ?_
  .intro M g;exact⟨zaA,g⟩
  .intro d G;obtain⟨y,v,rfl⟩:=zah.mp G;obtain⟨r,k⟩:=j y v;rw[k];unfold ρ0;walk_at "dl"
  have I:(fns.map Prod.snd).filterMap (λd=>match d with|.tup (.str z::r)=>some (D.tup [.str z,.tup (.str z::r)])|_=>none)=Oq (fns.map λp=>Sum.inr p.1) (fns.map Prod.snd):=by
   clear hl1 u l h hl
   induction fns with
   |nil=>rfl
   |cons p fns ih =>
    obtain⟨r,k⟩:=j p zao;simp only[zaB,zbG,k];rw[ih λq x=>j q (zal _ x)];rfl
  rw[I];refine⟨_,_,rfl,by rw[zLm,zLm],?_,l,_,[],[],rfl,rfl,by simp,by simp,rfl⟩
  rw[show(fns.map λp=>(Sum.inr p.1:Key))=(fns.map Prod.fst).map Sum.inr from by rw[zaV];rfl]
  exact zfL _ (λa b h e=>h (zeR e)) u
 rintro _ rfl;refine wz (λU=>U=[q_ (.ob C ["functions","most"] [dkD fns,.int most]),q_ (.tup (fns.map Prod.snd)),q_ (.int most)]) ?_ ?_
 .exact⟨zaA,_,_,_,rfl,rfl,by decide,by decide,rfl⟩
 rintro _ rfl;refine wz (λU=>U=[q_ (.ob C ["functions","most","calls"] [dkD fns,.int most,.lst []]),q_ (.tup (fns.map Prod.snd)),q_ (.int most)]) ?_ ?_
 .exact⟨rfl,rfl,zaA,_,_,_,rfl,rfl,by decide,by decide,rfl⟩
 rintro _ rfl;refine wz (λU=>U=[q_ (.ob C ["functions","most","calls","steps"] [dkD fns,.int most,.lst [],.lst []]),q_ (.tup (fns.map Prod.snd)),q_ (.int most)]) ?_ ?_
 .exact⟨rfl,rfl,zaA,_,_,_,rfl,rfl,by decide,by decide,rfl⟩
 rintro _ rfl;refine wz (λU=>U=[q_ (.ob C ["functions","most","calls","steps","frames"] [dkD fns,.int most,.lst [],.lst [],.lst []]),q_ (.tup (fns.map Prod.snd)),q_ (.int most)]) ?_ ?_
 .exact⟨rfl,rfl,zaA,_,_,_,rfl,rfl,by decide,by decide,rfl⟩
 rintro _ rfl;refine wz (λU=>U=[q_ (.ob C ["functions","most","calls","steps","frames","tasks"] [dkD fns,.int most,.lst [],.lst [],.lst [],.lst []]),q_ (.tup (fns.map Prod.snd)),q_ (.int most)]) ?_ ?_
 .exact⟨rfl,rfl,zaA,_,_,_,rfl,rfl,by decide,by decide,rfl⟩
 rintro _ rfl;refine wz (λU=>U=[q_ (.ob C ["functions","most","calls","steps","frames","tasks","ready"] [dkD fns,.int most,.lst [],.lst [],.lst [],.lst [],.lst []]),q_ (.tup (fns.map Prod.snd)),q_ (.int most)]) ?_ ?_
 .exact⟨rfl,rfl,zaA,_,_,_,rfl,rfl,by decide,by decide,rfl⟩
 rintro _ rfl;refine⟨λU=>∃d',slot U 0=q_ d'/\Y .non d',?_,λ_ y=>y⟩;exact⟨zaA,_,_,_,rfl,rfl,by decide,by decide,_,rfl,h⟩
def Jj(X:AX K mg C):FMR P w K mg base 1 C fNames "told" ["self"] (Bc C):=by
 obtain⟨f,fd,F,e⟩:=X.m "told" "Run.told" 1 aB
 have ds:zn ["self"] ["self"] (zd (mth 1)):=by walk_at "f"
 refine z2i F ds (F.binds (by walk_at "3")) e aB λqZ A outer s H xs j S Y hr hl hT=>?_
 have hu:=hr.units;refine⟨_,(Eb (z4b (uk (si (vt X.O (z9 0)))) (G1 (O8 (Gz (ur (Jw k9) (ur (Jw ug) (ur (fq (xf X.O yh)) (ur (fq (xf X.O yh)) Mc))))))) Aj)
    (G1 (O8 (Gz (ur (Jw k9) (ur (Jw (zg hu (vt X.O (z9 0)) zc)) (ur (fq (xf X.O yh)) (ur (fq (xf X.O yh)) Mc)))))))),?_⟩
 obtain⟨fns,most,ms,rfl,rfl,h⟩:=hT;unfold msD;walk_at "dl";rcases h with⟨a,h⟩|⟨a,v,r,g,d,h⟩
 .exact⟨λ_=>⟨_,_,rfl,rfl,_,_,rfl,rfl,_,_,rfl,rfl,_,_,rfl,rfl,h⟩,λz=>absurd z (by rw[a];decide)⟩
 rw[g];simp only[at_0];exact⟨λz=>absurd z (by rw[a];decide),λ_=>⟨d,_,_,rfl,rfl,_,_,rfl,rfl,_,_,rfl,rfl,_,_,rfl,rfl,h⟩⟩
section
variable{fns:List (Str×D)}{most:Int}{P:MS->Prop}{n:Int}
def Fin(C:Addr)(R:Str->D->Int->Prop)(fns:List (Str×D))(most:Int)(P:MS->Prop)(s:MS):Prop:=∃n s1,RunN C R fns most n s s1/\P s1
def yf{s s1:MS}(a:s.cut=false)(m:Mv C R fns most s s1)(h:Fin C R fns most P s1):Fin C R fns most P s:=by
 obtain⟨n,s2,r,p⟩:=h;exact⟨n+1,s2,.step a m r,p⟩
def xq{s:MS}(h:s.tasks=[]\/s.cut=true)(p:P s):Fin C R fns most P s:=⟨0,s,.done h,p⟩
noncomputable def stt(cl st:List D)(fs:List (Int×List (Str×D)))(ts rs:List D):MS:=⟨cl,st,fs,ts,rs,false⟩
noncomputable def stp(n:Int)(k:Str):D:=.tup [.int n,.str k]
def bx(most:Int)(P:MS->Prop)(cl X:List D):Prop:=most<=X.length->∀s1:MS,s1.cut=true->s1.calls=cl->s1.steps=X->P s1
def wy{s:MS}{k:Str}(q:most<=s.steps.length):xi most n k s=(false,{s with cut:=true}):=by unfold xi;rw[zaK q]
def wx{s:MS}{k:Str}(q:¬ most<=s.steps.length):xi most n k s=(true,{s with steps:=s.steps++[.tup [.int n,.str k]]}):=by unfold xi;rw[zaI q]
def Sm1(cl st ts rs:List D):Prop:=cl.length+st.length+ts.length+rs.length<=9000/\y7 rs
def Zk{a b:List D}:y7 (a++b) ↔ y7 a/\y7 b:=by
 have e:∀l:List D,y7 l ↔ ∀d∈l,zw d:=λl=>yi;rw[e,e,e];simp only[zas];exact⟨λh=>⟨λd x=>h d (.inl x),λd x=>h d (.inr x)⟩,λh d x=>x.elim (h.1 d) (h.2 d)⟩
section
variable{cl st ts rs:List D}{fs:List (Int×List (Str×D))}{rows:List (Str×D)}{v e e1 e2 b1 b2:D}{z:Str}
def Jq(b:Sm1 cl st ts rs)(d:zw e)(h:Fin C R fns most P (stt cl st fs (ts++[vlD e]) rs)):Fin C R fns most P (stt cl st fs (ts++[bdD (.tup [.str "give",e])]) rs) :=
 yf rfl ⟨ts,.inl ⟨_,rfl,λY a=>⟨fns,most,_,rfl,by have:=b.1;show ts.length<=10000;lia,.inl ⟨e,rfl,d,a⟩⟩⟩⟩ h
def Jo(b:Sm1 cl st ts rs)(g:zw e1)(p2:zw e2)(e:zw b1)(d:zw b2)(h:Fin C R fns most P (stt cl st fs (ts++[chD (.tup [.str "less",e1,e2,b1,b2])]++[vlD e2]++[vlD e1]) rs)):Fin C R fns most P (stt cl st fs (ts++[bdD (.tup [.str "less",e1,e2,b1,b2])]) rs) :=
 yf rfl ⟨ts,.inl ⟨_,rfl,λY a=>⟨fns,most,_,rfl,by have:=b.1;show ts.length<=10000;lia,.inr (.inr (.inl ⟨e1,e2,b1,b2,rfl,g,p2,e,d,a⟩))⟩⟩⟩ (by rw[zcG (ts++_)]at h;exact h)
def Ca(b:Sm1 cl st ts rs)(e:rowG rows z=some v)(d:zw v)(h:Fin C R fns most P (stt cl st (fs++[(n,rows)]) ts (rs++[v]))):Fin C R fns most P (stt cl st (fs++[(n,rows)]) (ts++[vlD (.tup [.str "var",.str z])]) rs) :=
 yf rfl ⟨ts,.inr (.inl ⟨_,rfl,λY a=>⟨fns,most,_,rfl,by have:=b.1;show ts.length<=10000;lia,by have:=b.1;show rs.length<=10000;lia,.inr (.inl ⟨fs,n,rows,z,v,rfl,rfl,e,d,a⟩)⟩⟩)⟩ h
def Cd(b:Sm1 cl st ts rs)(h:Fin C R fns most P (stt cl st fs ts (rs++[.tup []]))):Fin C R fns most P (stt cl st fs (ts++[vlD (.tup [.str "nil"])]) rs) :=
 yf rfl ⟨ts,.inr (.inl ⟨_,rfl,λY a=>⟨fns,most,_,rfl,by have:=b.1;show ts.length<=10000;lia,by have:=b.1;show rs.length<=10000;lia,.inr (.inr (.inl ⟨rfl,a⟩))⟩⟩)⟩ h
def Jr{f:Str}{es:List D}(b:Sm1 cl st ts rs)(e:es.length<=100)(d:y7 es)(h:Fin C R fns most P (stt cl st fs (ts++[apD (.tup [.str "call",.str f,.tup es])]++es.reverse.map vlD) rs)):Fin C R fns most P (stt cl st fs (ts++[vlD (.tup [.str "call",.str f,.tup es])]) rs) :=
 yf rfl ⟨ts,.inr (.inl ⟨_,rfl,λY a=>⟨fns,most,_,rfl,by have:=b.1;show ts.length<=10000;lia,by have:=b.1;show rs.length<=10000;lia,.inr (.inr (.inr (.inr (.inl ⟨.str f,es,rfl,e,zaA,d,a⟩))))⟩⟩)⟩ h
def z2k{a:Str}{es:List D}(b:Sm1 cl st ts rs)(e:a = "cons"\/a = "node"\/a = "add"\/a = "sub")(j:es.length<=100)(g:y7 es)(h:Fin C R fns most P (stt cl st fs (ts++[apD (.tup (.str a::es))]++es.reverse.map vlD) rs)):Fin C R fns most P (stt cl st fs (ts++[vlD (.tup (.str a::es))]) rs) :=
 yf rfl ⟨ts,.inr (.inl ⟨_,rfl,λY d=>⟨fns,most,_,rfl,by have:=b.1;show ts.length<=10000;lia,by have:=b.1;show rs.length<=10000;lia,.inr (.inr (.inr (.inr (.inr ⟨a,es,rfl,e,j,g,d⟩))))⟩⟩)⟩ h
def Rf{x e tn:Str}{l:List D}(b:Sm1 cl st ts rs)(g:rowG rows x=some (.tup l))(pl:y7 l)(ok:∀ d∈l,okD 149 d)(j:zw b1)(p2:zw b2)(k:rows.length<=900)(u:(rows.map Prod.fst++[e,tn]).Nodup)(y:bx most P cl st)(h0:¬ most<=st.length->l=[]->Fin C R fns most P (stt cl (st++[stp n "open"]) (fs++[(n,rows)]) (ts++[bdD b1]) rs))(h1:¬ most<=st.length->∀ v r,l=v::r->Fin C R fns most P (stt cl (st++[stp n "open"]) (fs++[(n,rows++[(e,v),(tn,.tup r)])]) (ts++[bdD b2]) rs)) :
  Fin C R fns most P (stt cl st (fs++[(n,rows)]) (ts++[bdD (.tup [.str "list",.str x,b1,.str e,.str tn,b2])]) rs):=by
 have z:=b.1;by_cases q:most<=st.length
 .refine yf (s1:=⟨cl,st,fs++[(n,rows)],ts,rs,true⟩) rfl ⟨ts,.inl ⟨_,rfl,λY a=>⟨fns,most,_,rfl,by show ts.length<=10000;lia,.inr (.inr (.inr ⟨"list",x,_,fs,n,rows,.tup l,rfl,.inl rfl,rfl,by show st.length<=10000;lia,g,pl,?_⟩))⟩⟩⟩ (xq (.inr rfl) (y q _ rfl rfl rfl))
  rw[wy q];exact a
 cases l with
 |nil =>
  refine yf rfl ⟨ts,.inl ⟨_,rfl,λY a=>⟨fns,most,_,rfl,by show ts.length<=10000;lia,.inr (.inr (.inr ⟨"list",x,_,fs,n,rows,.tup [],rfl,.inl rfl,rfl,by show st.length<=10000;lia,g,pl,?_⟩))⟩⟩⟩ (h0 q rfl)
  rw[wx q];exact⟨fns,most,_,fs,n,rows,"list",x,b1,b2,rfl,rfl,by show ts.length<=10000;lia,j,p2,k,.inl ⟨_,_,rfl,.inr rfl,a⟩⟩
 |cons v r =>
  refine yf rfl ⟨ts,.inl ⟨_,rfl,λY a=>⟨fns,most,_,rfl,by show ts.length<=10000;lia,.inr (.inr (.inr ⟨"list",x,_,fs,n,rows,.tup (v::r),rfl,.inl rfl,rfl,by show st.length<=10000;lia,g,pl,?_⟩))⟩⟩⟩ (h1 q v r rfl)
  rw[wx q];exact⟨fns,most,_,fs,n,rows,"list",x,b1,b2,rfl,rfl,by show ts.length<=10000;lia,j,p2,k,.inr (.inl ⟨e,tn,v,r,rfl,by rw[Df aB];exact ok,pl.1,pl.2,u,a⟩)⟩
def Qs{x y:Int}(b:Sm1 cl st ts rs)(d:zw b1)(p2:zw b2)(g:bx most P cl st)(h:¬ most<=st.length->Fin C R fns most P (stt cl (st++[stp n "less"]) (fs++[(n,rows)]) (ts++[bdD (if x<y then b1 else b2)]) rs)) :
  Fin C R fns most P (stt cl st (fs++[(n,rows)]) (ts++[chD (.tup [.str "less",e1,e2,b1,b2])]) (rs++[.int x]++[.int y])):=by
 have j:=b.1;have e:rs++[D.int x]++[D.int y]=rs++[.int x,.int y]:=by simp
 by_cases q:most<=st.length
 .refine yf (s1:=⟨cl,st,fs++[(n,rows)],ts,rs++[D.int x]++[D.int y],true⟩) rfl ⟨ts,.inr (.inr (.inr (.inr (.inl ⟨_,rfl,λY a=>?_⟩))))⟩ (xq (.inr rfl) (g q _ rfl rfl rfl));refine⟨fns,most,_,fs,n,rows,e1,e2,b1,b2,rs,x,y,rfl,rfl,rfl,e,by show st.length<=10000;lia,by show(rs++[D.int x]++[D.int y]).length<=10000;simp;lia,by show ts.length<=10000;lia,d,p2,b.2,?_⟩
  rw[wy q];exact a
 refine yf rfl ⟨ts,.inr (.inr (.inr (.inr (.inl ⟨_,rfl,λY a=>?_⟩))))⟩ (h q);refine⟨fns,most,_,fs,n,rows,e1,e2,b1,b2,rs,x,y,rfl,rfl,rfl,e,by show st.length<=10000;lia,by show(rs++[D.int x]++[D.int y]).length<=10000;simp;lia,by show ts.length<=10000;lia,d,p2,b.2,?_⟩
 rw[wx q];exact a
def Rg{r:List D}{sz:Int}(b:Sm1 cl st ts rs)(d:zw v)(pr:y7 r)(u:r.length<=1000)(k:R "list" (.tup (v::r)) sz)(j:bx most P cl st)(e:100<sz->∀ s1:MS,s1.cut=true->s1.calls=cl->s1.steps=st->P s1)(h:¬ most<=st.length->¬ 100<sz->Fin C R fns most P (stt cl (st++[stp n "make"]) (fs++[(n,rows)]) ts (rs++[.tup (v::r)]))) :
  Fin C R fns most P (stt cl st (fs++[(n,rows)]) (ts++[apD (.tup [.str "cons",e1,e2])]) (rs++[v]++[.tup r])):=by
 have x:=b.1;have l:rs++[v]++[D.tup r]=rs++[v,.tup r]:=by simp
 have go:∀s1:MS,(∀Y:D->D->Prop,Y .non (msD C fns most s1)->Y .non (msD C fns most (if 100<sz then ⟨cl,st,fs++[(n,rows)],ts,rs,true⟩ else match xi most n "make" ⟨cl,st,fs++[(n,rows)],ts,rs,false⟩ with
  |(true,s')=>{s' with ready:=rs++[.tup (v::r)]}
  | (false,s')=>s')))->Mv C R fns most (stt cl st (fs++[(n,rows)]) (ts++[apD (.tup [.str "cons",e1,e2])]) (rs++[v]++[.tup r])) s1:=λs1 g=>by
  refine⟨ts,.inr (.inr (.inl ⟨_,rfl,λY a=>?_⟩))⟩;refine⟨fns,most,_,rs,rfl,by show(rs++[v]++[D.tup r]).length<=10000;simp;lia,b.2,.inr (.inl ⟨e1,e2,v,r,rfl,l,d,pr,by lia,?_⟩)⟩
  exact⟨fns,most,_,fs,n,rows,"list",.tup (v::r),sz,rfl,rfl,rfl,by show st.length<=10000;lia,by show rs.length<=10000;lia,⟨d,pr⟩,k,g Y a⟩
 by_cases z:100<sz
 .refine yf rfl (go ⟨cl,st,fs++[(n,rows)],ts,rs,true⟩ λY a=>?_) (xq (.inr rfl) (e z _ rfl rfl rfl));rw[zaK z];exact a
 by_cases q:most<=st.length
 .refine yf rfl (go ⟨cl,st,fs++[(n,rows)],ts,rs,true⟩ λY a=>?_) (xq (.inr rfl) (j q _ rfl rfl rfl));rw[zaI z,wy q];exact a
 refine yf rfl (go _ λY a=>?_) (h q z);rw[zaI z,wx q];exact a
def Ww{f:Str}{es us:List D}{g sz e:D}{ps:List (Str×D)}(b:Sm1 cl st ts rs)(G:rowG fns f=some (.tup [g,pmD ps,sz,e]))(y:us.length=es.length)(ne:us≠[])(d:us.length<=10)(j:y7 us)(u:zw g)(l:y7 (ps.map Prod.snd))(k:zw sz)(r:zw e)(x:ps.length=us.length)(v:(ps.map Prod.fst).Nodup)(I:20<=fs.length->∀ s1:MS,s1.cut=true->s1.calls=cl->s1.steps=st->P s1)(J:bx most P cl st)(h:¬ most<=st.length->¬ 20<=fs.length->Fin C R fns most P (stt (cl++[.tup [.str f,.tup us,upD fs,.bl false,.non]]) (st++[stp cl.length "call"]) (fs++[((cl.length:Int),(ps.map Prod.fst).zip us)]) (ts++[.tup [.str "leave"]]++[bdD e]) rs)) :
  Fin C R fns most P (stt cl st fs (ts++[apD (.tup [.str "call",.str f,.tup es])]) (rs++us)):=by
 have b1:=b.1;have go:∀s1:MS,(∀Y:D->D->Prop,Y .non (msD C fns most s1)->Y .non (msD C fns most (ji most f us ps e (stt cl st fs ts rs))))->Mv C R fns most (stt cl st fs (ts++[apD (.tup [.str "call",.str f,.tup es])]) (rs++us)) s1:=λs1 B=>by
  refine⟨ts,.inr (.inr (.inl ⟨_,rfl,λY a=>?_⟩))⟩;refine⟨fns,most,_,rs,rfl,by show(rs++us).length<=10000;simp;lia,b.2,.inl ⟨f,es,us,rfl,rfl,y,ne,d,j,?_⟩⟩
  exact⟨fns,most,_,f,us,g,ps,sz,e,rfl,rfl,G,u,l,k,r,j,x,d,v,by show st.length<=10000;lia,by show cl.length<=10000;lia,by show ts.length<=10000;lia,B Y a⟩
 by_cases z:20<=fs.length
 .refine yf rfl (go ⟨cl,st,fs,ts,rs,true⟩ λY a=>?_) (xq (.inr rfl) (I z _ rfl rfl rfl));unfold ji;rw[zaK (show 20<=(stt cl st fs ts rs).frames.length from z)];exact a
 by_cases q:most<=st.length
 .refine yf rfl (go ⟨cl,st,fs,ts,rs,true⟩ λY a=>?_) (xq (.inr rfl) (J q _ rfl rfl rfl));unfold ji;rw[zaI (show ¬ 20<=(stt cl st fs ts rs).frames.length from z),wy q];exact a
 refine yf rfl (go _ λY a=>?_) (h q z);unfold ji;rw[zaI (show ¬ 20<=(stt cl st fs ts rs).frames.length from z),wx q];exact a
def M7{m:Nat}{g a up:D}{d e:List D}(r:d.length=m)(q:zw g)(p2:zw a)(l:zw up)(k:zw v)(h:Fin C R fns most P (stt (d++[.tup [g,a,up,.bl true,v]]++e) st fs ts (rs++[v]))) :
  Fin C R fns most P (stt (d++[.tup [g,a,up,.bl false,.non]]++e) st (fs++[((m:Int),rows)]) (ts++[.tup [.str "leave"]]) (rs++[v])) :=
 yf rfl ⟨ts,.inr (.inr (.inr (.inr (.inr ⟨rfl,λY j=>⟨fns,most,_,fs,m,rows,g,a,up,rs,v,d,e,rfl,rfl,rfl,rfl,k,rfl,r,q,p2,l,j⟩⟩))))⟩ h
def Jp(b:Sm1 cl st ts rs)(h:Fin C R fns most P (stt cl st fs ts (rs++[.non]))):Fin C R fns most P (stt cl st fs (ts++[vlD (.tup [.str "leaf"])]) rs) :=
 yf rfl ⟨ts,.inr (.inl ⟨_,rfl,λY a=>⟨fns,most,_,rfl,by have:=b.1;show ts.length<=10000;lia,by have:=b.1;show rs.length<=10000;lia,.inr (.inr (.inr (.inl ⟨rfl,a⟩)))⟩⟩)⟩ h
def M5{x l m r:Str}(b:Sm1 cl st ts rs)(d:rowG rows x=some .non)(e:zw b1)(p2:zw b2)(j:rows.length<=900)(g:bx most P cl st)(h0:¬ most<=st.length->Fin C R fns most P (stt cl (st++[stp n "open"]) (fs++[(n,rows)]) (ts++[bdD b1]) rs)) :
  Fin C R fns most P (stt cl st (fs++[(n,rows)]) (ts++[bdD (.tup [.str "tree",.str x,b1,.str l,.str m,.str r,b2])]) rs):=by
 have k:=b.1;by_cases q:most<=st.length
 .refine yf (s1:=⟨cl,st,fs++[(n,rows)],ts,rs,true⟩) rfl ⟨ts,.inl ⟨_,rfl,λY a=>⟨fns,most,_,rfl,by show ts.length<=10000;lia,.inr (.inr (.inr ⟨"tree",x,_,fs,n,rows,.non,rfl,.inr rfl,rfl,by show st.length<=10000;lia,d,zaA,?_⟩))⟩⟩⟩ (xq (.inr rfl) (g q _ rfl rfl rfl))
  rw[wy q];exact a
 refine yf rfl ⟨ts,.inl ⟨_,rfl,λY a=>⟨fns,most,_,rfl,by show ts.length<=10000;lia,.inr (.inr (.inr ⟨"tree",x,_,fs,n,rows,.non,rfl,.inr rfl,rfl,by show st.length<=10000;lia,d,zaA,?_⟩))⟩⟩⟩ (h0 q)
 rw[wx q];exact⟨fns,most,_,fs,n,rows,"tree",x,b1,b2,rfl,rfl,by show ts.length<=10000;lia,e,p2,j,.inl ⟨_,_,rfl,.inl rfl,a⟩⟩
def M4{x l m r:Str}{e d a:D}(b:Sm1 cl st ts rs)(j:rowG rows x=some (.tup [e,d,a]))(pl:y7 [e,d,a])(ok:okD 150 (.tup [e,d,a]))(k:zw b1)(p2:zw b2)(y:rows.length<=900)(u:(rows.map Prod.fst++[l,m,r]).Nodup)(v:bx most P cl st)(h1:¬ most<=st.length->Fin C R fns most P (stt cl (st++[stp n "open"]) (fs++[(n,rows++[(l,e),(m,d),(r,a)])]) (ts++[bdD b2]) rs)) :
  Fin C R fns most P (stt cl st (fs++[(n,rows)]) (ts++[bdD (.tup [.str "tree",.str x,b1,.str l,.str m,.str r,b2])]) rs):=by
 have z:=b.1;by_cases q:most<=st.length
 .refine yf (s1:=⟨cl,st,fs++[(n,rows)],ts,rs,true⟩) rfl ⟨ts,.inl ⟨_,rfl,λY g=>⟨fns,most,_,rfl,by show ts.length<=10000;lia,.inr (.inr (.inr ⟨"tree",x,_,fs,n,rows,.tup [e,d,a],rfl,.inr rfl,rfl,by show st.length<=10000;lia,j,pl,?_⟩))⟩⟩⟩ (xq (.inr rfl) (v q _ rfl rfl rfl))
  rw[wy q];exact g
 refine yf rfl ⟨ts,.inl ⟨_,rfl,λY g=>⟨fns,most,_,rfl,by show ts.length<=10000;lia,.inr (.inr (.inr ⟨"tree",x,_,fs,n,rows,.tup [e,d,a],rfl,.inr rfl,rfl,by show st.length<=10000;lia,j,pl,?_⟩))⟩⟩⟩ (h1 q)
 rw[wx q];exact⟨fns,most,_,fs,n,rows,"tree",x,b1,b2,rfl,rfl,by show ts.length<=10000;lia,k,p2,y,.inr (.inr ⟨l,m,r,e,d,a,rfl,ok,pl.1,pl.2.1,pl.2.2.1,u,g⟩)⟩
def Jn{e d a j:D}{sz:Int}(b:Sm1 cl st ts rs)(pl:y7 [e,d,a])(r:R "tree" (.tup [e,d,a]) sz)(z:¬ 100<sz)(l:bx most P cl st)(h:¬ most<=st.length->Fin C R fns most P (stt cl (st++[stp n "make"]) (fs++[(n,rows)]) ts (rs++[.tup [e,d,a]]))) :
  Fin C R fns most P (stt cl st (fs++[(n,rows)]) (ts++[apD (.tup [.str "node",e1,e2,j])]) (rs++[e]++[d]++[a])):=by
 have v:=b.1;have u:rs++[e]++[d]++[a]=rs++[e,d,a]:=by simp
 have go:∀s1:MS,(∀Y:D->D->Prop,Y .non (msD C fns most s1)->Y .non (msD C fns most (if 100<sz then ⟨cl,st,fs++[(n,rows)],ts,rs,true⟩ else match xi most n "make" ⟨cl,st,fs++[(n,rows)],ts,rs,false⟩ with
  |(true,s')=>{s' with ready:=rs++[.tup [e,d,a]]}
  | (false,s')=>s')))->Mv C R fns most (stt cl st (fs++[(n,rows)]) (ts++[apD (.tup [.str "node",e1,e2,j])]) (rs++[e]++[d]++[a])) s1:=λs1 k=>by
  refine⟨ts,.inr (.inr (.inl ⟨_,rfl,λY g=>?_⟩))⟩;refine⟨fns,most,_,rs,rfl,by show(rs++[e]++[d]++[a]).length<=10000;simp;lia,b.2,.inr (.inr (.inl ⟨e1,e2,j,e,d,a,rfl,u,pl.1,pl.2.1,pl.2.2.1,?_⟩))⟩
  exact⟨fns,most,_,fs,n,rows,"tree",.tup [e,d,a],sz,rfl,rfl,rfl,by show st.length<=10000;lia,by show rs.length<=10000;lia,pl,r,k Y g⟩
 by_cases q:most<=st.length
 .refine yf rfl (go ⟨cl,st,fs++[(n,rows)],ts,rs,true⟩ λY g=>?_) (xq (.inr rfl) (l q _ rfl rfl rfl));rw[zaI z,wy q];exact g
 refine yf rfl (go _ λY g=>?_) (h q);rw[zaI z,wx q];exact g
end
end
inductive Tr where
 |lf:Tr
 |nd:Tr->Int->Tr->Tr
noncomputable def Tr.d:Tr->D
 |.lf=>.non
 |.nd l v r=>.tup [l.d,.int v,r.d]
noncomputable def Tr.nodes:Tr->Nat
 |.lf=>0
 |.nd l _ r=>1+l.nodes+r.nodes
theorem Tr.pure:∀t:Tr,zw t.d
 |.lf=>trivial
 |.nd l _ r=>⟨l.pure,zaA,r.pure,zaA⟩
def Vt(s:Str)(d:D):Prop:=(s = "num"/\∃i:Int,d=.int i)\/(s = "list"/\∃l:List Int,d=.tup (l.map D.int)/\l.length<=100)\/(s = "tree"/\∃t:Tr,d=t.d/\t.nodes<=100)
def ra(l:List Int):y7 (l.map D.int):=yi.mpr λd a=>by
 obtain⟨t,_,rfl⟩:=zah.mp a;trivial
theorem Vt.pure{s:Str}{d:D}(h:Vt s d):zw d:=by
 rcases h with⟨_,i,rfl⟩|⟨_,l,rfl,_⟩|⟨_,t,rfl,_⟩
 .trivial
 .exact ra l
 exact t.pure
abbrev Sig:=List (Str×List Str×Str)
noncomputable def sigL:Sig->Str->Option (List Str×Str)
 |[],_=>none
 |p::r,z=>if p.1=z then some p.2 else sigL r z
abbrev Env:=List (Str×Str)
noncomputable def envL:Env->Str->Option Str
 |[],_=>none
 |p::r,z=>if p.1=z then some p.2 else envL r z
mutual
inductive Et(fs:Sig)(g:Env):D->Str->Nat->Prop
 |num (i:Int):Et fs g (.tup [.str "num",.int i]) "num" 1
 |var {z s:Str} (h:envL g z=some s):Et fs g (.tup [.str "var",.str z]) s 1
 |nil:Et fs g (.tup [.str "nil"]) "list" 1
 |leaf:Et fs g (.tup [.str "leaf"]) "tree" 1
 |sum {k:Str} {a b:D} {m n:Nat} (hk:k = "add"\/k = "sub") (ha:Et fs g a "num" m) (hb:Et fs g b "num" n):Et fs g (.tup [.str k,a,b]) "num" (m+(n+0)+1)
 |cons {a b:D} {m n:Nat} (ha:Et fs g a "num" m) (hb:Et fs g b "list" n):Et fs g (.tup [.str "cons",a,b]) "list" (m+(n+0)+1)
 |node {a b c:D} {m n o:Nat} (ha:Et fs g a "tree" m) (hb:Et fs g b "num" n) (hc:Et fs g c "tree" o):Et fs g (.tup [.str "node",a,b,c]) "tree" (m+(n+(o+0))+1)
 |call {f s:Str} {es:List D} {ss:List Str} {m:Nat} (hf:sigL fs f=some (ss,s)) (he:Ets fs g es ss m):Et fs g (.tup [.str "call",.str f,.tup es]) s (m+1)
inductive Ets(fs:Sig)(g:Env):List D->List Str->Nat->Prop
 |nil:Ets fs g [] [] 0
 |cons {e:D} {s:Str} {es:List D} {ss:List Str} {m n:Nat} (h:Et fs g e s m) (t:Ets fs g es ss n):Ets fs g (e::es) (s::ss) (m+n)
end
inductive Bt(fs:Sig):Env->D->Str->Prop
 |give {g:Env} {e:D} {s:Str} {n:Nat} (h:Et fs g e s n) (l:n<=85):Bt fs g (.tup [.str "give",e]) s
 |bind {g:Env} {z s1 s:Str} {e b:D} {n:Nat} (lg:g.length<=100) (h:Et fs g e s1 n) (l:n<=85) (nd:(g.map Prod.fst++[z]).Nodup) (hb:Bt fs (g++[(z,s1)]) b s):Bt fs g (.tup [.str "let",.str z,e,b]) s
 |less {g:Env} {s:Str} {a b c d:D} {m n:Nat} (ha:Et fs g a "num" m) (hb:Et fs g b "num" n) (l:m<=85) (l2:n<=85) (hc:Bt fs g c s) (hd:Bt fs g d s):Bt fs g (.tup [.str "less",a,b,c,d]) s
 |list {g:Env} {x h t s:Str} {b c:D} (lg:g.length<=100) (hx:envL g x=some "list") (hb:Bt fs g b s) (nd:(g.map Prod.fst++[h,t]).Nodup) (hc:Bt fs (g++([(h,"num"),(t,"list")]:Env)) c s):Bt fs g (.tup [.str "list",.str x,b,.str h,.str t,c]) s
 |tree {g:Env} {x l v r s:Str} {b c:D} (lg:g.length<=100) (hx:envL g x=some "tree") (hb:Bt fs g b s) (nd:(g.map Prod.fst++[l,v,r]).Nodup) (hc:Bt fs (g++([(l,"tree"),(v,"num"),(r,"tree")]:Env)) c s):Bt fs g (.tup [.str "tree",.str x,b,.str l,.str v,.str r,c]) s
def Ft1:Env->List (Str×D)->Prop
 |[],r=>r=[]
 |p::g,r=>∃v r',r=(p.1,v)::r'/\Vt p.2 v/\Ft1 g r'
def Ft1.get:∀{g:Env}{r:List (Str×D)}{z s:Str},Ft1 g r->envL g z=some s->∃v,rowG r z=some v/\Vt s v
 |p::g,_,z,s,⟨v,r',rfl,hv,q⟩,e=>by
  unfold envL at e;unfold rowG;by_cases h:p.1=z
  .rw[zaK h]at e ⊢;cases e;exact⟨v,rfl,hv⟩
  rw[zaI h]at e ⊢;exact q.get e
def Ft1.names:∀{g:Env}{r:List (Str×D)},Ft1 g r->r.map Prod.fst=g.map Prod.fst
 |[],_,h=>by cases (show _=[] from h);rfl
 |p::g,_,⟨v,r',rfl,hv,q⟩=>by rw[zaB,zaB,q.names]
def Ft1.len{g:Env}{r:List (Str×D)}(h:Ft1 g r):r.length=g.length:=by
 have:=zbO List.length h.names
 rwa [zLm,zLm]at this
def Ft1.add:∀{g:Env}{r:List (Str×D)}{h:Env}{q:List (Str×D)},Ft1 g r->Ft1 h q->Ft1 (g++h) (r++q)
 |[],_,_,_,a,b=>by cases (show _=[] from a);exact b
 |p::g,_,_,_,⟨v,r',rfl,hv,a⟩,b=>⟨v,r'++_,rfl,hv,a.add b⟩
noncomputable abbrev lvD:D:=.tup [.str "leave"]
inductive Kt(fs:Sig):List Env->List D->List Str->Nat->Nat->Prop
 |done {s:Str}:Kt fs [] [] [s] 0 1
 |val {g:Env} {gs:List Env} {e:D} {s:Str} {ts:List D} {rs:List Str} {n k j:Nat} (h:Et fs g e s n) (q:Kt fs (g::gs) ts (s::rs) k (j+1)):Kt fs (g::gs) (vlD e::ts) rs (n+k) j
 |sum {o:Str} {a b:D} {g:Env} {gs:List Env} {ts:List D} {rs:List Str} {k j:Nat} (hk:o = "add"\/o = "sub") (q:Kt fs (g::gs) ts ("num"::rs) k (j+1)):Kt fs (g::gs) (apD (.tup [.str o,a,b])::ts) ("num"::"num"::rs) (1+k) (j+2)
 |cons {a b:D} {g:Env} {gs:List Env} {ts:List D} {rs:List Str} {k j:Nat} (q:Kt fs (g::gs) ts ("list"::rs) k (j+1)):Kt fs (g::gs) (apD (.tup [.str "cons",a,b])::ts) ("list"::"num"::rs) (1+k) (j+2)
 |node {a b c:D} {g:Env} {gs:List Env} {ts:List D} {rs:List Str} {k j:Nat} (q:Kt fs (g::gs) ts ("tree"::rs) k (j+1)):Kt fs (g::gs) (apD (.tup [.str "node",a,b,c])::ts) ("tree"::"num"::"tree"::rs) (1+k) (j+3)
 |call {f s:Str} {es:List D} {ss:List Str} {g:Env} {gs:List Env} {ts:List D} {rs:List Str} {k j:Nat} (hf:sigL fs f=some (ss,s)) (hl:es.length=ss.length) (q:Kt fs (g::gs) ts (s::rs) k (j+1)):Kt fs (g::gs) (apD (.tup [.str "call",.str f,.tup es])::ts) (ss.reverse++rs) (1+k) (j+ss.length)
 |body {g:Env} {gs:List Env} {b:D} {s:Str} {ts:List D} {rs:List Str} {k j:Nat} (h:Bt fs g b s) (q:Kt fs gs ts (s::rs) k (j+1)) (l:k+j<=170):Kt fs (g::gs) (bdD b::lvD::ts) rs 0 0
 |bring {g:Env} {gs:List Env} {z s1 s:Str} {e b:D} {ts:List D} {rs:List Str} {k j:Nat} (lg:g.length<=100) (pe:zw e) (nd:(g.map Prod.fst++[z]).Nodup) (h:Bt fs (g++[(z,s1)]) b s) (q:Kt fs gs ts (s::rs) k (j+1)) (l:k+j<=170):Kt fs (g::gs) (brD (.tup [.str "let",.str z,e,b])::lvD::ts) (s1::rs) 0 1
 |choose {g:Env} {gs:List Env} {s:Str} {a b c d:D} {ts:List D} {rs:List Str} {k j:Nat} (hc:Bt fs g c s) (hd:Bt fs g d s) (q:Kt fs gs ts (s::rs) k (j+1)) (l:k+j<=170):Kt fs (g::gs) (chD (.tup [.str "less",a,b,c,d])::lvD::ts) ("num"::"num"::rs) 0 2
 |leave {g:Env} {gs:List Env} {s:Str} {ts:List D} {rs:List Str} {k j:Nat} (q:Kt fs gs ts (s::rs) k (j+1)) (l:k+j<=170):Kt fs (g::gs) (lvD::ts) (s::rs) 0 1
theorem Kt.vals{fs:Sig}{g:Env}{a:List Env}:∀{es:List D}{ss:List Str}{ts:List D}{rs:List Str}{m k j:Nat},Ets fs g es ss m->Kt fs (g::a) ts (ss.reverse++rs) k (j+ss.length)->Kt fs (g::a) (es.map vlD++ts) rs (m+k) j
 |[],_,_,_,_,_,_,.nil,k=>by rw[Nat.zero_add];exact k
 |_::_,_,_,_,_,_,_,.cons h t,k=>by
  rw[Nat.add_assoc];exact .val h (Kt.vals t (by rw[zdH,zcG,zLc,<- Nat.add_assoc,Nat.add_right_comm]at k;exact k))
def Et.pos{fs:Sig}{g:Env}{e:D}{s:Str}{n:Nat}(h:Et fs g e s n):1<=n:=by
 cases h <;> lia
def Kt.len{fs:Sig}{a:List Env}{ts:List D}{rs:List Str}{k j:Nat}(h:Kt fs a ts rs k j)(hl:∀ f ss s,sigL fs f=some (ss,s)->ss.length<=4):ts.length+rs.length<=k+j+2+173*a.length:=by
 induction h with
 |done=>simp only[zLc,zLn];lia
 |val h q ih =>
  have:1<=_:=Et.pos h;simp only[zLc]at ih ⊢;lia
 |call hf _ q ih =>
  simp only[zLc,zLa,zaJ]at ih ⊢;lia
 |_ =>
  simp only[zLc] at *;lia
structure Rw where
 nm:Str
 as:List D
 up:Option Nat
 en:Option D
noncomputable def Rw.d(r:Rw):D:=.tup [.str r.nm,.tup r.as,r.up.elim .non λn=>.int n,.bl r.en.isSome,r.en.getD .non]
structure Sx where
 cl:List Rw
 st:List (Nat×Str)
 fr:List (Nat×List (Str×D))
 ts:List D
 rs:List D
noncomputable def Sx.ms(s:Sx):MS:=stt (s.cl.map Rw.d) (s.st.map λp=>stp p.1 p.2) (s.fr.reverse.map λp=>((p.1:Int),p.2)) s.ts.reverse s.rs.reverse
noncomputable def ad(st:List (Nat×Str))(n:Nat)(k:Str):List (Nat×Str):=st++[(n,k)]
inductive Nx(fns:List (Str×D)):Sx->Option Str->Sx->Prop
 |num {cl st fr ts rs} (i:Int):Nx fns ⟨cl,st,fr,vlD (.tup [.str "num",.int i])::ts,rs⟩ none ⟨cl,st,fr,ts,.int i::rs⟩
 |var {cl st n r fr z ts rs} {v:D} (h:rowG r z=some v) (pv:zw v):Nx fns ⟨cl,st,(n,r)::fr,vlD (.tup [.str "var",.str z])::ts,rs⟩ none ⟨cl,st,(n,r)::fr,ts,v::rs⟩
 |nil {cl st fr ts rs}:Nx fns ⟨cl,st,fr,vlD (.tup [.str "nil"])::ts,rs⟩ none ⟨cl,st,fr,ts,.tup []::rs⟩
 |leaf {cl st fr ts rs}:Nx fns ⟨cl,st,fr,vlD (.tup [.str "leaf"])::ts,rs⟩ none ⟨cl,st,fr,ts,.non::rs⟩
 |op {cl st fr ts rs} {k:Str} {es:List D} (hk:k = "cons"\/k = "node"\/k = "add"\/k = "sub") (pe:y7 es) (l:es.length<=10):Nx fns ⟨cl,st,fr,vlD (.tup (.str k::es))::ts,rs⟩ none ⟨cl,st,fr,es.map vlD++apD (.tup (.str k::es))::ts,rs⟩
 |call {cl st fr ts rs} {f:Str} {es:List D} (pe:y7 es) (l:es.length<=10):Nx fns ⟨cl,st,fr,vlD (.tup [.str "call",.str f,.tup es])::ts,rs⟩ none ⟨cl,st,fr,es.map vlD++apD (.tup [.str "call",.str f,.tup es])::ts,rs⟩
 |give {cl st fr ts rs} {e:D} (pe:zw e):Nx fns ⟨cl,st,fr,bdD (.tup [.str "give",e])::ts,rs⟩ none ⟨cl,st,fr,vlD e::ts,rs⟩
 |bind {cl st fr ts rs} {z:Str} {e b:D} (pe:zw e) (pb:zw b):Nx fns ⟨cl,st,fr,bdD (.tup [.str "let",.str z,e,b])::ts,rs⟩ none ⟨cl,st,fr,vlD e::brD (.tup [.str "let",.str z,e,b])::ts,rs⟩
 |less {cl st fr ts rs} {a b c d:D} (pa:zw a) (pb:zw b) (pc:zw c) (pd:zw d):Nx fns ⟨cl,st,fr,bdD (.tup [.str "less",a,b,c,d])::ts,rs⟩ none ⟨cl,st,fr,vlD a::vlD b::chD (.tup [.str "less",a,b,c,d])::ts,rs⟩
 |leave {c1 c2 st n r fr ts v rs} {q:Rw} (hn:c1.length=n) (he:q.en=none) (pa:y7 q.as) (pv:zw v):Nx fns ⟨c1++q::c2,st,(n,r)::fr,lvD::ts,v::rs⟩ none ⟨c1++{q with en:=some v}::c2,st,fr,ts,v::rs⟩
 |sum {cl st n r fr ts rs} {k:Str} {a b:D} {x y:Int} (hk:k = "add"\/k = "sub"):Nx fns ⟨cl,st,(n,r)::fr,apD (.tup [.str k,a,b])::ts,.int y::.int x::rs⟩ (some "sum") ⟨cl,ad st n "sum",(n,r)::fr,ts,.int (if k = "add" then x+y else x-y)::rs⟩
 |cons {cl st n r fr ts rs} {a b:D} {x:Int} {l:List Int} (h:l.length<100):Nx fns ⟨cl,st,(n,r)::fr,apD (.tup [.str "cons",a,b])::ts,.tup (l.map D.int)::.int x::rs⟩ (some "make") ⟨cl,ad st n "make",(n,r)::fr,ts,.tup (.int x::l.map D.int)::rs⟩
 |node {cl st n r fr ts rs} {a b c:D} {x:Int} {t u:Tr} (h:t.nodes+u.nodes<100):Nx fns ⟨cl,st,(n,r)::fr,apD (.tup [.str "node",a,b,c])::ts,u.d::.int x::t.d::rs⟩ (some "make") ⟨cl,ad st n "make",(n,r)::fr,ts,(Tr.nd t x u).d::rs⟩
 |bring {cl st n r fr ts v rs} {z:Str} {e b:D} (nd:(r.map Prod.fst++[z]).Nodup) (pe:zw e) (pb:zw b) (pv:zw v) (br:r.length<=800):Nx fns ⟨cl,st,(n,r)::fr,brD (.tup [.str "let",.str z,e,b])::ts,v::rs⟩ (some "let") ⟨cl,ad st n "let",(n,r++[(z,v)])::fr,bdD b::ts,rs⟩
 |choose {cl st n r fr ts rs} {a b c d:D} {x y:Int} (pc:zw c) (pd:zw d):Nx fns ⟨cl,st,(n,r)::fr,chD (.tup [.str "less",a,b,c,d])::ts,.int y::.int x::rs⟩ (some "less") ⟨cl,ad st n "less",(n,r)::fr,bdD (if x<y then c else d)::ts,rs⟩
 |openN {cl st n r fr ts rs} {x h t:Str} {b c:D} (hv:rowG r x=some (.tup [])) (nd:(r.map Prod.fst++[h,t]).Nodup) (pb:zw b) (pc:zw c) (br:r.length<=800):Nx fns ⟨cl,st,(n,r)::fr,bdD (.tup [.str "list",.str x,b,.str h,.str t,c])::ts,rs⟩ (some "open") ⟨cl,ad st n "open",(n,r)::fr,bdD b::ts,rs⟩
 |openC {cl st n r fr ts rs} {x h t:Str} {b c:D} {i:Int} {l:List Int} (hv:rowG r x=some (.tup (.int i::l.map D.int))) (nd:(r.map Prod.fst++[h,t]).Nodup) (pb:zw b) (pc:zw c) (br:r.length<=800):Nx fns ⟨cl,st,(n,r)::fr,bdD (.tup [.str "list",.str x,b,.str h,.str t,c])::ts,rs⟩ (some "open") ⟨cl,ad st n "open",(n,r++[(h,.int i),(t,.tup (l.map D.int))])::fr,bdD c::ts,rs⟩
 |openL {cl st n r fr ts rs} {x l v w:Str} {b c:D} (hv:rowG r x=some .non) (pb:zw b) (pc:zw c) (br:r.length<=800):Nx fns ⟨cl,st,(n,r)::fr,bdD (.tup [.str "tree",.str x,b,.str l,.str v,.str w,c])::ts,rs⟩ (some "open") ⟨cl,ad st n "open",(n,r)::fr,bdD b::ts,rs⟩
 |openT {cl st n r fr ts rs} {x l v w:Str} {b c:D} {i:Int} {t u:Tr} (hv:rowG r x=some (Tr.nd t i u).d) (hn:(Tr.nd t i u).nodes<=100) (nd:(r.map Prod.fst++[l,v,w]).Nodup) (pb:zw b) (pc:zw c) (br:r.length<=800):Nx fns ⟨cl,st,(n,r)::fr,bdD (.tup [.str "tree",.str x,b,.str l,.str v,.str w,c])::ts,rs⟩ (some "open") ⟨cl,ad st n "open",(n,r++[(l,t.d),(v,.int i),(w,u.d)])::fr,bdD c::ts,rs⟩
 |enter {cl st fr ts rs} {f:Str} {es us:List D} {n0 sz b:D} {ps:List (Str×D)} (hf:rowG fns f=some (.tup [n0,pmD ps,sz,b])) (le:us.length=es.length) (ne:us≠[]) (l10:us.length<=10) (pu:y7 us) (lp:ps.length=us.length) (nd:(ps.map Prod.fst).Nodup) (h20:fr.length<20):Nx fns ⟨cl,st,fr,apD (.tup [.str "call",.str f,.tup es])::ts,us.reverse++rs⟩ (some "call") ⟨cl++[⟨f,us,fr.head?.map Prod.fst,none⟩],ad st cl.length "call",(cl.length,(ps.map Prod.fst).zip us)::fr,bdD b::lvD::ts,rs⟩
inductive Cx1(fns:List (Str×D)):Sx->Prop
 |cons {cl st n r fr ts rs} {a b:D} {x:Int} {l:List Int} (h:l.length=100):Cx1 fns ⟨cl,st,(n,r)::fr,apD (.tup [.str "cons",a,b])::ts,.tup (l.map D.int)::.int x::rs⟩
 |node {cl st n r fr ts rs} {a b c:D} {x:Int} {t u:Tr} (ht:t.nodes<=100) (hu:u.nodes<=100) (h:100<=t.nodes+u.nodes):Cx1 fns ⟨cl,st,(n,r)::fr,apD (.tup [.str "node",a,b,c])::ts,u.d::.int x::t.d::rs⟩
 |enter {cl st fr ts rs} {f:Str} {es us:List D} {n0 sz b:D} {ps:List (Str×D)} (hf:rowG fns f=some (.tup [n0,pmD ps,sz,b])) (le:us.length=es.length) (ne:us≠[]) (l10:us.length<=10) (pu:y7 us) (lp:ps.length=us.length) (nd:(ps.map Prod.fst).Nodup) (pf:zw (.tup [n0,pmD ps,sz,b])) (h20:20<=fr.length):Cx1 fns ⟨cl,st,fr,apD (.tup [.str "call",.str f,.tup es])::ts,us.reverse++rs⟩
def Et.pure{fs:Sig}{g:Env}{e:D}{s:Str}{n:Nat}(h:Et fs g e s n):zw e:=Et.rec (motive_1:=λe _ _ _=>zw e) (motive_2:=λes _ _ _=>y7 es) (λ_=>⟨zaA,zaA,zaA⟩) (λ_=>⟨zaA,zaA,zaA⟩) ⟨zaA,zaA⟩ ⟨zaA,zaA⟩ (λ_ _ _ a b=>⟨zaA,a,b,zaA⟩) (λ_ _ a b=>⟨zaA,a,b,zaA⟩) (λ_ _ _ a b c=>⟨zaA,a,b,c,zaA⟩) (λ_ _ i=>⟨zaA,zaA,i,zaA⟩) trivial (λ_ _ i j=>⟨i,j⟩) h
def Ets.pure{fs:Sig}{g:Env}{es:List D}{d:List Str}{n:Nat}(h:Ets fs g es d n):y7 es:=Ets.rec (motive_1:=λe _ _ _=>zw e) (motive_2:=λes _ _ _=>y7 es) (λ_=>⟨zaA,zaA,zaA⟩) (λ_=>⟨zaA,zaA,zaA⟩) ⟨zaA,zaA⟩ ⟨zaA,zaA⟩ (λ_ _ _ a b=>⟨zaA,a,b,zaA⟩) (λ_ _ a b=>⟨zaA,a,b,zaA⟩) (λ_ _ _ a b c=>⟨zaA,a,b,c,zaA⟩) (λ_ _ i=>⟨zaA,zaA,i,zaA⟩) trivial (λ_ _ i j=>⟨i,j⟩) h
theorem Ets.len{fs:Sig}{g:Env}:∀{es:List D}{ss:List Str}{n:Nat},Ets fs g es ss n->es.length=ss.length
 |_,_,_,.nil=>rfl
 |_,_,_,.cons _ t=>by rw[zLc,zLc,t.len]
theorem Bt.pure{fs:Sig}{g:Env}{b:D}{s:Str}(h:Bt fs g b s):zw b:=by
 induction h with
 |give h _=>exact⟨zaA,h.pure,zaA⟩
 |bind _ h _ _ _ i=>exact⟨zaA,zaA,h.pure,i,zaA⟩
 |less a b _ _ _ _ i j=>exact⟨zaA,a.pure,b.pure,i,j,zaA⟩
 |list _ _ _ _ _ i j=>exact⟨zaA,zaA,i,zaA,zaA,j,zaA⟩
 |tree _ _ _ _ _ i j=>exact⟨zaA,zaA,i,zaA,zaA,zaA,j,zaA⟩
def FrT:List Env->List (Nat×List (Str×D))->Prop
 |[],l=>l=[]
 |g::gs,l=>∃n r q,l=(n,r)::q/\Ft1 g r/\FrT gs q
def RsT:List Str->List D->Prop
 |[],l=>l=[]
 |s::ss,l=>∃v q,l=v::q/\Vt s v/\RsT ss q
theorem RsT.split:∀{a b:List Str}{l:List D},RsT (a++b) l->∃p q,l=p++q/\RsT a p/\RsT b q
 |[],_,l,h=>⟨[],l,rfl,rfl,h⟩
 |s::a,b,_,⟨v,q,rfl,hv,h⟩=>let ⟨p,q',e,h1,h2⟩:=RsT.split (a:=a) (b:=b) h;⟨v::p,q',by rw[e];rfl,⟨v,p,rfl,hv,h1⟩,h2⟩
theorem RsT.len:∀{a:List Str}{l:List D},RsT a l->l.length=a.length
 |[],_,h=>by cases (show _=[] from h);rfl
 |_::_,_,⟨_,_,rfl,_,h⟩=>by rw[zLc,zLc,h.len]
theorem RsT.app:∀{a b:List Str}{p q:List D},RsT a p->RsT b q->RsT (a++b) (p++q)
 |[],_,_,_,h,k=>by cases (show _=[] from h);exact k
 |_::_,_,_,_,⟨v,r,rfl,hv,h⟩,k=>⟨v,r++_,rfl,hv,h.app k⟩
theorem RsT.rev:∀{a:List Str}{l:List D},RsT a l->RsT a.reverse l.reverse
 |[],_,h=>by cases (show _=[] from h);rfl
 |s::a,_,⟨v,r,rfl,hv,h⟩=>by
  rw[zdH,zdH];exact h.rev.app ⟨v,[],rfl,hv,rfl⟩
theorem RsT.pure:∀{a:List Str}{l:List D},RsT a l->y7 l
 |[],_,h=>by cases (show _=[] from h);trivial
 |_::_,_,⟨v,r,rfl,hv,h⟩=>⟨hv.pure,h.pure⟩
def La(fns:List (Str×D))(fs:Sig):Prop:=∀f ss s,sigL fs f=some (ss,s)->∃n0 ps sz b,rowG fns f=some (.tup [n0,pmD ps,sz,b])/\ps.length=ss.length/\1<=ss.length/\ss.length<=4/\(ps.map Prod.fst).Nodup/\zw (.tup [n0,pmD ps,sz,b])/\Bt fs ((ps.map Prod.fst).zip ss) b s
structure Ok(fs:Sig)(s:Sx):Prop where
 ex:∃gs ss k j,Kt fs gs s.ts ss k j/\k+j<=171/\FrT gs s.fr/\RsT ss s.rs
 nd:(s.fr.map Prod.fst).Nodup
 op:∀n∈s.fr.map Prod.fst,∃q:Rw,s.cl[n]?=some q/\q.en=none
 pa:∀q∈s.cl,y7 q.as
 f20:s.fr.length<=20
 cs:s.cl.length<=s.st.length
theorem Nt:∀{zs:List Str}{ss:List Str}{us:List D},zs.length=ss.length->RsT ss us->Ft1 (zs.zip ss) (zs.zip us)
 |[],[],_,_,h=>by cases (show _=[] from h);rfl
 |z::zs,s::ss,_,hl,⟨v,q,rfl,hv,h⟩=>⟨v,zs.zip q,rfl,hv,Nt (Nat.succ.inj hl) h⟩
def Ln{s:List Rw}{n:Nat}{q:Rw}(h:s[n]?=some q):∃a b,s=a++q::b/\a.length=n:=by
 have hl:=(zag.mp h).1;refine⟨s.take n,s.drop (n+1),?_,by rw[zaX];lia⟩
 rw[<- (zag.mp h).2,List.getElem_cons_drop hl,List.take_append_drop]
def Zc{d:D}(h:Vt "num" d):∃i:Int,d=.int i:=by
 rcases h with⟨_,h⟩|⟨e,_⟩|⟨e,_⟩
 .exact h
 .exact absurd e aB
 exact absurd e aB
def Pa{d:D}(h:Vt "list" d):∃l:List Int,d=.tup (l.map D.int)/\l.length<=100:=by
 rcases h with⟨e,_⟩|⟨_,h⟩|⟨e,_⟩
 .exact absurd e aB
 .exact h
 exact absurd e aB
def Vp{d:D}(h:Vt "tree" d):∃t:Tr,d=t.d/\t.nodes<=100:=by
 rcases h with⟨e,_⟩|⟨e,_⟩|⟨_,h⟩
 .exact absurd e aB
 .exact absurd e aB
 exact h
def okI{fs:Sig}{s:Sx}{d:List Env}{a:List Str}{k j:Nat}(h:Kt fs d s.ts a k j)(h1:k+j<=171)(h2:FrT d s.fr)(e:RsT a s.rs):∃d a k j,Kt fs d s.ts a k j/\k+j<=171/\FrT d s.fr/\RsT a s.rs:=⟨d,a,k,j,h,h1,h2,e⟩
def nxI{fns:List (Str×D)}{fs:Sig}{s s':Sx}{l:Option Str}(h:Nx fns s l s')(o:Ok fs s'):Cx1 fns s\/∃l s',Nx fns s l s'/\Ok fs s':=.inr ⟨l,s',h,o⟩
def rsI{s:Str}{a:List Str}{v:D}{q:List D}(h:Vt s v)(k:RsT a q):RsT (s::a) (v::q):=⟨v,q,rfl,h,k⟩
def frI{g:Env}{a:List Env}{n:Nat}{r:List (Str×D)}{q:List (Nat×List (Str×D))}(h:Ft1 g r)(k:FrT a q):FrT (g::a) ((n,r)::q):=⟨n,r,q,rfl,h,k⟩
def Kg{fns:List (Str×D)}{fs:Sig}(hF:La fns fs){s:Sx}(h:Ok fs s)(hn:s.ts≠[]):Cx1 fns s\/∃l s',Nx fns s l s'/\Ok fs s':=by
 obtain⟨⟨gs,ss,K,J,kt,kj,fr,rs⟩,nd,op,I,g,cs⟩:=h;obtain⟨cl,st,F,ts,R⟩:=s
 dsimp only at *
 have L:∀(n:Nat)(k:Str),cl.length<=(ad st n k).length:=λn k=>by unfold ad;rw[zLa];lia
 cases kt with
 |done=>exact absurd rfl hn
 |val he k =>
  cases he with
  |num i=>exact nxI (.num i) ⟨okI k aD fr (rsI (.inl ⟨rfl,i,rfl⟩) rs),nd,op,I,g,cs⟩
  |var W =>
   obtain⟨n,r,q,rfl,G,B⟩:=fr;obtain⟨v,e,W⟩:=G.get W;exact nxI (.var e W.pure) ⟨okI k aD (frI G B) (rsI W rs),nd,op,I,g,cs⟩
  |nil=>exact nxI (.nil) ⟨okI k aD fr (rsI (.inr (.inl ⟨rfl,[],rfl,by decide⟩)) rs),nd,op,I,g,cs⟩
  |leaf=>exact nxI (.leaf) ⟨okI k aD fr (rsI (.inr (.inr ⟨rfl,.lf,rfl,by decide⟩)) rs),nd,op,I,g,cs⟩
  |sum hk a b=>exact nxI (.op (by rcases hk with rfl|rfl <;> simp) ⟨a.pure,b.pure,zaA⟩ (zaD rfl)) ⟨okI (Kt.vals (.cons a (.cons b .nil)) (.sum hk k)) aD fr rs,nd,op,I,g,cs⟩
  |cons a b=>exact nxI (.op (.inl rfl) ⟨a.pure,b.pure,zaA⟩ (zaD rfl)) ⟨okI (Kt.vals (.cons a (.cons b .nil)) (.cons k)) aD fr rs,nd,op,I,g,cs⟩
  |node a b c=>exact nxI (.op (.inr (.inl rfl)) ⟨a.pure,b.pure,c.pure,zaA⟩ (zaD rfl)) ⟨okI (Kt.vals (.cons a (.cons b (.cons c .nil))) (.node k)) aD fr rs,nd,op,I,g,cs⟩
  |call G he =>
   obtain⟨_,_,_,_,_,_,_,l4,_,_,_⟩:=hF _ _ _ G;exact nxI (.call he.pure (by rw[he.len];lia)) ⟨okI (Kt.vals he (.call G he.len k)) aD fr rs,nd,op,I,g,cs⟩
 |sum hk k =>
  obtain⟨n,r,q,rfl,G,B⟩:=fr;obtain⟨v,_,rfl,h1,w,Q,rfl,h2,rs⟩:=rs;obtain⟨y,rfl⟩:=Zc h1;obtain⟨x,rfl⟩:=Zc h2;exact nxI (.sum hk) ⟨okI k aD (frI G B) (rsI (.inl ⟨rfl,_,rfl⟩) rs),nd,op,I,g,L _ _⟩
 |cons k =>
  obtain⟨n,r,q,rfl,G,B⟩:=fr;obtain⟨v,_,rfl,h1,w,Q,rfl,h2,rs⟩:=rs;obtain⟨l,rfl,hl⟩:=Pa h1;obtain⟨x,rfl⟩:=Zc h2;by_cases c:l.length<100
  .exact nxI (.cons c) ⟨okI k aD (frI G B) (rsI (.inr (.inl ⟨rfl,x::l,rfl,c⟩)) rs),nd,op,I,g,L _ _⟩
  exact .inl (.cons aD)
 |node k =>
  obtain⟨n,r,q,rfl,G,B⟩:=fr;obtain⟨v,_,rfl,h1,w,_,rfl,h2,z,Q,rfl,h3,rs⟩:=rs;obtain⟨u,rfl,hu⟩:=Vp h1;obtain⟨x,rfl⟩:=Zc h2;obtain⟨t,rfl,ht⟩:=Vp h3;by_cases c:t.nodes+u.nodes<100
  .exact nxI (.node c) ⟨okI k aD (frI G B) (rsI (.inr (.inr ⟨rfl,.nd t x u,rfl,by show 1+t.nodes+u.nodes<=100;lia⟩)) rs),nd,op,I,g,L _ _⟩
  exact .inl (.node ht hu aD)
 |call G hl k =>
  obtain⟨p,Q,rfl,h1,h2⟩:=rs.split;have h1:=h1.rev;rw[zeN]at h1;obtain⟨us,rfl⟩:∃us,p=us.reverse:=⟨p.reverse,p.reverse_reverse.symm⟩;rw[zeN]at h1;obtain⟨n0,ps,sz,b,e,lp,l1,l4,np,pf,M⟩:=hF _ _ _ G;have ul:=h1.len;by_cases c:F.length<20
  .refine nxI (.enter e aD (λz=>by rw[z]at ul;simp at ul;lia) aD h1.pure aD np c) ⟨okI (.body M k aD) aD (frI (Nt (by rw[zLm];exact lp) h1) fr) h2,?_,?_,?_,c,by unfold ad;rw[zLa,zLa];exact Nat.add_le_add_right cs 1⟩
   .show(cl.length::F.map Prod.fst).Nodup;refine zaQ.mpr ⟨λm=>?_,nd⟩;obtain⟨q,V,_⟩:=op _ m;have:=(zag.mp V).1;lia
   .intro p Z;rcases zam.mp Z with rfl|Z
    .exact⟨_,by show(cl++[_])[cl.length]?=_;rw[zaF (zaj _),zeI];rfl,rfl⟩
    obtain⟨q,V,z⟩:=op p Z;exact⟨q,by show(cl++[_])[p]?=_;rw[zaG (zag.mp V).1];exact V,z⟩
   intro q V;rcases zas.mp V with V|V
   .exact I q V
   rw[zaC.mp V];exact h1.pure
  exact .inl (.enter e aD (λz=>by rw[z]at ul;simp at ul;lia) aD h1.pure aD np pf aD)
 |body M k kl =>
  cases M with
  |give he l=>exact nxI (.give he.pure) ⟨okI (.val he (.leave k kl)) aD fr rs,nd,op,I,g,cs⟩
  |bind lg he l ne M=>exact nxI (.bind he.pure M.pure) ⟨okI (.val he (.bring lg he.pure ne M k kl)) aD fr rs,nd,op,I,g,cs⟩
  |less a b l l2 c d=>exact nxI (.less a.pure b.pure c.pure d.pure) ⟨okI (.val a (.val b (.choose c d k kl))) aD fr rs,nd,op,I,g,cs⟩
  |list lg N M ne O =>
   obtain⟨n,r,q,rfl,G,B⟩:=fr;obtain⟨v,e,W⟩:=G.get N;obtain⟨l,rfl,hl⟩:=Pa W;cases l with
   |nil=>exact nxI (.openN e (by rw[G.names];exact ne) M.pure O.pure (by rw[G.len];lia)) ⟨okI (.body M k kl) aD (frI G B) rs,nd,op,I,g,L _ _⟩
   |cons i l=>exact nxI (.openC e (by rw[G.names];exact ne) M.pure O.pure (by rw[G.len];lia)) ⟨okI (.body O k kl) aD (frI (G.add ⟨_,_,rfl,.inl ⟨rfl,i,rfl⟩,_,_,rfl,.inr (.inl ⟨rfl,l,rfl,by have:l.length+1<=100:=hl;lia⟩),rfl⟩) B) rs,nd,op,I,g,L _ _⟩
  |tree lg N M ne O =>
   obtain⟨n,r,q,rfl,G,B⟩:=fr;obtain⟨v,e,W⟩:=G.get N;obtain⟨t,rfl,ht⟩:=Vp W;cases t with
   |lf=>exact nxI (.openL e M.pure O.pure (by rw[G.len];lia)) ⟨okI (.body M k kl) aD (frI G B) rs,nd,op,I,g,L _ _⟩
   |nd t i u =>
    have a4:1+t.nodes+u.nodes<=100:=ht;exact nxI (.openT e ht (by rw[G.names];exact ne) M.pure O.pure (by rw[G.len];lia)) ⟨okI (.body O k kl) aD (frI (G.add ⟨_,_,rfl,.inr (.inr ⟨rfl,t,rfl,by lia⟩),_,_,rfl,.inl ⟨rfl,i,rfl⟩,_,_,rfl,.inr (.inr ⟨rfl,u,rfl,by lia⟩),rfl⟩) B) rs,nd,op,I,g,L _ _⟩
 |bring lg pe ne M k kl =>
  obtain⟨n,r,q,rfl,G,B⟩:=fr;obtain⟨v,Q,rfl,h1,rs⟩:=rs;exact nxI (.bring (by rw[G.names];exact ne) pe M.pure h1.pure (by rw[G.len];lia)) ⟨okI (.body M k kl) aD (frI (G.add ⟨v,[],rfl,h1,rfl⟩) B) rs,nd,op,I,g,L _ _⟩
 |choose O hd k kl =>
  obtain⟨n,r,q,rfl,G,B⟩:=fr;obtain⟨v,_,rfl,h1,w,Q,rfl,h2,rs⟩:=rs;obtain⟨y,rfl⟩:=Zc h1;obtain⟨x,rfl⟩:=Zc h2;exact nxI (.choose O.pure hd.pure) ⟨okI (.body (s:=_) (by split <;> assumption) k kl) aD (frI G B) rs,nd,op,I,g,L _ _⟩
 |leave k kl =>
  obtain⟨n,r,q,rfl,G,B⟩:=fr;obtain⟨v,Q,rfl,h1,rs⟩:=rs;obtain⟨w,hw,en⟩:=op n zao;obtain⟨c1,c2,rfl,O⟩:=Ln hw;have a0:=zaQ.mp nd;refine nxI (.leave O en (I w aE) h1.pure) ⟨okI k aD B (rsI h1 rs),a0.2,?_,?_,by have g:q.length+1<=20:=g;show q.length<=20;lia,by show(c1++_::c2).length<=_;rw[zLa,zLc]at cs ⊢;exact cs⟩
  .intro p Z;obtain⟨x,N,ex⟩:=op p (zal _ Z);have pn:p≠n:=λe=>a0.1 (e▸Z);refine⟨x,?_,ex⟩;show(c1++_::c2)[p]?=_;rw[<- N];rcases Nat.lt_trichotomy p c1.length with z|z|z
   .rw[zaG z,zaG z]
   .lia
   rw[zaF aD,zaF aD]
   obtain⟨j,hj⟩:∃j,p-c1.length=j+1:=⟨p-c1.length-1,by lia⟩
   rw[hj];rfl
  intro x N;rcases zas.mp N with N|N
  .exact I x (by simp[N])
  rcases zam.mp N with rfl|N
  .exact I w aE
  exact I x (by simp[N])
structure Sz(s:Sx):Prop where
 ln:s.cl.length+s.st.length+s.ts.length+s.rs.length<=8000
 pr:y7 s.rs
def yw{l:List D}(h:y7 l):y7 l.reverse:=yi.mpr λd a=>yi.mp h d (List.mem_reverse.mp a)
section
variable{fns:List (Str×D)}{most:Int}{P:MS->Prop}
def Cc{cl st ts rs:List D}{fs:List (Int×List (Str×D))}{i:Int}(b:Sm1 cl st ts rs)(h:Fin C R fns most P (stt cl st fs ts (rs++[.int i]))):Fin C R fns most P (stt cl st fs (ts++[vlD (.tup [.str "num",.int i])]) rs) :=
 yf rfl ⟨ts,.inr (.inl ⟨_,rfl,λY a=>⟨fns,most,_,rfl,by have:=b.1;show ts.length<=10000;lia,by have:=b.1;show rs.length<=10000;lia,.inl ⟨_,rfl,zaA,a⟩⟩⟩)⟩ h
def Js{cl st ts rs:List D}{fs:List (Int×List (Str×D))}{z:Str}{e b1:D}(b:Sm1 cl st ts rs)(d:zw e)(g:zw b1)(h:Fin C R fns most P (stt cl st fs (ts++[brD (.tup [.str "let",.str z,e,b1])]++[vlD e]) rs)):Fin C R fns most P (stt cl st fs (ts++[bdD (.tup [.str "let",.str z,e,b1])]) rs) :=
 yf rfl ⟨ts,.inl ⟨_,rfl,λY a=>⟨fns,most,_,rfl,by have:=b.1;show ts.length<=10000;lia,.inr (.inl ⟨.str z,e,b1,rfl,zaA,d,g,a⟩)⟩⟩⟩ h
def Fy{s s':Sx}(b:Sz s)(h:Nx fns s none s')(k:Fin C R fns most P s'.ms):Fin C R fns most P s.ms:=by
 have bl:=b.ln;have u:=b.pr;have a:∀{x:D}{ts:List D},s.ts=x::ts->Sm1 (s.cl.map Rw.d) (s.st.map λp=>stp p.1 p.2) ts.reverse s.rs.reverse:=λe=>by
  rw[e,zLc]at bl;exact⟨by simp only[zLm,zaJ];lia,yw u⟩
 cases h <;> (unfold Sx.ms at k ⊢;simp only[zdH,List.reverse_append,zMa,zaB,zbV]at k ⊢)
 case num i=>exact Cc (a rfl) k
 case var hv pv=>exact Ca (a rfl) hv pv k
 case nil=>exact Cd (a rfl) k
 case leaf=>exact Jp (a rfl) k
 case op hk pe l=>exact z2k (a rfl) hk aD pe (by rw[<- List.map_reverse]at k;exact k)
 case call pe l=>exact Jr (a rfl) aD pe (by rw[<- List.map_reverse]at k;exact k)
 case give pe=>exact Jq (a rfl) pe k
 case bind pe pb=>exact Js (a rfl) pe pb k
 case less pa pb pc pd=>exact Jo (a rfl) pa pb pc pd k
 case leave c1 c2 st n r fr ts v rs q hn he pa pv =>
  obtain⟨g,as,up,j⟩:=q;cases (show j=none from he);have e1:c1.map Rw.d++Rw.d ⟨g,as,up,none⟩::c2.map Rw.d=c1.map Rw.d++[.tup [.str g,.tup as,up.elim .non λn=>.int n,.bl false,.non]]++c2.map Rw.d:=by rw[zcG];rfl
  rw[e1];exact M7 (m:=n) (by rw[zLm];exact hn) trivial pa (by cases up <;> trivial) pv (by rw[zcG];exact k)
end
section
variable{fns:List (Str×D)}{most:Int}{P:MS->Prop}{cl st ts rs:List D}{fs:List (Int×List (Str×D))}{n:Int}{rows:List (Str×D)}{a b e v:D}
def Cb{k:Str}{x y:Int}(g:k = "add"\/k = "sub")(s:Sm1 cl st ts rs)(l:bx most P cl st)(h:¬ most<=st.length->Fin C R fns most P (stt cl (st++[stp n "sum"]) (fs++[(n,rows)]) ts (rs++[.int (if k = "add" then x+y else x-y)]))) :
  Fin C R fns most P (stt cl st (fs++[(n,rows)]) (ts++[apD (.tup [.str k,a,b])]) (rs++[.int x]++[.int y])):=by
 have r:=s.1;have j:rs++[D.int x]++[D.int y]=rs++[.int x,.int y]:=by simp
 have e:(rs++[D.int x]++[D.int y]).length<=10000:=by simp;lia
 by_cases q:most<=st.length
 .refine yf (s1:=⟨cl,st,fs++[(n,rows)],ts,rs++[.int x]++[.int y],true⟩) rfl ⟨ts,.inr (.inr (.inl ⟨_,rfl,λY d=>⟨fns,most,_,rs,rfl,e,s.2,.inr (.inr (.inr ⟨k,a,b,x,y,fs,n,rows,rfl,g,rfl,by show st.length<=10000;lia,j,?_⟩))⟩⟩))⟩ (xq (.inr rfl) (l q _ rfl rfl rfl))
  rw[wy q];exact d
 refine yf rfl ⟨ts,.inr (.inr (.inl ⟨_,rfl,λY d=>⟨fns,most,_,rs,rfl,e,s.2,.inr (.inr (.inr ⟨k,a,b,x,y,fs,n,rows,rfl,g,rfl,by show st.length<=10000;lia,j,?_⟩))⟩⟩))⟩ (h q)
 rw[wx q];exact d
def M8{z:Str}(s:Sm1 cl st ts rs)(g:zw e)(j:zw b)(d:zw v)(r:rows.length<=900)(k:(rows.map Prod.fst++[z]).Nodup)(u:bx most P cl st)(h:¬ most<=st.length->Fin C R fns most P (stt cl (st++[stp n "let"]) (fs++[(n,rows++[(z,v)])]) (ts++[bdD b]) rs)) :
  Fin C R fns most P (stt cl st (fs++[(n,rows)]) (ts++[brD (.tup [.str "let",.str z,e,b])]) (rs++[v])):=by
 have x:=s.1;have l:(rs++[v]).length<=10000:=by simp;lia
 by_cases q:most<=st.length
 .refine yf (s1:=⟨cl,st,fs++[(n,rows)],ts,rs++[v],true⟩) rfl ⟨ts,.inr (.inr (.inr (.inl ⟨_,rfl,λY a=>⟨fns,most,_,fs,n,rows,z,e,b,rs,v,rfl,rfl,rfl,rfl,by show st.length<=10000;lia,l,by show ts.length<=10000;lia,g,j,d,s.2,r,k,?_⟩⟩)))⟩ (xq (.inr rfl) (u q _ rfl rfl rfl))
  rw[wy q];exact a
 refine yf rfl ⟨ts,.inr (.inr (.inr (.inl ⟨_,rfl,λY a=>⟨fns,most,_,fs,n,rows,z,e,b,rs,v,rfl,rfl,rfl,rfl,by show st.length<=10000;lia,l,by show ts.length<=10000;lia,g,j,d,s.2,r,k,?_⟩⟩)))⟩ (h q)
 rw[wx q];exact a
end
theorem Ov:∀{n:Nat}{d:D},okD n d->okD (n+1) d
 |0,d,h=>by
  cases d with
  |non=>trivial
  |bl=>trivial
  |int=>trivial
  |str=>trivial
  |_=>exact h.elim
 |n+1,d,h=>by
  cases d with
  |non=>trivial
  |bl=>trivial
  |int=>trivial
  |str=>trivial
  |tup S=>exact λx a=>Ov (h x a)
  |lst S=>exact λx a=>Ov (h x a)
  |_=>exact h.elim
def Ow{n m:Nat}{d:D}(hl:n<=m)(h:okD n d):okD m d:=by
 induction hl with
 |refl=>exact h
 |step _ ih=>exact Ov ih
theorem Tr.dep:∀(t:Tr),okD (t.nodes+1) t.d
 |.lf=>trivial
 |.nd l _ r=>λx a=>by
  have h1:=l.dep;have h2:=r.dep;simp only[zam,zaS,zdK]at a;rcases a with rfl|rfl|rfl
  .exact Ow (by show l.nodes+1<=1+l.nodes+r.nodes;lia) h1
  .rw[xg];trivial
  exact Ow (by show r.nodes+1<=1+l.nodes+r.nodes;lia) h2
def Dx(l:List Int):∀d∈l.map D.int,okD 149 d:=λd a=>by
 obtain⟨i,_,rfl⟩:=zah.mp a;rw[xg];trivial
def z3j(fr:List (Nat×List (Str×D))):((fr.head?.map Prod.fst).elim .non λn=>D.int n)=upD (fr.reverse.map λp=>((p.1:Int),p.2)):=by
 cases fr with
 |nil=>rfl
 |cons p l =>
  unfold upD;rw[zdH,zMa,zaB,zbV,List.getLast?_append];rfl
section
variable{fns:List (Str×D)}{most:Int}{P:MS->Prop}
def Tu{s s':Sx}{k:Str}(hl:∀ l:List Int,R "list" (.tup (l.map D.int)) l.length)(N:∀ t:Tr,t.nodes<=201->R "tree" t.d t.nodes)(Q:∀ f d,rowG fns f=some d->zw d)(b:Sz s)(h:Nx fns s (some k) s')(B:bx most P (s.cl.map Rw.d) (s.st.map λp=>stp p.1 p.2))(g:¬ most<=s.st.length->Fin C R fns most P s'.ms):Fin C R fns most P s.ms:=by
 have W:=b.ln;have G:=b.pr;cases h <;> (unfold Sx.ms at g ⊢;unfold ad at g;simp only[zdH,List.reverse_append,zeN,zMa,zaB,zbV]at g ⊢;simp only[zLc,zLa,zaJ]at W)
 case sum hk =>
  exact Cb hk ⟨by simp only[zLm,zaJ];lia,yw G.2.2⟩ B λq=>g (by rwa [zLm]at q)
 case cons l c =>
  exact Rg (sz:=((_::l:List Int).length:Nat)) ⟨by simp only[zLm,zaJ];lia,yw G.2.2⟩ trivial (ra l) (by rw[zLm];lia) (hl (_::l)) B (λz=>absurd z (by rw[zLc];lia)) λq _=>g (by rwa [zLm]at q)
 case node n r fr ts rs a b1 c1 x t u c =>
  have e:((Tr.nd t x u).nodes:Int)=((1+t.nodes+u.nodes:Nat):Int):=rfl;exact Jn (sz:=((Tr.nd t x u).nodes:Nat)) ⟨by simp only[zLm,zaJ];lia,yw G.2.2.2⟩ ⟨t.pure,zaA,u.pure,zaA⟩ (N (.nd t x u) (by show 1+t.nodes+u.nodes<=201;lia)) (by rw[e];lia) B λq=>g (by rwa [zLm]at q)
 case bring n r fr ts v rs z e b2 nd pe j pv br =>
  exact M8 ⟨by simp only[zLm,zaJ];lia,yw G.2⟩ pe j pv aD nd B λq=>g (by rwa [zLm]at q)
 case choose pc pd =>
  exact Qs ⟨by simp only[zLm,zaJ];lia,yw G.2.2⟩ pc pd B λq=>g (by rwa [zLm]at q)
 case openN n r fr ts rs x y t b1 c1 hv nd j pc br =>
  exact Rf ⟨by simp only[zLm,zaJ];lia,yw G⟩ hv trivial (λ_ z=>(nomatch z)) j pc aD nd B (λq _=>g (by rwa [zLm]at q)) (λ_ _ _ z=>nomatch z)
 case openC n r fr ts rs x y t b1 c1 i l hv nd j pc br =>
  refine Rf ⟨by simp only[zLm,zaJ];lia,yw G⟩ hv ⟨zaA,ra l⟩ (Dx (i::l)) j pc aD nd B (λ_ z=>nomatch z) (λq v w e=>?_)
  obtain⟨rfl,rfl⟩:=List.cons.inj e;exact g (by rwa [zLm]at q)
 case openL n r fr ts rs x l v w b1 c1 hv j pc br =>
  exact M5 ⟨by simp only[zLm,zaJ];lia,yw G⟩ hv j pc aD B λq=>g (by rwa [zLm]at q)
 case openT n r fr ts rs x l v w b1 c1 i t u hv hn nd j pc br =>
  exact M4 ⟨by simp only[zLm,zaJ];lia,yw G⟩ hv ⟨t.pure,zaA,u.pure,zaA⟩ (Ow aD (Tr.nd t i u).dep) j pc aD nd B λq=>g (by rwa [zLm]at q)
 case enter fr ts rs f es us n0 sz b1 ps e le ne l10 pu lp nd h20 =>
  obtain⟨M,L,I,j,_⟩:=Q _ _ e;have J:y7 rs:=(Zk.mp G).2;refine Ww ⟨by simp only[zLm,zaJ];lia,yw J⟩ e le ne l10 pu M (yi.mpr λd V=>?_) I j lp nd (λz=>?_) B λq _=>?_
  .obtain⟨p,O,rfl⟩:=zah.mp V;exact(yi.mp L _ (zah.mpr ⟨p,O,rfl⟩)).2.1
  .rw[zLm,zaJ]at z;lia
  have:=g (by rwa [zLm]at q)
  rw[zLm,<- z3j];exact this
end
section
variable{fns:List (Str×D)}{most:Int}{P:MS->Prop}
def M6{cl st ts rs:List D}{fs:List (Int×List (Str×D))}{n:Int}{rows:List (Str×D)}{e1 e2 j e d a:D}{sz:Int}(b:Sm1 cl st ts rs)(pl:y7 [e,d,a])(l:R "tree" (.tup [e,d,a]) sz)(z:100<sz)(k:∀ s1:MS,s1.cut=true->s1.calls=cl->s1.steps=st->P s1) :
  Fin C R fns most P (stt cl st (fs++[(n,rows)]) (ts++[apD (.tup [.str "node",e1,e2,j])]) (rs++[e]++[d]++[a])):=by
 have r:=b.1;have q:rs++[e]++[d]++[a]=rs++[e,d,a]:=by simp
 refine yf (s1:=⟨cl,st,fs++[(n,rows)],ts,rs,true⟩) rfl ⟨ts,.inr (.inr (.inl ⟨_,rfl,λY g=>⟨fns,most,_,rs,rfl,by show(rs++[e]++[d]++[a]).length<=10000;simp;lia,b.2,.inr (.inr (.inl ⟨e1,e2,j,e,d,a,rfl,q,pl.1,pl.2.1,pl.2.2.1,fns,most,_,fs,n,rows,"tree",.tup [e,d,a],sz,rfl,rfl,rfl,by show st.length<=10000;lia,by show rs.length<=10000;lia,pl,l,?_⟩))⟩⟩))⟩ (xq (.inr rfl) (k _ rfl rfl rfl))
 rw[zaK z];exact g
def Fx{s:Sx}(hl:∀ l:List Int,R "list" (.tup (l.map D.int)) l.length)(I:∀ t:Tr,t.nodes<=201->R "tree" t.d t.nodes)(b:Sz s)(h:Cx1 fns s)(k:∀ s1:MS,s1.cut=true->s1.calls=s.cl.map Rw.d->s1.steps=s.st.map (λp=>stp p.1 p.2)->P s1):Fin C R fns most P s.ms:=by
 have M:=b.ln;have g:=b.pr;have j:bx most P (s.cl.map Rw.d) (s.st.map λp=>stp p.1 p.2):=λ_=>k;cases h <;> (unfold Sx.ms;simp only[zdH,List.reverse_append,zeN,zMa,zaB,zbV];simp only[zLc,zLa,zaJ]at M)
 case cons l c =>
  exact Rg (sz:=((_::l:List Int).length:Nat)) ⟨by simp only[zLm,zaJ];lia,yw g.2.2⟩ trivial (ra l) (by rw[zLm];lia) (hl (_::l)) j (λ_=>k) λ_ z=>absurd (show(100:Int)<((_::l:List Int).length:Nat) by rw[zLc];lia) z
 case node n r fr ts rs a b1 c1 x t u h1 h2 c =>
  have e:((Tr.nd t x u).nodes:Int)=((1+t.nodes+u.nodes:Nat):Int):=rfl;exact M6 (sz:=((Tr.nd t x u).nodes:Nat)) ⟨by simp only[zLm,zaJ];lia,yw g.2.2.2⟩ ⟨t.pure,zaA,u.pure,zaA⟩ (I (.nd t x u) (by show 1+t.nodes+u.nodes<=201;lia)) (by rw[e];lia) k
 case enter fr ts rs f es us n0 sz b1 ps e le ne l10 pu lp nd pf h20 =>
  obtain⟨G,y,q,B,_⟩:=pf;have v:y7 rs:=(Zk.mp g).2;refine Ww ⟨by simp only[zLm,zaJ];lia,yw v⟩ e le ne l10 pu G (yi.mpr λd L=>?_) q B lp nd (λ_=>k) j λ_ z=>absurd (show 20<=(fr.reverse.map λp=>((p.1:Int),p.2)).length by rw[zLm,zaJ];exact h20) z
  obtain⟨p,J,rfl⟩:=zah.mp L;exact(yi.mp y _ (zah.mpr ⟨p,J,rfl⟩)).2.1
end
inductive Rn(fns:List (Str×D))(fs:Sig)(m:Nat):Sx->Sx->Bool->Prop
 |done {s:Sx} (o:Ok fs s) (h:s.ts=[]):Rn fns fs m s s false
 |cutB {s:Sx} (o:Ok fs s) (h:Cx1 fns s):Rn fns fs m s s true
 |cutM {s s':Sx} {k:Str} (o:Ok fs s) (h:Nx fns s (some k) s') (l:m<=s.st.length):Rn fns fs m s s true
 |adm {s s' t:Sx} {b:Bool} (o:Ok fs s) (h:Nx fns s none s') (r:Rn fns fs m s' t b):Rn fns fs m s t b
 |stp {s s' t:Sx} {k:Str} {b:Bool} (o:Ok fs s) (h:Nx fns s (some k) s') (l:s.st.length<m) (r:Rn fns fs m s' t b):Rn fns fs m s t b
def Nx.len{fns:List (Str×D)}{s s':Sx}{l:Option Str}(h:Nx fns s l s'):s'.st.length=s.st.length+(if l.isSome then 1 else 0):=by
 cases h <;> first|rfl|(show(ad _ _ _).length=_;unfold ad;rw[zLa];rfl)
def wtT(d:D):Nat:=match d with
 |.tup [.str k,x]=>if k = "value" then 2*sizeOf x else if k = "body" then 2*sizeOf x+1 else 1
 |_=>1
def wtS:List D->Nat
 |[]=>0
 |t::ts=>wtT t+wtS ts
def d6(e:D):wtT (vlD e)=2*sizeOf e:=rfl
def Ff(e:D):wtT (bdD e)=2*sizeOf e+1:=by
 unfold bdD wtT
 dsimp only
 rw[zaI aB,zaK rfl]
def Cy(e:D):wtT (apD e)=1:=by
 unfold apD wtT
 dsimp only
 rw[zaI aB,zaI aB]
def z3g(e:D):wtT (brD e)=1:=by
 unfold brD wtT
 dsimp only
 rw[zaI aB,zaI aB]
def z3f(e:D):wtT (chD e)=1:=by
 unfold chD wtT
 dsimp only
 rw[zaI aB,zaI aB]
def P9(es:List D)(ts:List D):wtS (es.map vlD++ts)+2<=2*sizeOf es+wtS ts:=by
 induction es with
 |nil=>show wtS ts+2<=2*1+_;lia
 |cons e es ih =>
  show wtT (vlD e)+wtS (es.map vlD++ts)+2<=2*(1+sizeOf e+sizeOf es)+_;rw[d6];lia
def Nx.down{fns:List (Str×D)}{s s':Sx}(h:Nx fns s none s'):wtS s'.ts<wtS s.ts:=by
 cases h
 case num=>show _<wtT _+_;rw[d6];simp;lia
 case var=>show _<wtT _+_;rw[d6];simp;lia
 case nil=>show _<wtT _+_;rw[d6];simp;lia
 case leaf=>show _<wtT _+_;rw[d6];simp;lia
 case op ts rs k es _ _ _ =>
  have:=P9 es (apD (.tup (.str k::es))::ts);show wtS (es.map vlD++apD (.tup (.str k::es))::ts)<wtT _+wtS ts;have e:wtS (apD (.tup (.str k::es))::ts)=1+wtS ts:=by show wtT _+_=_;rw[Cy]
  rw[d6];simp;lia
 case call ts rs f es _ _ =>
  have:=P9 es (apD (.tup [.str "call",.str f,.tup es])::ts);show wtS (es.map vlD++apD (.tup [.str "call",.str f,.tup es])::ts)<wtT _+wtS ts;have e:wtS (apD (.tup [.str "call",.str f,.tup es])::ts)=1+wtS ts:=by show wtT _+_=_;rw[Cy]
  rw[d6];simp;lia
 case give=>show wtT _+_<wtT _+_;rw[d6,Ff];simp;lia
 case bind=>show wtT _+(wtT _+_)<wtT _+_;rw[d6,Ff,z3g];simp;lia
 case less=>show wtT _+(wtT _+(wtT _+_))<wtT _+_;rw[d6,d6,Ff,z3f];simp;lia
 case leave c1 c2 st n r fr ts v rs q _ _ _ _=>show wtS ts<1+wtS ts;lia
theorem O1{fns:List (Str×D)}{fs:Sig}(a:La fns fs)(m:Nat):∀(s:Sx),Ok fs s->∃t c,Rn fns fs m s t c
 |s,o=>by
  by_cases hn:s.ts=[]
  .exact⟨s,false,.done o hn⟩
  rcases Kg a o hn with h|⟨l,s',h,o'⟩
  .exact⟨s,true,.cutB o h⟩
  cases l with
  |none =>
   have:=h.down;have hl:=h.len;obtain⟨t,c,r⟩:=O1 a m s' o';exact⟨t,c,.adm o h r⟩
  |some k =>
   by_cases q:m<=s.st.length
   .exact⟨s,true,.cutM o h q⟩
   have hl:=h.len;obtain⟨t,c,r⟩:=O1 a m s' o';exact⟨t,c,.stp o h aD r⟩
termination_by s=>(m-s.st.length,wtS s.ts)
decreasing_by
 .rw[hl];exact Prod.Lex.right _ this
 have e:s'.st.length=s.st.length+1:=hl;exact Prod.Lex.left _ _ aD
theorem FrT.len:∀{gs:List Env}{l:List (Nat×List (Str×D))},FrT gs l->l.length=gs.length
 |[],_,h=>by cases (show _=[] from h);rfl
 |_::_,_,⟨_,_,_,rfl,_,h⟩=>by rw[zLc,zLc,h.len]
def Kr{fns:List (Str×D)}{fs:Sig}(l:La fns fs){s:Sx}(o:Ok fs s)(h:s.st.length<=1000):Sz s:=by
 obtain⟨r,g,k,j,kt,q,fr,rs⟩:=o.ex;have a:=kt.len λf g s h=>(l f g s h).elim λ_ h=>h.elim λ_ h=>h.elim λ_ h=>h.elim λ_ h=>h.2.2.2.1;have b:=fr.len;have c:=rs.len;have d:=o.f20;have e:=o.cs;exact⟨by lia,rs.pure⟩
section
variable{fns:List (Str×D)}{P:MS->Prop}
def Ak{fs:Sig}{m:Nat}(hl:∀ l:List Int,R "list" (.tup (l.map D.int)) l.length)(j:∀ t:Tr,t.nodes<=201->R "tree" t.d t.nodes)(g:La fns fs)(q:∀ f d,rowG fns f=some d->zw d)(v:m<=1000){s t:Sx}{b:Bool}(r:Rn fns fs m s t b)(u:s.st.length<=m)(k:b=false->P t.ms)(a:b=true->∀ s1:MS,s1.cut=true->s1.calls=t.cl.map Rw.d->s1.steps=t.st.map (λp=>stp p.1 p.2)->P s1):Fin C R fns (m:Int) P s.ms:=by
 induction r with
 |done o h =>
  refine xq (.inl ?_) (k rfl);unfold Sx.ms;rw[h];rfl
 |cutB o h=>exact Fx hl j (Kr g o aD) h (a rfl)
 |cutM o h l=>exact Tu hl j q (Kr g o aD) h (λ_=>a rfl) λz=>absurd aD z
 |adm o h r ih=>exact Fy (Kr g o aD) h (ih (by have:=h.len;rw[this];exact u) k a)
 |stp o h l r ih =>
  have e:=h.len;refine Tu hl j q (Kr g o aD) h (λz=>absurd z ?_) λ_=>ih (by rw[e];exact l) k a
  rw[zLm];lia
end
noncomputable def qo(p:Nat×Str):Bool:=p.2==("call" : Str)
structure In2(s:Sx):Prop where
 ct:s.cl.length=(s.st.filter qo).length
def z5p{st:List (Nat×Str)}{n:Nat}{k:Str}(h:k≠"call"):((ad st n k).filter qo).length=(st.filter qo).length:=by
 unfold ad;rw[List.filter_append];have:qo (n,k)=false:=by
  unfold qo;rw[zbN];exact h
 simp[this]
def Nx.in2{fns:List (Str×D)}{s s':Sx}{l:Option Str}(h:Nx fns s l s')(i:In2 s):In2 s':=by
 obtain⟨a⟩:=i;cases h
 case leave=>exact⟨by dsimp only at *;rw[zLa,zLc]at a ⊢;exact a⟩
 case enter=>exact⟨by dsimp only at *;unfold ad;rw[zLa,List.filter_append,zLa,a];rfl⟩
 all_goals first
  |exact⟨a⟩
  |exact⟨by rw[z5p aB];exact a⟩
def Nx.adm{fns:List (Str×D)}{s s':Sx}(h:Nx fns s none s'):s'.st=s.st:=by
 cases h <;> rfl
theorem Rn.in2{fns:List (Str×D)}{fs:Sig}{m:Nat}{s t:Sx}{b:Bool}(r:Rn fns fs m s t b)(h:In2 s):In2 t:=by
 induction r with
 |done _ _=>exact h
 |cutB _ _=>exact h
 |cutM _ _ _=>exact h
 |adm _ n _ ih=>exact ih (n.in2 h)
 |stp _ n _ _ ih=>exact ih (n.in2 h)
def Rn.end_ok{fns:List (Str×D)}{fs:Sig}{m:Nat}{s t:Sx}{b:Bool}(r:Rn fns fs m s t b):Ok fs t/\(b=false->t.ts=[]):=by
 induction r with
 |done o h=>exact⟨o,λ_=>h⟩
 |cutB o h=>exact⟨o,λz=>(nomatch z)⟩
 |cutM o h l=>exact⟨o,λz=>(nomatch z)⟩
 |adm o h r ih=>exact ih
 |stp o h l r ih=>exact ih
def Rn.few{fns:List (Str×D)}{fs:Sig}{m:Nat}{s t:Sx}{b:Bool}(r:Rn fns fs m s t b)(a:s.st.length<=m):t.st.length<=m:=by
 induction r with
 |done o h=>exact a
 |cutB o h=>exact a
 |cutM o h l=>exact a
 |adm o h r ih=>exact ih (by rw[h.adm];exact a)
 |stp o h l r ih=>exact ih (by rw[h.len];exact l)
variable{Fz:D->D->Prop}
def yo{t u:TDS}{U:DE}{Z:DZ}(h:t U {Z with nx:=λρ'=>u ρ' Z}):sSeq t u U Z:=h
def db{i:Nat}{te:TD}{U:DE}{Z:DZ}(h:te U λr=>(nw r)/\Z.nx (setS U i r.sto)):sSet i te U Z:=h
def dg{tc:TDb}{t1 t2:TDS}{U:DE}{Z:DZ}(b:Bool)(h:∀ M:Bool->Prop,M b->tc U M)(h1:b=true->t1 U Z)(h2:b=false->t2 U Z):sIf tc t1 t2 U Z:=h _ ⟨h1,h2⟩
def Bx{t:TD}{U:DE}{M:Bool->Prop}(h:t U λr=>match r.d with|.bl b=>M b|_=>False):tBo t U M:=h
def ju{U:DE}{Z:DZ}(h:Z.nx U):sNil U Z:=h
def RT:Str->D->Int->Prop:=λa d n=>(a = "list"/\∃l:List Int,d=.tup (l.map D.int)/\n=l.length)\/(a = "tree"/\∃t:Tr,d=t.d/\n=t.nodes/\t.nodes<=201)
def Ec{fns:List (Str×D)}{a:Str}{i:Nat}{d:D}(h:∀ p∈fns.take i,p.1≠a)(e:fns[i]?=some (a,d)):rowG fns a=some d:=by
 induction fns generalizing i with
 |nil=>simp at e
 |cons p fns ih =>
  cases i with
  |zero =>
   simp only[List.getElem?_cons_zero,Option.some.injEq]at e;subst e;unfold rowG;simp
  |succ i =>
   have:=h p aE
   have:=ih (i:=i) (λq g=>h q (by simp[g])) (by simpa using e)
   unfold rowG
   simp_all
def K3{fns:List (Str×D)}{nm:Str}{d:D}(e:rowG fns nm=some d):∃p∈fns,p.1=nm:=by
 induction fns with
 |nil=>cases e
 |cons p fns ih =>
  unfold rowG at e;split at e
  .rename_i q;exact⟨p,by simp,by simp_all⟩
  obtain⟨q,a,e2⟩:=ih e;exact⟨q,by simp[a],e2⟩
def Bo:FT:=λS Y=>∃fns:List (Str×D),∃nm fn,S=[.tup (fns.map Prod.snd),.str nm]/\fns.length<=100/\(∀p∈fns,∃r,p.2=.tup (.str p.1::r))/\rowG fns nm=some fn/\zw fn/\Y (dv fn)
def Hu(Fz:D->D->Prop):FT:=λS Y=>∃s d,S=[s,d]/\Fz s d/\Y (dv (.bl true))
def Hv(Fz:D->D->Prop):FT:=λS Y=>∃n0 ps sz b as,S=[.tup [n0,pmD ps,sz,b],.lst as]/\ps.length=as.length/\ps.length<=100/\(∀p∈(ps.map Prod.snd).zip as,Fz p.1 p.2)/\Y (dv .non)
def FzT:D->D->Prop:=λs d=>(s=.str "num"/\∃i:Int,d=.int i)\/(s=.str "list"/\∃l:List Int,d=.tup (l.map D.int)/\l.length<=1000)\/(s=.str "tree"/\∃t:Tr,d=t.d/\t.nodes<=201)
def Bb:FT:=g1 λd Y=>∃t:Tr,d=t.d/\t.nodes<=201/\Y (dv (.bl true))
def Fm:FT:=g1 λd Y=>∃t:Tr,d=t.d/\t.nodes<=201/\Y (dv (.int t.nodes))
noncomputable def szD:D->Nat
 |.tup [l,_,r]=>1+szD l+szD r
 |_=>1
def Vv(d:D):1<=szD d:=by
 unfold szD;split <;> lia
noncomputable def sumZ(S:List D):Nat:=(S.map szD).sum
def rq(S es:List D):sumZ (S++es)=sumZ S+sumZ es:=by
 unfold sumZ;simp
theorem Ys:∀(S:List D),S.length<=sumZ S
 |[]=>zbW _
 |d::S=>by
  have:=Ys S;have:=Vv d;unfold sumZ at *;simp;lia
theorem Tr.sz:∀t:Tr,szD t.d=2*t.nodes+1
 |.lf=>by simp[Tr.d,Tr.nodes,szD]
 |.nd l v r=>by
  have h1:=l.sz;have h2:=r.sz;simp only[Tr.d,Tr.nodes,szD,h1,h2];lia
def Bm:FT:=λS Y=>∃n,S=[.int n]/\Y (dv (.bl true))
def qp(X:AX K mg C):FD P w K mg base 1 "function_of" pC Bo:=by
 refine QB X 8 ["program","name","function"] ?_;walk_at "b";refine⟨_,(ze (wm (xc (z9 0)) (zj (i:=2) ds.nd rfl aG) (yj 2) (zm (wl aR (zm (yg (z9 2))) x8)))
   (zm qe)),?_⟩
 obtain⟨fns,l,fn,rfl,hl1,B,v,y,h⟩:=hT;show sFor _ _ _ _ _;refine u4 (fns.map Prod.snd) ?_ (λi U=>(∃t,U=[q_ (.tup (fns.map Prod.snd)),q_ (.str l),t])/\∀p∈fns.take i,p.1≠l) ⟨⟨none,rfl⟩,by simp⟩ ?_ ?_
 .intro M a;exact⟨zaA,a⟩
 .rintro i d _ k ⟨⟨t,rfl⟩,j⟩;rw[zai]at k;cases ep:fns[i]? with
  |none=>rw[ep]at k;cases k
  |some p =>
   rw[ep]at k;cases k;have u:p∈fns:=zan ep;obtain⟨r,x⟩:=B p u;have tk:fns.take (i+1)=fns.take i++[p]:=by rw[zbL,ep];rfl
   obtain⟨z,d⟩:=p;simp only at x;subst x;refine dg (z==l) (λM a=>Bx (rj (dv (.str z)) (dv (.str l)) (λ_ h=>rj (dv (.tup (.str z::r))) (dv (.int 0)) aA aA (Zr (at_0 _ _) h)) aA ⟨zaR yt,zaR yt,a⟩)) (λe=>?_) (λe=>⟨⟨_,rfl⟩,?_⟩)
   .cases zfY e
    have e2:=Ec j ep;rw[e2]at v;cases v;exact⟨⟨zaA,y.2⟩,h⟩
   rw[tk];intro q g;rcases zas.mp g with g|g
   .exact j q g
   rw[zaC.mp g];exact zbN.mp e
 rintro _ ⟨⟨t,rfl⟩,j⟩;obtain⟨p,u,e⟩:=K3 v;rw[zLm,zbU]at j;exact j p u e
def Xc(X:AX K mg C)(k:FD P w K mg base 3 "fits" ["shape","thing"] (Hu Fz)):FD P w K mg base 4 "check_args" ["function","args"] (Hv Fz):=by
 refine QB X 18 ["function","args","shapes"] ?_;walk_at "b";refine⟨_,(ze (qb 2 ds.nd (.mk ["param","shape"] [] [] (xc aR) (λcl C fp s H=>(z9 1))))
   (ze (wl aR (zm qe) x8)
   (zm (xy 2 (wl (ba (si (Xi X.T.all (za (wj (.mk ["shape","arg"] [] [] (Me X.T.zip aR) (λcl C fp s H=>(y8 k (hr.e rfl) aR)))) zb)))) (zm qe) x8))))),?_⟩
 obtain⟨L,ps,sz,b,as,rfl,hl1,B,u,h⟩:=hT;refine yo (db (x3 (ps.map λp=>.tup [.str p.1,p.2]) ?_ (λd=>match d with|.tup [_,a]=>some a|_=>none) (by rw[zLm];lia) ?_ ?_))
 .intro M g;unfold pmD;exact⟨zaA,g⟩
 .intro d j;obtain⟨y,N,rfl⟩:=zah.mp j;exact⟨λ_=>⟨zaA,rfl⟩,nofun⟩
 have I:(ps.map λp=>D.tup [.str p.1,p.2]).filterMap (λd=>match d with|.tup [_,a]=>some a|_=>none)=ps.map Prod.snd:=by
  rw[zbX,<- zcZ];rfl
 rw[I];have r:as.length=(ps.map Prod.snd).length:=by rw[zLm];exact hl1.symm
 refine⟨zaA,zaA,zaA,λq=>absurd q (by show ¬ (!eqD (.int (as.length:Int)) (.int ((ps.map Prod.snd).length:Nat)))=true;rw[r,bh];simp),λ_=>ju ?_⟩
 dsimp only [sFrz,sIf,bNot,tTru,dCB,u9]
 refine x3 (zipD (ps.map Prod.snd) as) ?_ (λ_=>some (.bl true)) ?_ ?_ ?_
 .intro M g;exact⟨zaA,zaA,g⟩
 .unfold zipD;rw[List.length_zipWith];lia
 .intro d j;unfold zipD at j;have G:∀(E ys:List D),List.zipWith (λx y=>D.tup [x,y]) E ys=(E.zip ys).map λq=>D.tup [q.1,q.2]:=λE=>by
   induction E with
   |nil=>intro ys;simp
   |cons x E ih=>intro ys;cases ys with
    |nil=>simp
    |cons y ys=>simp[ih]
  rw[G]at j;obtain⟨q,v,rfl⟩:=zah.mp j;exact⟨λ_=>⟨rfl,_,_,rfl,u q v,zaA,rfl⟩,nofun⟩
 have J:∀l:List D,l.filterMap (λ_=>some (D.bl true))=(List.replicate l.length true).map D.bl:=λl=>by
  induction l with
  |nil=>rfl
  |cons x l ih=>simp only[zbG,zLc,zcC,zaB,ih]
 rw[J];show match blsD _ with|some bs=>_|none=>False
 rw[Xq];refine⟨λz=>?_,λ_=>h⟩
 dsimp only at z
 rw[show(List.replicate _ true).all id=true from by simp]at z
 cases z
def sf(X:AX K mg C):FD P w K mg base 1 "is_whole" ["thing"] Bm:=by
 refine QB X 7 ["thing"] ?_;walk_at "b";refine⟨_,(zm (yg (Rl (t8 X.T.isinstance (za (z9 0) (za (Qx X.T.int bu) zb))) (V6 (F3 (t8 X.T.isinstance (za (z9 0) (za (Qx X.T.bool Y2) zb)))))))),?_⟩;obtain⟨n,rfl,h⟩:=hT;exact⟨λ_=>⟨zaA,h⟩,nofun⟩
def So{l i:Nat}{S:List D}{d:D}{u:TDS}{U:DE}{Z:DZ}(h:slot U l=Q_ (.lst (S++[d])))(k:u (setS (setS U l (dO (.lst S))) i (dv d)) Z):sSeq (sPop l i) u U Z:=by
 unfold sSeq sPop;rw[h]
 dsimp only [dO]
 rw[Sq];exact k
def Qu(X:AX K mg C):FD P w K mg base 2 "is_tree" ["thing"] Bb:=by
 refine QB X 11 ["thing","waiting","part"] ?_;walk_at "b";refine⟨_,(ze (zx 1 ds.nd aR)
   (ze (Tv (si (z9 1)) (ze (Hy 1 2 ds.nd)
    (ze (wl (Cg (z9 2) ug) (zm Vx) x8)
    (ze (wl (EW.et (Z7 (ba (si (t8 X.T.isinstance (za (z9 2) (za (Qx X.T.tuple ka) zb))))) (Z7 aR (b9 (ba (si (y8 (sf X) (hr.e rfl) aR))))))) (zm (yg k9)) x8)
    (zm (W1 1 aR))))))
   (zm (yg k9)))),?_⟩
 obtain⟨D,rfl,t,rfl,B,h⟩:=Ju hT;refine⟨rfl,rfl,zaA,λU=>∃(ts:List Tr)(a2:Option EV),U=[q_ t.d,Q_ (.lst (ts.map Tr.d)),a2]/\sumZ (ts.map Tr.d)<=500,λU=>match U with
  |[_,some ⟨_,.lst S⟩,_]=>sumZ S
  | _=>0,⟨[t],none,rfl,by simp[sumZ,Tr.sz];lia⟩,?_⟩
 rintro U ⟨ts,a2,rfl,g⟩;refine Hm (S:=ts.map Tr.d) rfl ⟨λz=>?_,λz=>?_⟩
 .rcases zfT ts with rfl|⟨ts,q,rfl⟩
  .cases z
  rw[zeJ,zMa]at g ⊢;rw[rq]at g;have hl:=Ys (ts.map Tr.d);have a:sumZ (ts.map Tr.d++[q].map Tr.d)=sumZ (ts.map Tr.d)+szD q.d:=by rw[rq];simp[sumZ]
  have x:sumZ ([q].map Tr.d)=szD q.d:=by simp[sumZ]
  have j:=Vv q.d;cases q with
  |lf =>
   refine So (S:=ts.map Tr.d) rfl ⟨λ_=>⟨⟨ts,_,rfl,by lia⟩,?_⟩,nofun⟩
   exact Nat.lt_of_lt_of_eq (Nat.lt_add_of_pos_right j) a.symm
  |nd l v r =>
   have u:szD (Tr.nd l v r).d=1+szD l.d+szD r.d:=by simp[Tr.d,szD]
   rw[u]at a x;have k:sumZ (ts.map Tr.d++[l.d,r.d])=sumZ (ts.map Tr.d)+szD l.d+szD r.d:=by rw[rq];simp[sumZ];lia
   refine So (S:=ts.map Tr.d) rfl ⟨nofun,λ_=>⟨nofun,λ_=>⟨zaR (xg ..),zaR (xg ..),nofun,λ_=>⟨rfl,v,rfl,nofun,λ_=>⟨rfl,rfl,by simp at hl ⊢;lia,⟨ts++[l,r],q_ (.tup [l.d,.int v,r.d]),by rw[zMa];rfl,by simp only[zMa,zaB,zbV];lia⟩,?_⟩⟩⟩⟩⟩
   refine(show sumZ (ts.map Tr.d++[l.d,r.d])<sumZ (ts.map Tr.d++[Tr.nd l v r].map Tr.d) from ?_);rw[k,a];lia
 have y:ts=[]:=by cases ts with|nil=>rfl|cons=>cases z
 subst y;exact⟨zaA,h⟩
def Ut(X:AX K mg C):FD P w K mg base 1 "nodes_of" ["tree"] Fm:=by
 refine QB X 13 ["tree","many","waiting","part"] ?_;walk_at "b";refine⟨_,(ze (zx 1 ds.nd zc)
   (ze (zx 2 ds.nd aR)
   (ze (Tv (si (z9 2)) (ze (Hy 2 3 ds.nd)
    (zm (wl (Jv (z9 3) ug) (ze (Aa 1 ds.nd zc)
     (zm (W1 2 aR))) x8))))
   (zm (yg (z9 1)))))),?_⟩
 obtain⟨G,rfl,t,rfl,D,h⟩:=Ju hT;refine⟨zaA,rfl,rfl,zaA,λU=>∃(ts:List Tr)(a3:Option EV)(k:Nat),U=[q_ t.d,q_ (.int (k:Nat)),Q_ (.lst (ts.map Tr.d)),a3]/\k+(ts.map Tr.nodes).sum=t.nodes/\sumZ (ts.map Tr.d)<=500,λU=>match U with
  |[_,_,some ⟨_,.lst S⟩,_]=>sumZ S
  | _=>0,⟨[t],none,0,rfl,by simp,by simp[sumZ,Tr.sz];lia⟩,?_⟩
 rintro U ⟨ts,a2,k,rfl,a,g⟩;refine Hm (S:=ts.map Tr.d) rfl ⟨λz=>?_,λz=>?_⟩
 .rcases zfT ts with rfl|⟨ts,q,rfl⟩
  .cases z
  rw[zeJ,zMa]at g ⊢;rw[zeJ,zMa,List.sum_append]at a;rw[rq]at g;have hl:=Ys (ts.map Tr.d);have e:sumZ (ts.map Tr.d++[q].map Tr.d)=sumZ (ts.map Tr.d)+szD q.d:=by rw[rq];simp[sumZ]
  have y:sumZ ([q].map Tr.d)=szD q.d:=by simp[sumZ]
  have j:=Vv q.d;cases q with
  |lf =>
   refine So (S:=ts.map Tr.d) rfl ⟨nofun,λ_=>⟨⟨ts,_,k,rfl,by simpa [Tr.nodes] using a,by lia⟩,?_⟩⟩
   exact Nat.lt_of_lt_of_eq (Nat.lt_add_of_pos_right j) e.symm
  |nd l v r =>
   have x:szD (Tr.nd l v r).d=1+szD l.d+szD r.d:=by simp[Tr.d,szD]
   rw[x]at e y;have u:sumZ (ts.map Tr.d++[l.d,r.d])=sumZ (ts.map Tr.d)+szD l.d+szD r.d:=by rw[rq];simp[sumZ];lia
   refine So (S:=ts.map Tr.d) rfl ⟨λ_=>⟨rfl,rfl,by simp at hl ⊢;lia,⟨ts++[l,r],q_ (.tup [l.d,.int v,r.d]),k+1,by rw[zMa];rfl,by simp[Tr.nodes]at a ⊢;lia,by simp only[zMa,zaB,zbV];lia⟩,?_⟩,nofun⟩
   refine(show sumZ (ts.map Tr.d++[l.d,r.d])<sumZ (ts.map Tr.d++[Tr.nd l v r].map Tr.d) from ?_);rw[u,e];lia
 have B:ts=[]:=by cases ts with|nil=>rfl|cons=>cases z
 subst B;have:k=t.nodes:=by simpa using a
 subst this;exact⟨zaA,h⟩
def Ce(X:AX K mg C):FD P w K mg base 3 "fits" ["shape","thing"] (Hu FzT):=by
 refine QB X 10 ["shape","thing"] ?_;walk_at "b";refine⟨_,(ze (wl aR (zm (yg (y8 (sf X) (hr.e rfl) aR))) x8)
   (ze (wl aR (zm (yg (Rl (t8 X.T.isinstance (za (z9 1) (za (Qx X.T.tuple ka) zb))) (V6 (Xi X.T.all (za (wj (.mk ["number"] [] [] (xc (z9 1)) (λcl C fp s H=>(y8 (sf X) (hr.e rfl) aR)))) zb)))))) x8)
   (zm (yg (y8 (Qu X) (hr.e rfl) aR))))),?_⟩
 obtain⟨s,d,rfl,⟨rfl,i,rfl⟩|⟨rfl,l,rfl,j⟩|⟨rfl,t,rfl,g⟩,h⟩:=hT
 .exact cs ⟨λ_=>⟨rfl,_,rfl,zaA,h⟩,nofun⟩
 rotate_left
 .exact cs ⟨nofun,λ_=>cs ⟨nofun,λ_=>⟨rfl,t,rfl,g,zaA,h⟩⟩⟩
 refine cs ⟨nofun,λ_=>cs ⟨λ_=>?_,nofun⟩⟩;refine⟨λ_=>?_,nofun⟩
 dsimp only [dCB,u9]
 refine x3 (l.map D.int) ?_ (λ_=>some (.bl true)) (by rw[zLm];lia) ?_ ?_
 .intro M a;exact⟨zaA,a⟩
 .intro d k;obtain⟨y,r,rfl⟩:=zah.mp k;exact⟨λ_=>⟨rfl,y,rfl,zaA,rfl⟩,nofun⟩
 have q:∀l:List D,l.filterMap (λ_=>some (D.bl true))=(List.replicate l.length true).map D.bl:=λl=>by
  induction l with
  |nil=>rfl
  |cons x l ih=>simp only[zbG,zLc,zcC,zaB,ih]
 rw[q];show match blsD _ with|some bs=>su (dv (.bl (bs.all id))).ret/\Y (dv (.bl (bs.all id))).ret|none=>False
 rw[Xq]
 dsimp only
 rw[show(List.replicate _ true).all id=true from by simp]
 exact⟨zaA,h⟩
def Qt(X:AX K mg C):FD P w K mg base 5 "size_of" ["shape","value"] (Pl RT):=by
 refine QB X 12 ["shape","value"] ?_;walk_at "b";refine⟨_,(ze (wl aR (zm (yg zc)) x8)
   (ze (wl aR (zm (yg aR)) x8)
   (zm (yg (y8 (Ut X) (hr.e rfl) aR))))),?_⟩
 unfold Pl g2 at hT;split at hT
 .obtain⟨d,v,n,rfl,rfl,⟨rfl,l,rfl,rfl⟩|⟨rfl,t,rfl,rfl,a⟩,h⟩:=hT
  .exact cs ⟨nofun,λ_=>cs ⟨λ_=>⟨zaA,by rw[zLm];exact h⟩,nofun⟩⟩
  exact cs ⟨nofun,λ_=>cs ⟨nofun,λ_=>⟨rfl,t,rfl,a,zaA,h⟩⟩⟩
 exact hT.elim
def z5t(Y:EV->Prop)(s1:MS):Prop:=(s1.cut=true/\Y ⟨.new,.tup [.bl false,.non,.lst s1.calls,.lst s1.steps]⟩)\/(s1.cut=false/\∃v r,s1.ready=v::r/\zw v/\Y ⟨.new,.tup [.bl true,v,.lst s1.calls,.lst s1.steps]⟩)
def gi(C:Addr)(R:Str->D->Int->Prop)(Fz:D->D->Prop):FT:=λS Y=>∃fns:List (Str×D),∃nm as most n0 ps sz b,S=[.tup (fns.map Prod.snd),.str nm,.lst as,.int most]/\fns.length<=100/\(fns.map Prod.fst).Nodup/\y7 (fns.map Prod.snd)/\(∀p∈fns,∃r,p.2=.tup (.str p.1::r)) /\
 rowG fns nm=some (.tup [n0,pmD ps,sz,b])/\zw n0/\y7 (ps.map Prod.snd)/\zw sz/\zw b/\y7 as/\ps.length=as.length/\as.length<=10/\(ps.map Prod.fst).Nodup/\(∀p∈(ps.map Prod.snd).zip as,Fz p.1 p.2) /\
 Fin C R fns most (z5t Y) (ji most nm as ps b ms0)
noncomputable def Hh:Stmt->List Expr
 |.Assign _ (.Call _ as _ _) _=>as
 |_=>[]
def Ji{v:Value}(X:AX K mg C)(g:FD P w K mg base 4 "check_args" ["function","args"] (Hv Fz))(d:FM P w K mg base 8 C fNames "go" ["self"] (tGo C R))(Z:W.makesIn K C=true)(kC:W.keepIn K (.ref C)=true)(mR:mg "Run" = some (.ref C))(F:FunV K "trace" "trace" (top 17) f v fd):FnOk P w K mg base CX0 10 f fd ["program","name","args","most"] (spD K 4 (gi C R Fz)):=by
 have ds:zn ["program","name","args","most","run"] pE (zd (top 17)):=by walk_at "f"
 obtain⟨fI,a4,okI,bI,M⟩:=(C9 X).ex;obtain⟨fT,a0,k,bT,u⟩:=(Jj X).ex;refine z2f (N:=["program","name","args","most","run"]) (C:=C) (ns:=fNames) (m:="told") (l:=4) (nI:=3) (nM:=1) (TI:=Bn C) (TM:=Bc C) (as1:=Hh ((yr (top 17)).getD 1 (.Pass ⟨0,0,0,0⟩))) (λlen hb=>F.ok ds len hb) aB rfl rfl λqZ A outer s H xs S Y hr hl hT=>?_
 have hu:=hr.units;refine⟨_,_,_,_,(Yk (y8 g (hr.e rfl) (za (y8 (qp X) (hr.e rfl) (za (z9 0) (za (z9 1) zb))) (za (z9 2) zb)))),(za (z9 0) (za (z9 3) zb)),?_,(xn (yp X.O (Re X) (hr.e rfl) (y9 (z9 1) (y9 (va X.T.tuple (za (z9 2) zb)) x9)))),(xn (Rh X.O d (hr.e rfl))),?_,?_⟩
 .intro t ht;exact W6 (D3 ⟨Z,M.at_,M.fn,kC⟩ okI (hr.e rfl) rfl mR bI .nil U2 ht) (zj (i:=4) ds.nd rfl aG) rfl rfl rfl
 .exact Zm (Sr (uq rfl aG aB aB) X.O.cl u k (hr.e rfl) bT .nil U2 rfl)
 obtain⟨fns,G,as,most,I,ps,sz,b,rfl,hl1,nd,Q,J,L,D,p2,B,z,V,a,r,q,hz,n,s1,hR,h⟩:=hT;have j:zw (pmD ps):=yi.mpr λx hx=>by
  obtain⟨y,hy,rfl⟩:=zah.mp hx;exact⟨zaA,yi.mp p2 _ (zah.mpr ⟨y,hy,rfl⟩),zaA⟩
 refine⟨rfl,fns,G,_,rfl,hl1,J,L,⟨D,j,B,z,zaA⟩,rfl,I,ps,sz,b,as,rfl,a,by lia,hz,?_⟩
 refine⟨zaj 5,nofun,rfl,fns,most,rfl,rfl,hl1,nd,Q,J,rfl,?_⟩;refine⟨_,rfl,zaA,zaA,rfl,fns,most,ms0,G,as,I,ps,sz,b,rfl,rfl,L,D,p2,B,z,V,a,r,q,zbW _,zbW _,zbW _,?_⟩;exact⟨_,rfl,rfl,fns,most,_,s1,n,rfl,rfl,hR,_,rfl,fns,most,s1,rfl,rfl,h⟩
def wc{t u:TDS}{U ρ':DE}{Z:DZ}(e:U=ρ')(h:sSeq t u ρ' Z):sSeq t u U Z:=e▸h
def uw{i:Nat}{d:D}{U:DE}{M:DE->Prop}(h:M (setS U i (dv d))):gN i d U M:=h
def E6{tc:TDb}{t1 t2:TDS}{U:DE}{Z:DZ}{Q:Prop}(h:∀ M:Bool->Prop,(∀ b,(b=true->Q)->M b)->tc U M)(h1:Q->t1 U Z)(h2:t2 U Z):sIf tc t1 t2 U Z:=h _ λb q=>⟨λz=>h1 (q z),λ_=>h2⟩
def je{i:Nat}{t:TDS}{U:DE}{Z:DZ}(h:t (frzS U i) Z):sFrz i t U Z:=h
def ne_2:(2:Int)≠0:=by decide
def ne_3:(3:Int)≠0:=by decide
def ne_5:(5:Int)≠0:=by decide
def z1a:(23:Int)≠0:=by decide
def ne_6:(6:Int)≠0:=by decide
def fdl{i j:Int}(h:autoParam (j≠0) zSd)(h1:autoParam (j.natAbs<=1000000000000) zSd):FdOk i j:=zaR (Gy h h1)
def z1s{ns:List Int}{i n:Int}{Y:EV->Prop}(h:atI ns i=some n)(k:Y (dv (.int n))):sIxx (.scr ns) (.int i) Y:=by
 unfold sIxx sIx1
 dsimp only
 rw[h];exact k
def IsSh(z:Str):Prop:=z = "num"\/z = "list"\/z = "tree"
noncomputable def letC(w:Int):Nat:=(("abcdfghjkmnopqrstuvwxyz" : Str).cps.toList).getD w.toNat 0
noncomputable def one(c:Nat):Str:=⟨#[c]⟩
noncomputable def U4(ws:List Int)(a:Nat)(k:Nat):Str:=Str.join "" ((ws.set a ((ws.getD a 0+(k:Int)).fmod 23)).map λw=>one (letC w))
theorem R7:∀cs:List Nat,(Str.join "" (cs.map one)).cps.toList=cs
 |[]=>rfl
 |[c]=>rfl
 |c::c2::cs=>by
  have a:=R7 (c2::cs);have e:Str.join "" ((c::c2::cs).map one)=one c++("" : Str)++Str.join "" ((c2::cs).map one):=rfl;rw[e];show((#[c]++#[])++(Str.join "" ((c2::cs).map one)).cps:Array Nat).toList=_;rw[Array.toList_append,a];rfl
def J4:∀i j:_root_.Fin 23,letC (i.val:Int)=letC (j.val:Int)->i=j:=by decide +kernel
def U3(ws:List Int)(a:Nat)(v:a<ws.length)(m:Nat)(y:m<=20):((List.range m).map (U4 ws a)).Nodup:=by
 refine List.pairwise_map.mpr (List.Pairwise.imp_of_mem ?_ List.nodup_range);intro k g j d ne e;refine ne ?_;have j:=zdZ.mp j;have d:=zdZ.mp d;have x:∀k,(U4 ws a k).cps.toList=(ws.set a ((ws.getD a 0+(k:Int)).fmod 23)).map letC:=λk=>by
  unfold U4;rw[show((ws.set a ((ws.getD a 0+(k:Int)).fmod 23)).map λw=>one (letC w))=((ws.set a ((ws.getD a 0+(k:Int)).fmod 23)).map letC).map one from by rw[zaV];rfl]
  exact R7 _
 have e2:=zbO (λs:Str=>s.cps.toList[a]?) e;simp only[x,zai,zaU v,Option.map_some,Option.some.injEq]at e2;have u:=cg (ws.getD a 0+(k:Int)) 23 aB
 have r:=cg (ws.getD a 0+(g:Int)) 23 aB
 have q:=J4 ⟨((ws.getD a 0+(k:Int)).fmod 23).toNat,by lia⟩ ⟨((ws.getD a 0+(g:Int)).fmod 23).toNat,by lia⟩ (by
  simp only;rw[zeT u.1,zeT r.1];exact e2)
 have l:(ws.getD a 0+(k:Int)).fmod 23=(ws.getD a 0+(g:Int)).fmod 23:=by
  have:=zbO _root_.Fin.val q;simp only at this;lia
 rw[Int.fmod_eq_emod_of_nonneg _ aB,Int.fmod_eq_emod_of_nonneg _ aB]at l
 lia
def z3q:FT:=λS Y=>∃c,S=[.int c]/\∀n,Y (dv (.int n))
def Bk:FT:=λS Y=>∃c:Int,∃m:Nat,S=[.int c,.int m]/\m<=20/\∀zs:List Str,zs.length=m->zs.Nodup->Y (df (.lst (zs.map D.str)))
def Bu1:FT:=g2 λd e Y=>∃(ns:List Int)(k:Nat),d=.scr ns/\e=.int k/\∀c:Int,Y (dv (.int c))
def z3m:FT:=g1 λd Y=>∃(ns:List Int)(S:List D),d=.sx (.lst (ns.map D.int)::S)/\∀c:Int,0<=c->Y (dv (.int c))
def L1{a b:TDb}{U:DE}{M:Bool->Prop}(e:∀ M:Bool->Prop,M false->a U M)(d:∀ M:Bool->Prop,M false->b U M)(h:M false):bOr a b U M:=e _ ⟨λz=>(by cases z),λ_=>d _ h⟩
def E5{te:TD}{U:DE}{Z:DZ}(h:te U λr=>Z.rt r.ret):sRet te U Z:=h
def Dm{i:Nat}{tk te:TD}{U:DE}{Z:DZ}{S:List D}{k:Int}{j:Nat}(x:D)(e:slot U i=Q_ (.lst S))(h1:∀ M:EV->Prop,M (dv x)->te U M)(h2:∀ M:EV->Prop,M (dv (.int k))->tk U M)(e2:ixN S.length k=some j)(h:Z.nx (setS U i (dO (.lst (S.set j x))))):Pz i tk te U Z:=by
 unfold Pz;rw[e];refine h1 _ (h2 _ ⟨zaA,?_⟩);show match ixN S.length k with|some j=>Z.nx (setS U i (dO (.lst (S.set j x))))|none=>False
 rw[e2];exact h
noncomputable abbrev nmE(c:Int)(m:Nat)(l:DE):DE:=q_ (.int c)::q_ (.int m)::q_ (.str "abcdfghjkmnopqrstuvwxyz")::l
def Wy(X:AX K mg C):FD P w K mg base 1 "_law_names" ["_law_cell","_law_many"] Bk:=by
 refine QB X 39 ["_law_cell","_law_many","_law_letters","_law_word","_law_at","_law_names_here","_law_k","_law_turned_here"] ?_;walk_at "b";refine⟨_,(ze (zx 2 ds.nd zf)
   (ze (zx 0 ds.nd (x6 (z9 0) (gw zc zc)))
   (ze (qb 3 ds.nd (.mk ["_law_k"] ["_law_cell"] [0] (xk X.T.range aR) QG))
   (ze (zx 4 ds.nd aR)
   (ze (zx 5 ds.nd aR)
   (ze (wm (xk X.T.range aR) (zj (i:=6) ds.nd rfl aG) (yj 6) (ze (zx 7 ds.nd (Rj X.T.list aR))
    (ze (E3 7 hu (z9 4) aR)
    (zm (xy 7 (wn 5 (Jz zf (wj (.mk ["_law_part"] ["_law_letters"] [2] (xc (z9 7)) QG)))))))))
   (zm (yg (z9 5))))))))),?_⟩
 obtain⟨J,m,rfl,hl1,h⟩:=hT;refine⟨zaA,?_⟩;refine⟨⟨by decide,by decide,by decide⟩,(show(10 ^ 9:Int)≠0 by decide),zaA,?_⟩
 have cb:=cg J (10 ^ 9) aB
 obtain⟨c,G⟩:∃c,J.fmod (10 ^ 9)=c:=⟨_,rfl⟩;rw[G]at cb;have c8:=cg c 8 aB
 dsimp only
 refine wc (ρ':=nmE c m [none,none,none,none,none]) (by rw[<- G];rfl) (yo (db (x3 (rngD 0 (1+c.fmod 8).toNat) (λM e=>⟨λz=>(nomatch z),by lia,by lia,e⟩) (λd=>match d with|.int k=>some (.int ((c.fdiv (k+1)+k*k).fmod 23))|_=>none) (by rw[sn];lia) (λd r=>?_) ?_)))
 .obtain⟨i,hi⟩:=zbJ r;obtain⟨R,rfl⟩:=uv hi;rw[zgA];exact⟨λ_=>⟨fdOk (m:=64) aD (Rq aD),zdE (Rq (m:=64) aD),z1a,zaA,rfl⟩,nofun⟩
 obtain⟨ws,v,l1,l2,Z⟩:∃ws:List Int,(∀w∈ws,0<=w/\w<23)/\1<=ws.length/\ws.length<=8/\(rngD 0 (1+c.fmod 8).toNat).filterMap (λd=>match d with|.int k=>some (D.int ((c.fdiv (k+1)+k*k).fmod 23))|_=>none)=ws.map D.int:=by
  refine⟨(List.range (1+c.fmod 8).toNat).map λk:Nat=>(c.fdiv ((k:Int)+1)+(k:Int)*k).fmod 23,λw v=>?_,by rw[zLm,zcW];lia,by rw[zLm,zcW];lia,?_⟩
  .obtain⟨k,_,rfl⟩:=zah.mp v;exact cg _ 23 aB
  unfold rngD;rw[zbX,zaV,<- zcZ]
  congr 1
  funext k
  simp
 rw[Z];have ab:=cg (c.fdiv 8) ws.length aD
 obtain⟨at_,I⟩:∃at_:Nat,(c.fdiv 8).fmod ws.length=at_:=⟨((c.fdiv 8).fmod ws.length).toNat,by lia⟩
 rw[I]at ab;refine⟨zaA,fdl,by show((ws.map D.int).length:Int)≠0;rw[zLm];lia,zaA,?_⟩
 dsimp only
 refine wc (ρ':=nmE c m [Q_ (.lst (ws.map D.int)),q_ (.int at_),none,none,none]) (by rw[<- I];show[_,_,_,_,q_ (.int ((c.fdiv 8).fmod (ws.map D.int).length)),_,_,_]=_;rw[zLm];rfl) ?_
 refine⟨rfl,rfl,zaA,?_⟩
 dsimp only
 refine yo (u4 (rngD 0 m) (λM e=>⟨by lia,by lia,e⟩) (λi U=>∃a b,U=(nmE c m [Q_ (.lst (ws.map D.int)),q_ (.int at_),Q_ (.lst (((List.range i).map (U4 ws at_)).map D.str)),a,b])) ⟨none,none,rfl⟩ ?_ ?_)
 .rintro i d _ r ⟨a,b,rfl⟩;obtain⟨hi,rfl⟩:=uv r;have lt:at_<ws.length:=by lia
  have e1:atI ws (at_:Int)=some (ws.getD at_ 0):=uu aD (by simp[lt])
  have e2:ixN ws.length (at_:Int)=some at_:=by
   unfold ixN;rw[zaK aD,zaK aD]
   simp
  have l:(("abcdfghjkmnopqrstuvwxyz" : Str).cps.toList).length=23:=by decide +kernel
  have sz:("abcdfghjkmnopqrstuvwxyz" : Str).length<=sizeLine:=by rw[zbC];decide +kernel
  refine⟨zaA,?_⟩
  dsimp only
  refine wc (ρ':=nmE c m [Q_ (.lst (ws.map D.int)),q_ (.int at_),Q_ (.lst (((List.range i).map (U4 ws at_)).map D.str)),q_ (.int (0+(i:Int))),Q_ (.lst (ws.map D.int))]) rfl (yo (Dm (S:=ws.map D.int) (k:=at_) (j:=at_) (.int ((ws.getD at_ 0+(i:Int)).fmod 23)) rfl (λM h=>?_) aA (by rw[zLm];exact e2) ?_))
  .rw[<- zgA (i:Int)]at h;exact rj (dv (.int (ws.getD at_ 0+(0+(i:Int))))) (dv (.int 23)) (λ_ h=>rj (dv (.int (ws.getD at_ 0))) (dv (.int (0+(i:Int)))) (λ_ h=>rj (dO (.lst (ws.map D.int))) (dv (.int at_)) aA aA (we (by rw[L4,e1];rfl) h)) aA h) aA ⟨z1a,h⟩
  have es:(ws.map D.int).set at_ (.int ((ws.getD at_ 0+(i:Int)).fmod 23))=(ws.set at_ ((ws.getD at_ 0+(i:Int)).fmod 23)).map D.int:=by rw[List.map_set]
  rw[es];have y:∀w∈ws.set at_ ((ws.getD at_ 0+(i:Int)).fmod 23),0<=w/\w<23:=λw g=>by
   rcases List.mem_or_eq_of_mem_set g with q|q
   .exact v w q
   rw[q];exact cg _ 23 aB
  have O:(ws.set at_ ((ws.getD at_ 0+(i:Int)).fmod 23)).length<=8:=by rw[zaY];exact l2
  have B:U4 ws at_ i=Str.join "" ((ws.set at_ ((ws.getD at_ 0+(i:Int)).fmod 23)).map λw=>one (letC w)):=rfl;generalize ws.set at_ ((ws.getD at_ 0+(i:Int)).fmod 23)=vs at y O B
  dsimp only
  refine je (u6 (S:=((List.range i).map (U4 ws at_)).map D.str) rfl ?_)
  dsimp only [F4,dC]
  refine x3 (vs.map D.int) (λM e=>⟨zaA,e⟩) (λd=>match d with|.int w=>some (.str (one (letC w)))|_=>none) (by rw[zLm];lia) ?_ ?_
  .intro d r;obtain⟨w,g,rfl⟩:=zah.mp r;obtain⟨L,w1⟩:=y w g;have W:atI ("abcdfghjkmnopqrstuvwxyz" : Str).cps.toList w=some (letC w):=uu L (by
    unfold letC;rw[zeL,zaf (by rw[l];lia)]
    rfl)
   refine⟨λ_=>?_,nofun⟩;refine rj (dv (.str "abcdfghjkmnopqrstuvwxyz")) (dv (.int w)) aA aA ?_;unfold sIxx sIx1
   dsimp only
   rw[W];exact⟨sz,zaA,rfl⟩
  have V:(vs.map D.int).filterMap (λd=>match d with|.int w=>some (D.str (one (letC w)))|_=>none)=(vs.map λw=>one (letC w)).map D.str:=by
   rw[zbX,zaV,<- zcZ];rfl
  rw[V];refine⟨_,rfl,?_,zaA,by simp;lia,q_ (.int (0+(i:Int))),q_ (.lst (vs.map D.int)),?_⟩
  .have N:∀us:List Int,((us.map λw=>one (letC w)).map λt=>t.length+(Str.ofString "").length).sum=us.length:=λus=>by
    induction us with
    |nil=>rfl
    |cons u us ih=>simp only[zaB,List.sum_cons,ih,zLc];show 1+0+us.length=_;lia
   rw[N,zbC];lia
  rw[List.range_succ,zMa,zMa,zaB,zbV,zaB,zbV,B];rfl
 rintro _ ⟨a,b,rfl⟩;rw[sn];exact⟨yi.mpr λx Q=>by obtain⟨z,_,rfl⟩:=zah.mp Q;trivial,h _ aE (U3 ws at_ aD m hl1)⟩
def Xb(X:AX K mg C):FD P w K mg base 1 "_law_number" ["_law_cell"] z3q:=by
 refine QB X 38 ["_law_cell"] ?_;walk_at "b";refine⟨_,(zm (yg (yx (gu (x6 (z9 0) (gu (jk zc (gw zc zc)) zc)) (gw zc zc)) zc))),?_⟩;obtain⟨c,rfl,h⟩:=hT;exact⟨⟨by decide,by decide,by decide⟩,zdE aB,(show(2*10 ^ 60-1:Int)≠0 by decide),⟨by decide,by decide,by decide⟩,zaA,h _⟩
def xm(X:AX K mg C):FD P w K mg base 1 "_law_cell_at" ["_law_script","_law_k"] Bu1:=by
 refine QB X 37 ["_law_script","_law_k"] ?_;walk_at "b";refine⟨_,(ze (wl aR (zm (yg aR)) x8)
   (zm (yg zc))),?_⟩
 obtain⟨a,b,rfl,ns,k,rfl,rfl,h⟩:=Cf hT;refine yo (dg (decide ((k:Int)<ns.length)) aA (λz=>?_) (λ_=>⟨zaA,h 0⟩));have g:k<ns.length:=by have:=zbQ z;lia
 have e:atI ns (k:Int)=some ns[k]:=uu aD (by simp[g])
 exact z1s e ⟨zaA,h _⟩
def b4(X:AX K mg C):FD P w K mg base 1 "_law_take" ["_law_state"] z3m:=by
 refine QB X 43 ["_law_state"] ?_;walk_at "b";refine⟨_,(Fv 0 X.T.len),?_⟩;obtain⟨a,rfl,ns,S,rfl,h⟩:=Ju hT;exact⟨ns,S,rfl,λc d=>⟨zaA,h c d⟩⟩
noncomputable def prD(p:Str×Str):D:=.tup [.str p.1,.str p.2]
structure Hd where
 nm:Str
 ps:List (Str×Str)
 sh:Str
 sz:List Int
noncomputable def hdL(h:Hd):List D:=[.str h.nm,.tup (h.ps.map prD),.tup [.str h.sh,.tup (h.sz.map D.int)]]
noncomputable def hdD(h:Hd):D:=.tup (hdL h)
noncomputable def fnD(h:Hd)(b:D):D:=.tup [.str h.nm,.tup (h.ps.map prD),.tup [.str h.sh,.tup (h.sz.map D.int)],b]
noncomputable abbrev vr(z:Str):D:=.tup [.str "var",.str z]
noncomputable abbrev gv(e:D):D:=.tup [.str "give",e]
noncomputable abbrev cl(f:Str)(es:List D):D:=.tup [.str "call",.str f,.tup es]
noncomputable def putH(f n x:Str):Hd:=⟨f,[(n,"num"),(x,"list")],"list",[1,0,1]⟩
noncomputable def putB(f n x h t:Str):D:=.tup [.str "list",.str x,gv (.tup [.str "cons",vr n,.tup [.str "nil"]]),.str h,.str t,.tup [.str "less",vr n,vr h,gv (.tup [.str "cons",vr n,vr x]),gv (.tup [.str "cons",vr h,cl f [vr n,vr t]])]]
noncomputable def plaH(f n x:Str):Hd:=⟨f,[(n,"num"),(x,"tree")],"tree",[1,0,1]⟩
noncomputable def plaB(f n x l v r:Str):D:=.tup [.str "tree",.str x,gv (.tup [.str "node",.tup [.str "leaf"],vr n,.tup [.str "leaf"]]),.str l,.str v,.str r,.tup [.str "less",vr n,vr v,gv (.tup [.str "node",cl f [vr n,vr l],vr v,vr r]),gv (.tup [.str "node",vr l,vr v,cl f [vr n,vr r]])]]
def tPut:FT:=g2 λa b Y=>∃f n x h t r,a=.str f/\b=.lst ((n::x::h::t::r).map D.str)/\Y (dv (fnD (putH f n x) (putB f n x h t)))
def tPla:FT:=g2 λa b Y=>∃f n x l v w r,a=.str f/\b=.lst ((n::x::l::v::w::r).map D.str)/\Y (dv (fnD (plaH f n x) (plaB f n x l v w)))
def Ka(f n x h t:Str):zw (fnD (putH f n x) (putB f n x h t)):=by
 simp only[fnD,putB,putH,zw,y7,kdD,kdDs,zaB,zbV,prD,and_self]
def Kb(f n x l v w:Str):zw (fnD (plaH f n x) (plaB f n x l v w)):=by
 simp only[fnD,plaB,plaH,zw,y7,kdD,kdDs,zaB,zbV,prD,and_self]
def F7{α:Type}(f:α->D)(E:List α)(n:Nat)(h:n<=E.length):ZZ.cutD (E.map f) none (some (n:Int))=(E.take n).map f:=by
 rw[V9,<- List.map_take]
def HOk1(zs:List Str)(h:Hd):Prop:=∃ks:List Str,h.ps=zs.zip ks/\1<=ks.length/\ks.length<=3/\(∀k∈ks,IsSh k)/\IsSh h.sh/\h.sz.length<=4
def HI(f:Str)(zs:List Str)(c:Int)(n:Nat)(ks:List Str)(sz:List Int)(a b:Option EV)(U:DE):Prop:=ks.length=n/\n<=3/\(∀k∈ks,IsSh k)/\sz.length=n+1/\U=[q_ (.str f),q_ (.lst (zs.map D.str)),q_ (.int c),Q_ (.lst ((zs.zip ks).map prD)),Q_ (.lst (sz.map D.int)),a,b,none]
def Dl(c:Int):c.fmod 3=0\/c.fmod 3=1\/c.fmod 3=2:=by
 have:=zbD c (show(0:Int)<3 by decide)
 have:=zcI c (show(0:Int)<3 by decide)
 lia
def pk3(c:Int):∃s,IsSh s/\atI [D.str "num",.str "list",.str "tree"] (c.fmod 3)=some (.str s):=by
 rcases Dl c with z|z|z <;> rw[z]
 .exact⟨"num",.inl rfl,rfl⟩
 .exact⟨"list",.inr (.inl rfl),rfl⟩
 exact⟨"tree",.inr (.inr rfl),rfl⟩
def at3{P:Int->Prop}{i:Nat}(h:i<3){x y z:Int}(h1:P x)(h2:P y)(a:P z):∃m,P m/\atI [D.int x,.int y,.int z] (i:Int)=some (.int m):=by
 rcases(by lia:i=0\/i=1\/i=2) with rfl|rfl|rfl
 .exact⟨x,h1,rfl⟩
 .exact⟨y,h2,rfl⟩
 exact⟨z,a,rfl⟩
theorem Tf{s:Str}:∀{ks zs:List Str}(h:ks.length<zs.length),zs.zip (ks++[s])=zs.zip ks++[(zs[ks.length],s)]
 |[],z::zs,h=>by rw[List.nil_append,zdB,zaM,zdB];rfl
 |k::ks,z::zs,h=>by
  rw[List.cons_append,zaM,zaM,Tf (Nat.lt_of_succ_lt_succ h)];rfl
theorem fm0:∀l:List Int,(l.map D.int).filterMap (λ_=>some (D.int 0))=(List.replicate l.length (0:Int)).map D.int
 |[]=>rfl
 |a::l=>by rw[zaB,zbG,fm0 l];rfl
def du(h:Hd):zw (hdD h):=⟨zaA,yi.mpr λd a=>by
 obtain⟨p,_,rfl⟩:=zah.mp a;exact⟨zaA,zaA,zaA⟩,⟨zaA,ra _,zaA⟩,zaA⟩
def sn1(n:Nat):(rngD 0 n).length=n:=by unfold rngD;rw[zLm,zcW]
def z3t:FT:=g3 λa b c Y=>∃(f:Str)(zs:List Str)(k:Int),a=.str f/\b=.lst (zs.map D.str)/\3<=zs.length/\c=.int k/\∀h:Hd,h.nm=f->HOk1 zs h->Y (dv (hdD h))
def Hz{te:TD}{g:TGD}{U:DE}{Z:DZ}(d:D)(h:∀ M:EV->Prop,M (df d)->te U M)(k:g d U Z.nx):sUn te g U Z:=h _ ⟨zaA,k⟩
def Z5(X:AX K mg C):FD P w K mg base 1 "_law_putting" ["_law_f","_law_names_here"] tPut:=by
 refine QB X 40 ["_law_f","_law_names_here","_law_n","_law_x","_law_h","_law_t","_law_one","_law_ahead","_law_behind","_law_body_here"] ?_;walk_at "b";refine⟨_,(ze (xj (E2 aR (Oj (K0:=K) (n:=4) (by rfl) (by rfl) (yd (zj (i:=2) ds.nd rfl aG) (yd (zj (i:=3) ds.nd rfl aG) (yd (zj (i:=4) ds.nd rfl aG) (yd (zj (i:=5) ds.nd rfl aG) wt))))) (C4 2 3 4 5)))
   (ze (zx 6 ds.nd aR)
   (ze (zx 7 ds.nd aR)
   (ze (zx 8 ds.nd aR)
   (ze (zx 9 ds.nd aR)
   (zm (yg aR))))))),?_⟩
 obtain⟨a,b,rfl,f,n,x,h,t,r,rfl,rfl,d⟩:=Cf hT;have e:ZZ.cutD (D.str n::D.str x::D.str h::D.str t::r.map D.str) none (some 4)=[.str n,.str x,.str h,.str t]:=F7 D.str (n::x::h::t::r) 4 (by show 4<=r.length+4;lia)
 refine z_g [q_ (.str f),q_ (.lst ((n::x::h::t::r).map D.str)),q_ (.str n),q_ (.str x),q_ (.str h),q_ (.str t),none,none,none,none] ?_ ?_
 .refine Hz (.lst (ZZ.cutD (D.str n::D.str x::D.str h::D.str t::r.map D.str) none (some 4))) aA ?_;rw[e];exact⟨_,_,_,_,rfl,rfl⟩
 exact⟨rfl,rfl,rfl,rfl,rfl,rfl,rfl,rfl,zaA,rfl,rfl,rfl,rfl,rfl,rfl,rfl,rfl,zaA,rfl,rfl,rfl,rfl,rfl,rfl,rfl,rfl,rfl,rfl,rfl,rfl,rfl,rfl,zaA,rfl,rfl,rfl,rfl,rfl,rfl,rfl,rfl,zaA,rfl,rfl,rfl,rfl,rfl,rfl,rfl,rfl,rfl,rfl,rfl,rfl,Ka _ _ _ _ _,d⟩
def b6(X:AX K mg C):FD P w K mg base 1 "_law_planting" ["_law_f","_law_names_here"] tPla:=by
 refine QB X 41 ["_law_f","_law_names_here","_law_n","_law_x","_law_l","_law_v","_law_r","_law_one","_law_left","_law_other","_law_body_here"] ?_;walk_at "b";refine⟨_,(ze (xj (E2 aR (Oj (K0:=K) (n:=5) (by rfl) (by rfl) (yd (zj (i:=2) ds.nd rfl aG) (yd (zj (i:=3) ds.nd rfl aG) (yd (zj (i:=4) ds.nd rfl aG) (yd (zj (i:=5) ds.nd rfl aG) (yd (zj (i:=6) ds.nd rfl aG) wt)))))) (C3 2 3 4 5 6)))
   (ze (zx 7 ds.nd aR)
   (ze (zx 8 ds.nd aR)
   (ze (zx 9 ds.nd aR)
   (ze (zx 10 ds.nd aR)
   (zm (yg aR))))))),?_⟩
 obtain⟨a,b,rfl,f,n,x,l,v,w,r,rfl,rfl,d⟩:=Cf hT;have e:ZZ.cutD (D.str n::D.str x::D.str l::D.str v::D.str w::r.map D.str) none (some 5)=[.str n,.str x,.str l,.str v,.str w]:=F7 D.str (n::x::l::v::w::r) 5 (by show 5<=r.length+5;lia)
 refine z_g [q_ (.str f),q_ (.lst ((n::x::l::v::w::r).map D.str)),q_ (.str n),q_ (.str x),q_ (.str l),q_ (.str v),q_ (.str w),none,none,none,none] ?_ ?_
 .refine Hz (.lst (ZZ.cutD (D.str n::D.str x::D.str l::D.str v::D.str w::r.map D.str) none (some 5))) aA ?_;rw[e];exact⟨_,_,_,_,_,rfl,rfl⟩
 exact⟨rfl,rfl,rfl,rfl,rfl,rfl,rfl,rfl,rfl,rfl,zaA,rfl,rfl,rfl,rfl,rfl,rfl,rfl,rfl,rfl,rfl,rfl,rfl,rfl,rfl,rfl,rfl,zaA,rfl,rfl,rfl,rfl,rfl,rfl,rfl,rfl,rfl,rfl,rfl,rfl,rfl,rfl,rfl,rfl,zaA,rfl,rfl,rfl,rfl,rfl,rfl,rfl,rfl,zaA,rfl,rfl,rfl,rfl,rfl,rfl,rfl,rfl,rfl,rfl,rfl,rfl,Kb _ _ _ _ _ _,d⟩
def Uu(X:AX K mg C):FD P w K mg base 1 "_law_head" ["_law_name","_law_names_here","_law_cell"] z3t:=by
 refine QB X 42 ["_law_name","_law_names_here","_law_cell","_law_params","_law_size","_law_k","_law_shape","_law_gives"] ?_;walk_at "b";refine⟨_,(ze (xj (zx 2 ds.nd (x6 (z9 2) (gw zc zc))))
   (ze (xj (zx 3 ds.nd aR))
   (ze (xj (zx 4 ds.nd aR))
   (ze (xj (wm (xk X.T.range aR) (zj (i:=5) ds.nd rfl aG) (yj 5) (ze (zx 6 ds.nd aR)
    (ze (wn 3 aR)
    (zm (wn 4 (jk (Xg X.T.int (za (z5f hu (z9 6) zf) zb)) aR)))))))
   (ze (xj (zx 7 ds.nd aR))
   (ze (xj (wl aR (zm (xy 4 (qb 4 ds.nd (.mk ["_law_part"] [] [] (xc (z9 4)) (λcl C fp s H=>zc))))) x8))
   (zm (yg (zh (za (z9 0) (za (va X.T.tuple aR) (za (zh (za (z9 7) (za (va X.T.tuple aR) zb))) zb)))))))))))),?_⟩
 obtain⟨a,b,c,rfl,f,zs,k,rfl,rfl,lz,rfl,h⟩:=z5d hT;refine uh (λU=>∃c:Int,U=[q_ (.str f),q_ (.lst (zs.map D.str)),q_ (.int c),none,none,none,none,none]) ⟨⟨by decide,by decide,by decide⟩,(show(10 ^ 9:Int)≠0 by decide),zaA,_,rfl⟩ ?_
 rintro _ ⟨c,rfl⟩;refine uh (λU=>U=[q_ (.str f),q_ (.lst (zs.map D.str)),q_ (.int c),Q_ (.lst []),none,none,none,none]) ⟨rfl,rfl,zaA,rfl⟩ ?_;rintro _ rfl;refine uh (λU=>U=[q_ (.str f),q_ (.lst (zs.map D.str)),q_ (.int c),Q_ (.lst []),Q_ (.lst [.int ((c.fdiv 81).fmod 4)]),none,none,none]) ⟨fdl,(show(4:Int)≠0 by decide),rfl,rfl,zaA,rfl⟩ ?_
 rintro _ rfl;refine uh (λU=>∃ks sz a b,1<=ks.length/\HI f zs c ks.length ks sz a b U) ?_ ?_
 .obtain⟨n,n1,n3,en⟩:∃n:Nat,1<=n/\n<=3/\(1+(c.fdiv 7).fmod 3:Int)=n:=by
   rcases Dl (c.fdiv 7) with z|z|z <;> rw[z]
   .exact⟨1,by decide,by decide,rfl⟩
   .exact⟨2,by decide,by decide,rfl⟩
   exact⟨3,by decide,by decide,rfl⟩
  refine u4 (rngD 0 n) (λM j=>?_) (λi U=>∃ks sz a b,HI f zs c i ks sz a b U) ⟨[],[(c.fdiv 81).fmod 4],_,_,rfl,by decide,(λ_ h=>nomatch h),rfl,by rw[zdB];rfl⟩ ?_ ?_
  .exact⟨fdl,ne_3,(show -(2 ^ 62)<=(1+(c.fdiv 7).fmod 3:Int) by lia),(show(1+(c.fdiv 7).fmod 3:Int)<2 ^ 62 by lia),(show M (rngD 0 (1+(c.fdiv 7).fmod 3:Int).toNat) by rw[en];exact j)⟩
  .rintro i d _ L ⟨ks,sz,a,b,rfl,I,l,G,rfl⟩;obtain⟨hi,rfl⟩:=uv L;have u:ks.length<3:=by lia
   obtain⟨m,fm,em⟩:=at3 (P:=λm=>∀c,FdOk c m) u (x:=3) (y:=9) (z:=27) (λc=>fdl) (λc=>fdl) (λc=>fdl);obtain⟨O,v,B⟩:=at3 (P:=λm=>∀c,FdOk c m) u (x:=324) (y:=972) (z:=2916) (λc=>fdl) (λc=>fdl) (λc=>fdl);obtain⟨s,V,es⟩:=pk3 (c.fdiv m);rw[zgA];refine uw (yo ⟨rfl,rfl,rfl,rfl,?_⟩)
   dsimp only [dTup,u9,aNil,d2,ux,dC,slot,setS,dv,EV.sto]
   refine we em ⟨fm c,ne_3,?_⟩
   dsimp only [dTup,u9,aNil,d2,ux,dC,slot,setS,dv,EV.sto]
   refine we es ⟨zaA,?_⟩;refine yo (u6 rfl ?_);have J:ks.length<zs.length:=by lia
   have Z:atI (zs.map D.str) (ks.length:Int)=some (.str zs[ks.length]):=uu aD (by rw[zai,zcF,zaf J];rfl)
   dsimp only [dTup,u9,aNil,d2,ux,dC,slot,setS,dv,EV.sto]
   refine we Z ⟨rfl,rfl,zaA,?_,?_⟩
   .rw[zLm];have:=zbI (l₁:=zs) (l₂:=ks);lia
   refine u6 rfl ⟨zaR yt,zaR yt,rfl,rfl,?_⟩
   dsimp only [dTup,u9,aNil,d2,ux,dC,slot,setS,dv,EV.sto]
   refine we B ⟨v c,ne_3,zdE (by show intBits (if (!eqD (.str s) (.str "num"))=true then(1:Int) else 0)<=64;split <;> decide),zaA,by rw[zLm];lia,ks++[s],sz++[(if (!eqD (.str s) (.str "num"))=true then 1 else 0)*(c.fdiv O).fmod 3],q_ (.int ks.length),q_ (.str s),by rw[zLa];rfl,u,λk r=>?_,by rw[zLa,G];rfl,?_⟩
   .rcases zas.mp r with r|r
    .exact l k r
    rw[zaC.mp r];exact V
   rw[Tf J,zMa,zMa];rfl
  rintro _ ⟨ks,sz,a,b,e,q⟩;rw[sn1]at e q;rw[<- e]at q;exact⟨ks,sz,a,b,by lia,rfl,q⟩
 rintro _ ⟨ks,sz,a,b,R,_,I,l,G,rfl⟩;obtain⟨g,W,eg⟩:=pk3 c;refine uh (λU=>U=[q_ (.str f),q_ (.lst (zs.map D.str)),q_ (.int c),Q_ (.lst ((zs.zip ks).map prD)),Q_ (.lst (sz.map D.int)),a,b,q_ (.str g)]) ⟨rfl,rfl,ne_3,we eg ⟨zaA,rfl⟩⟩ ?_;rintro _ rfl;refine uh (λU=>∃sz:List Int,sz.length<=4/\U=[q_ (.str f),q_ (.lst (zs.map D.str)),q_ (.int c),Q_ (.lst ((zs.zip ks).map prD)),Q_ (.lst (sz.map D.int)),a,b,q_ (.str g)]) ?_ ?_
 .refine E6 (Q:=True) (λM j=>⟨zaR yt,zaR yt,j _ λ_=>trivial⟩) (λ_=>?_) ⟨sz,by lia,rfl⟩
  refine je (db ?_);refine x3 (sz.map D.int) (λM j=>?_) (λ_=>some (.int 0)) (by rw[zLm];lia) (λd L=>?_) ?_
  .exact⟨zaA,j⟩
  .exact⟨λ_=>⟨zaA,rfl⟩,λz=>nomatch z⟩
  exact⟨zaA,List.replicate sz.length 0,by rw[zcB];lia,by rw[fm0];rfl⟩
 rintro _ ⟨sz,N,rfl⟩;exact⟨rfl,rfl,rfl,rfl,du ⟨f,zs.zip ks,g,sz⟩,h ⟨f,zs.zip ks,g,sz⟩ rfl ⟨ks,rfl,R,I,l,W,N⟩⟩
noncomputable def sg1(a:List Hd):Sig:=a.map λh=>(h.nm,h.ps.map Prod.snd,h.sh)
theorem Ls:∀{hs:List Hd}{h:Hd},(hs.map Hd.nm).Nodup->h∈hs->sigL (sg1 hs) h.nm=some (h.ps.map Prod.snd,h.sh)
 |g::hs,h,a,m=>by
  have a:=zaQ.mp a;show(if g.nm=h.nm then _ else sigL (sg1 hs) h.nm)=_
  rcases zam.mp m with rfl|m
  .exact zaK rfl
  rw[zaI λe=>a.1 (by rw[e];exact zah.mpr ⟨h,m,rfl⟩)]
  exact Ls a.2 m
theorem Md{z s:Str}:∀{env:Env},(env.map Prod.fst).Nodup->(z,s)∈env->envL env z=some s
 |p::r,a,m=>by
  have a:=zaQ.mp a;show(if p.1=z then _ else envL r z)=_
  rcases zam.mp m with rfl|m
  .exact zaK rfl
  rw[zaI λe=>a.1 (by rw[e];exact zah.mpr ⟨_,m,rfl⟩)]
  exact Md a.2 m
structure HsOk(hs:List Hd):Prop where
 nd:(hs.map Hd.nm).Nodup
 ok:∀h∈hs,1<=h.ps.length/\h.ps.length<=3/\(∀p∈h.ps,IsSh p.2)/\IsSh h.sh
 ln:hs.length<=100
noncomputable def stD(cs:List Int)(zs:List Str)(a:List Hd):D:=.sx [.lst (cs.map D.int),.lst (zs.map D.str),.lst (a.map hdD)]
noncomputable def bnd:Nat->Nat
 |0=>1
 |n+1=>3*bnd n+1
def tEx:Nat->FT
 |0=>λ_ _=>False
 |n+1=>λS Y=>∃(cs:List Int)(zs:List Str)(hs:List Hd)(env:Env)(s:Str),S=[stD cs zs hs,.lst (env.map prD),.int (3-n),.str s]/\HsOk hs/\(env.map Prod.fst).Nodup/\env.length<=100/\n<=3/\IsSh s/\∀e k,Et (sg1 hs) env e s k->k<=bnd n->Y (dv e)
def eqs{a b:Str}(h:eqD (.str a) (.str b)=true):a=b:=by
 rw[Xe]at h;exact zfY h
def eqn{a b:Str}(h:eqD (.str a) (.str b)=false):a≠b:=λe=>by
 rw[Xe,e]at h;exact absurd (beq_self_eq_true b) (by rw[h];decide)
def dz{α:Type}{f:α->D}{E:List α}(h:E≠[])(c:Int):((E.map f).length:Int)≠0/\∃x∈E,atI (E.map f) (c.fmod (E.map f).length)=some (f x):=by
 have hl:0<E.length:=List.length_pos_iff.mpr h;have e:((E.map f).length:Int)=E.length:=by rw[zLm]
 rw[e];have a:=zbD c (show(0:Int)<E.length by lia)
 have d:=zcI c (show(0:Int)<E.length by lia)
 have hi:(c.fmod (E.length:Int)).toNat<E.length:=by lia
 refine⟨by lia,E[(c.fmod (E.length:Int)).toNat],zdM hi,uu a ?_⟩
 rw[zai,zaf hi];rfl
def MO(s o:Str)(ks:List Str):Prop:=(s = "num"/\(o = "add"\/o = "sub")/\ks=[("num" : Str),"num"])\/(s = "list"/\o = "cons"/\ks=[("num" : Str),"list"])\/(s = "tree"/\o = "node"/\ks=[("tree" : Str),"num","tree"])
theorem Ets.snoc{fs:Sig}{g:Env}{e:D}{s:Str}{n:Nat}(h:Et fs g e s n):∀{es:List D}{ss:List Str}{m:Nat},Ets fs g es ss m->Ets fs g (es++[e]) (ss++[s]) (m+n)
 |_,_,_,.nil=>by rw[Nat.zero_add];exact .cons h .nil
 |_,_,_,.cons a t=>by rw[Nat.add_assoc];exact .cons a (t.snoc h)
def z4n{fs:Sig}{g:Env}{s o:Str}{ks:List Str}{es:List D}{m:Nat}(h:MO s o ks)(d:Ets fs g es ks m):Et fs g (.tup (.str o::es)) s (m+1):=by
 rcases h with⟨rfl,ho,rfl⟩|⟨rfl,rfl,rfl⟩|⟨rfl,rfl,rfl⟩
 .obtain⟨⟩|⟨a,⟨⟩|⟨b,⟨⟩⟩⟩:=d
  exact .sum ho a b
 .obtain⟨⟩|⟨a,⟨⟩|⟨b,⟨⟩⟩⟩:=d
  exact .cons a b
 obtain⟨⟩|⟨a,⟨⟩|⟨b,⟨⟩|⟨c,⟨⟩⟩⟩⟩:=d
 exact .node a b c
def z1b(c:Int):c.fmod 2=0\/c.fmod 2=1:=by
 have:=zbD c (show(0:Int)<2 by decide)
 have:=zcI c (show(0:Int)<2 by decide)
 lia
def MK(s:Str)(ks:List Str):Prop:=(s = "num"/\ks=[("num" : Str),"num"])\/(s = "list"/\ks=[("num" : Str),"list"])\/(s = "tree"/\ks=[("tree" : Str),"num","tree"])
def Sw{s o:Str}{ks:List Str}(h:MO s o ks):2<=ks.length/\ks.length<=3/\∀k∈ks,IsSh k:=by
 rcases h with⟨_,_,rfl⟩|⟨_,_,rfl⟩|⟨_,_,rfl⟩
 .exact⟨by decide,by decide,λk a=>by rcases zam.mp a with rfl|a;exact .inl rfl;rw[zaC.mp a];exact .inl rfl⟩
 .exact⟨by decide,by decide,λk a=>by rcases zam.mp a with rfl|a;exact .inl rfl;rw[zaC.mp a];exact .inr (.inl rfl)⟩
 exact⟨by decide,by decide,λk a=>by rcases zam.mp a with rfl|a;exact .inr (.inr rfl);rcases zam.mp a with rfl|a;exact .inl rfl;rw[zaC.mp a];exact .inr (.inr rfl)⟩
def at2(c:Int):∃o:Str,(o = "add"\/o = "sub")/\atI [D.str "add",.str "sub"] (c.fmod 2)=some (.str o):=by
 rcases z1b c with z|z <;> rw[z]
 .exact⟨"add",.inl rfl,rfl⟩
 exact⟨"sub",.inr rfl,rfl⟩
def Xp:∀n,1<=bnd n
 |0=>zaj _
 |n+1=>Nat.le_add_left ..
def Y8{t:TD}{U:DE}{Y:EV->Prop}(h:t U λr=>sTupC [r.d] Y):dCB sTupC (u9 t aNil) U Y:=h
def EP2(d:List Hd)(env:Env)(m:Nat)(a:List Str)(i:Nat)(es:List D):Prop:=∃k,Ets (sg1 d) env es (a.take i) k/\k<=i*bnd m
def EP2.add{j:List Hd}{env:Env}{m i:Nat}{d:List Str}{es:List D}{e:D}{s:Str}{k:Nat}(h:EP2 j env m d i es)(g:d[i]?=some s)(l:Et (sg1 j) env e s k)(q:k<=bnd m):EP2 j env m d (i+1) (es++[e]):=by
 obtain⟨n,a,b⟩:=h;refine⟨n+k,?_,by rw[Nat.succ_mul];lia⟩
 rw[zbL,g];exact a.snoc l
def EP2.all{e:List Hd}{env:Env}{m:Nat}{d:List Str}{es:List D}(h:EP2 e env m d d.length es)(l:d.length<=3):∃k,Ets (sg1 e) env es d k/\k+1<=bnd (m+1):=by
 obtain⟨n,a,b⟩:=h;rw[zbU]at a;exact⟨n,a,Nat.succ_le_succ (zak b (zeM _ l))⟩
def SW(env:Env)(s:Str)(es:List D):Prop:=∃ws:List Str,es=ws.map D.str/\∀z∈ws,envL env z=some s
def SH(a:List Hd)(s:Str)(es:List D):Prop:=∃ks:List Hd,es=ks.map hdD/\∀h∈ks,h∈a/\h.sh=s
def qu{α:Type}{t u:TDS}{U:DE}{Z:DZ}(i:Nat)(f:α->EV)(P:α->Prop)(h1:t U {Z with nx:=λr=>∃ a,P a/\r=setS U i (f a)})(h2:∀ a,P a->u (setS U i (f a)) Z):sSeq (sCut t) u U Z:=⟨_,h1,λ_ ⟨a,p,e⟩=>e▸h2 a p⟩
def if_r{tc:TDb}{t1 u:TDS}{U:DE}{Z:DZ}(b:Bool)(h:∀ M:Bool->Prop,M b->tc U M)(h1:b=true->t1 U {Z with nx:=λr=>u r Z})(h2:b=false->u U Z):sSeq (sIf tc t1 sNil) u U Z:=h _ ⟨h1,h2⟩
def Nl{tc:TDb}{t1 u:TDS}{U:DE}{Z:DZ}{Q:Prop}(h:∀ M:Bool->Prop,(∀ b,(b=true->Q)->M b)->tc U M)(h1:Q->t1 U {Z with nx:=λr=>u r Z})(h2:u U Z):sSeq (sIf tc t1 sNil) u U Z:=h _ λ_ q=>⟨λz=>h1 (q z),λ_=>h2⟩
def dm(m:Nat):(3:Int)-((m+1:Nat):Int)+1=3-m:=by lia
def g9{n:Nat}(X:AX K mg C)(J:FD P w K mg base (n+2) "_law_expression" pA (tEx n)):FD P w K mg base (n+3) "_law_expression" pA (tEx (n+1)):=by
 refine QB X 44 ["_law_state","_law_scope","_law_deep","_law_shape","_law_cell","_law_way","_law_some","_law_heads","_law_head_here","_law_kinds","_law_word"] ?_;walk_at "b";refine⟨_,(ze (zx 4 ds.nd (y8 (b4 X) hr.d aR))
   (ze (xj (zx 5 ds.nd aR))
   (ze (xj (zx 4 ds.nd aR))
   (ze (xj (ub 6 ds.nd (.mk ["_law_name","_law_kind"] ["_law_shape"] [3] (xc (z9 1)) (λcl C fp s H=>(z9 0)))))
   (ze (xj (ub 7 ds.nd (.mk ["_law_head_here"] ["_law_shape"] [3] (xc (F1 0 3)) (λcl C fp s H=>(z9 0)))))
   (ze (wl aR (ze (zx 8 ds.nd aR)
    (zm (yg (zh (za zf (za aR (za (va X.T.tuple (za (Xh (.mk ["_law_name","_law_kind"] ["_law_state","_law_scope","_law_deep"] [0,1,2] (xc aR) (λcl C fp s H=>(y8 J hr.d aR)))) zb)) zb))))))) x8)
   (ze (wl (EW.et (Wz aR (Xd (z2l hu (z9 5) aR)))) (ze (xj (zx 9 ds.nd (F2 hu zf aR zf aR zf aR (z9 3))))
    (ze (xj (zx 10 ds.nd (F2 hu zf aR zf zf zf zf (z9 3))))
    (zm (xy 9 (yg (yx aR (va X.T.tuple (za (Xh (.mk ["_law_kind"] ["_law_state","_law_scope","_law_deep"] [0,1,2] (xc (z9 9)) (λcl C fp s H=>(y8 J hr.d aR)))) zb)))))))) x8)
   (ze (wl aR (zm (yg aR)) x8)
   (ze (wl aR (zm (yg aR)) x8)
   (zm (yg (zg hu aR (Xg X.T.int (za (Cq hu (z9 3) zf) zb)))))))))))))),?_⟩
 obtain⟨cs,zs,u,env,s,rfl,L,nd,le,n3,O,h⟩:=hT;refine⟨rfl,cs,_,rfl,λc c0=>⟨zaA,qu 5 (λw:Int=>dv (.int w)) (λ_=>True) ⟨ne_5,zaA,_,zaA,rfl⟩ λw _=>qu 4 (λc:Int=>dv (.int c)) (λ_=>True) ⟨fdl,zaA,_,zaA,rfl⟩ λc _=>?_⟩⟩;refine qu 6 (λws:List Str=>dO (.lst (ws.map D.str))) (λws=>∀z∈ws,envL env z=some s) (vv (env.map prD) (λM a=>⟨zaA,a⟩) (λi es=>SW env s es) (by rw[zLm];lia) ⟨[],rfl,λ_ h=>nomatch h⟩ ?_ λ_ ⟨ws,e,r⟩=>⟨zaA,ws,r,zbO (λl=>setS _ 6 (dO (.lst l))) e⟩) λws r=>?_
 .rintro i d es B hl ⟨ws,rfl,r⟩;obtain⟨p,v,rfl⟩:=zah.mp (zan B);refine⟨zaR yt,zaR yt,λz=>⟨zaA,ws++[p.1],by rw[zMa];rfl,λy j=>?_⟩,λ_=>⟨ws,rfl,r⟩⟩
  rcases zas.mp j with j|j
  .exact r y j
  rw[zaC.mp j];exact Md nd (eqs z▸v)
 refine qu 7 (λks:List Hd=>dO (.lst (ks.map hdD))) (λks=>∀h∈ks,h∈u/\h.sh=s) (vv (u.map hdD) (λM a=>⟨zaA,a⟩) (λi es=>SH u s es) (by rw[zLm];have:=L.ln;lia) ⟨[],rfl,λ_ h=>nomatch h⟩ ?_ λ_ ⟨ks,e,r⟩=>⟨zaA,ks,r,zbO (λl=>setS _ 7 (dO (.lst l))) e⟩) λks R=>?_
 .rintro i d es B hl ⟨ks,rfl,r⟩;obtain⟨p,v,rfl⟩:=zah.mp (zan B);refine⟨zaR yt,zaR yt,λz=>⟨zaA,ks++[p],by rw[zMa];rfl,λy j=>?_⟩,λ_=>⟨ks,rfl,r⟩⟩
  rcases zas.mp j with j|j
  .exact r y j
  rw[zaC.mp j];exact⟨v,eqs z⟩
 refine wc (ρ':=[q_ (stD cs zs u),q_ (.lst (env.map prD)),q_ (.int (3-n)),q_ (.str s),q_ (.int c),q_ (.int w),Q_ (.lst (ws.map D.str)),Q_ (.lst (ks.map hdD)),none,none,none]) rfl ?_;refine Nl (Q:=1<=n/\ks≠[]) (λM a=>⟨λz=>⟨zaR (xg ..),zaR (xg ..),λ_=>a _ λy=>⟨by have:=zbQ z;lia,λe=>by rw[e]at y;exact absurd y aB⟩,λ_=>a false λy=>nomatch y⟩,λ_=>a false λy=>nomatch y⟩) (λq=>?_) ?_
 .obtain⟨m,rfl⟩:∃m,n=m+1:=⟨n-1,by lia⟩
  obtain⟨W,x,Z,ex⟩:=dz (f:=hdD) q.2 c;obtain⟨x1,x2⟩:=R x Z;have ox:=L.ok x x1;refine⟨W,we ex ⟨zaA,?_⟩⟩
  dsimp only [sRet,dTup,u9,d2,dC,ux,slot,setS,EV.sto,dv]
  refine Zr (S:=hdL x) rfl ?_;refine(show dCB sTupC _ _ _ from Y8 (vv (x.ps.map prD) (λM a=>⟨zaA,a⟩) (λi es=>EP2 u env m (x.ps.map Prod.snd) i es) (by rw[zLm];lia) ⟨0,.nil,zbW _⟩ ?_ ?_))
  .rintro i d es B hl g;rw[zai]at B;obtain⟨p,v,rfl⟩:=zar.mp B;exact⟨λ_=>⟨rfl,cs,zs,u,env,p.2,zbO (λt=>[stD cs zs u,D.lst (env.map prD),D.int t,D.str p.2]) (dm m),L,nd,le,by lia,ox.2.2.1 p (zan v),λe k' I G=>⟨zaA,g.add (by rw[zai,v];rfl) I G⟩⟩,λz=>nomatch z⟩
  intro es g;rw[show(x.ps.map prD).length=(x.ps.map Prod.snd).length by rw[zLm,zLm]]at g
  obtain⟨k,g,R⟩:=g.all (by rw[zLm];lia)
  exact⟨rfl,rfl,⟨zaA,zaA,g.pure,zaA⟩,h _ _ (x2▸.call (Ls L.nd x1) g) R⟩
 refine Nl (Q:=1<=n) (λM a=>⟨λz=>⟨rfl,rfl,rfl,rfl,a _ λ_=>by have:=zbQ z;lia⟩,λ_=>a false λy=>nomatch y⟩) (λq=>?_) ?_
 .obtain⟨m,rfl⟩:∃m,n=m+1:=⟨n-1,by lia⟩
  refine qu 9 (λN:List Str=>dO (.lst (N.map D.str))) (MK s) ⟨rfl,rfl,rfl,rfl,rfl,rfl,"num","list","tree",rfl,rfl,rfl,by decide,by decide,by decide,.inr ⟨["num","num"],rfl⟩,.inr ⟨["num","list"],rfl⟩,.inr ⟨["tree","num","tree"],rfl⟩,s,rfl,?_⟩ λN mk=>?_
  .rcases O with e|e|e
   .exact .inl ⟨e,zaA,["num","num"],.inl ⟨e,rfl⟩,rfl⟩
   .exact .inr (.inl ⟨e,zaA,["num","list"],.inr (.inl ⟨e,rfl⟩),rfl⟩)
   exact .inr (.inr ⟨e,zaA,["tree","num","tree"],.inr (.inr ⟨e,rfl⟩),rfl⟩)
  obtain⟨o2,ho,ea⟩:=at2 c;refine qu 10 (λo=>dv (.str o)) (λo=>MO s o N) ⟨rfl,rfl,ne_2,we ea ⟨"num","list","tree",rfl,rfl,rfl,by decide,by decide,by decide,.inl ⟨_,rfl⟩,.inl ⟨_,rfl⟩,.inl ⟨_,rfl⟩,s,rfl,?_⟩⟩ λo mo=>?_
  .rcases mk with⟨e,rfl⟩|⟨e,rfl⟩|⟨e,rfl⟩
   .exact .inl ⟨e,zaA,o2,.inl ⟨e,ho,rfl⟩,rfl⟩
   .exact .inr (.inl ⟨e,zaA,"cons",.inr (.inl ⟨e,rfl,rfl⟩),rfl⟩)
   exact .inr (.inr ⟨e,zaA,"node",.inr (.inr ⟨e,rfl,rfl⟩),rfl⟩)
  obtain⟨m2,m3,V⟩:=Sw mo;refine je ⟨rfl,rfl,(show dCB sTupC _ _ _ from Y8 (vv (N.map D.str) (λM a=>⟨zaA,a⟩) (λi es=>EP2 u env m N i es) (by rw[zLm];lia) ⟨0,.nil,zbW _⟩ ?_ ?_))⟩
  .rintro i d es B hl g;rw[zai]at B;obtain⟨p,v,rfl⟩:=zar.mp B;exact⟨λ_=>⟨rfl,cs,zs,u,env,p,zbO (λt=>[stD cs zs u,D.lst (env.map prD),D.int t,D.str p]) (dm m),L,nd,le,by lia,V p (zan v),λe k' I G=>⟨zaA,g.add v I G⟩⟩,λz=>nomatch z⟩
  intro es g;rw[zLm]at g;obtain⟨k,g,R⟩:=g.all m3;have el:=g.len;exact⟨zcD _ _,λz=>(by rw[z]at el;exact absurd el (by rw[zLn];lia)),vf (Nat.ble_eq.mpr (by show 1+es.length<=1000;lia)),⟨zaA,g.pure⟩,h _ _ (z4n mo g) R⟩
 refine Nl (Q:=ws≠[]) (λM a=>⟨zaR (xg ..),zaR (xg ..),λ_=>a _ λy e=>by rw[e]at y;exact absurd y aB,λ_=>a false λy=>nomatch y⟩) (λq=>?_) ?_
 .obtain⟨W,x,Z,ex⟩:=dz (f:=D.str) q c;refine⟨W,?_⟩
  dsimp only [dTup,u9,aNil,d2,ux,dC,slot,setS,dv,EV.sto]
  exact we ex ⟨rfl,rfl,⟨zaA,zaA,zaA⟩,h _ 1 (.var (r x Z)) (Xp n)⟩
 refine if_r (eqD (.str s) (.str "num")) (λM a=>⟨zaR yt,zaR yt,a⟩) (λz=>?_) λz=>?_
 .have e:=eqs z;subst e;exact⟨fdl,ne_2,zdE aB,IntMulOk.of_right (by show intBits (1-2*c.fmod 2)<=64;rcases z1b c with e|e <;> rw[e] <;> decide),rfl,rfl,⟨zaA,zaA,zaA⟩,h _ 1 (.num _) (Xp n)⟩
 rcases O with e|e|e
 .exact absurd e (eqn z)
 .subst e;exact⟨rfl,rfl,rfl,rfl,rfl,rfl,zaR yt,zaR yt,⟨zaA,zaA⟩,h _ 1 .nil (Xp n)⟩
 subst e;exact⟨rfl,rfl,rfl,rfl,rfl,rfl,zaR yt,zaR yt,⟨zaA,zaA⟩,h _ 1 .leaf (Xp n)⟩
theorem b7(X:AX K mg C):∀n:Nat,FD P w K mg base (n+2) "_law_expression" pA (tEx n)
 |0=>by
  exact QB X 44 ["_law_state","_law_scope","_law_deep","_law_shape","_law_cell","_law_way","_law_some","_law_heads","_law_head_here","_law_kinds","_law_word"] λ_ _ _ _ _ _ _ _ _ _ _ _ h=>h.elim
 |n+1=>g9 X (b7 X n)
theorem Vn:∀(zs ks:List Str),ks.length<=zs.length->(zs.zip ks).map Prod.fst=zs.take ks.length
 |_,[],_=>by rw[zdB];rfl
 |z::zs,k::ks,h=>by rw[zaM,zaB,Vn zs ks (Nat.le_of_succ_le_succ h)];rfl
def Xm{α:Type}(f:α->D)(E:List α)(n:Nat):ZZ.cutD (E.map f) (some (n:Int)) none=(E.drop n).map f:=by
 rw[Mp,<- List.map_drop]
def eqi{a b:Int}(h:eqD (.int a) (.int b)=true):a=b:=by
 rw[bh]at h;simpa using h
def z1c{s:Str}{ks:List Str}(h:MK s ks):2<=ks.length/\ks.length<=3/\∀k∈ks,IsSh k:=by
 rcases h with⟨e,f⟩|⟨e,f⟩|⟨e,f⟩
 .exact Sw (o:="add") (.inl ⟨e,.inl rfl,f⟩)
 .exact Sw (.inr (.inl ⟨e,rfl,f⟩))
 exact Sw (.inr (.inr ⟨e,rfl,f⟩))
def Fg{t1 t2 e d:TD}{U:DE}{Y:EV->Prop}{as bs:List D}{i:Int}{a b:D}(j:atI as i=some a)(g:atI bs i=some b)(h1:∀ M:EV->Prop,M (dv (.lst as))->t1 U M)(h2:∀ M:EV->Prop,M (dv (.int i))->e U M)(l:∀ M:EV->Prop,M (dv (.lst bs))->t2 U M)(k:∀ M:EV->Prop,M (dv (.int i))->d U M)(p:Y (dv (.tup [a,b]))):dTup (u9 (d2 sIxx t1 e) (u9 (d2 sIxx t2 d) aNil)) U Y:=h1 _ (h2 _ (we j (l _ (k _ (we g ⟨rfl,rfl,p⟩)))))
structure NE(zs:List Str)(n:Nat)(env:Env):Prop where
 nd:zs.Nodup
 nm:env.map Prod.fst=zs.take env.length
 ln:env.length+3*n+3<=zs.length
 hi:zs.length<=50
 sh:∀p∈env,IsSh p.2
def NE.nodup{zs:List Str}{n:Nat}{env:Env}(h:NE zs n env):(env.map Prod.fst).Nodup:=by
 rw[h.nm];exact h.nd.sublist (zeK ..)
def NE.more{zs:List Str}{n:Nat}{env:Env}(h:NE zs (n+1) env){ks:List Str}(g:ks.length<=3)(e:∀ k∈ks,IsSh k):NE zs n (env++(zs.drop env.length).zip ks):=by
 have hl:=h.ln;have d:((zs.drop env.length).zip ks).length=ks.length:=by rw[zbI,zdC];lia
 refine⟨h.nd,?_,by rw[zLa,d];lia,h.hi,λp a=>?_⟩
 .rw[zMa,h.nm,zLa,d,List.take_add,Vn _ _ (by rw[zdC];lia)]
 rcases zas.mp a with a|a
 .exact h.sh p a
 exact e _ (zdT a).2
def NE.down{zs:List Str}{n:Nat}{env:Env}(h:NE zs (n+1) env):NE zs n env:=⟨h.nd,h.nm,by have:=h.ln;lia,h.hi,h.sh⟩
def NE.three{zs:List Str}{n:Nat}{env:Env}(h:NE zs n env):∃a b c r,zs.drop env.length=a::b::c::r:=by
 have hl:=h.ln;have:3<=(zs.drop env.length).length:=by rw[zdC];lia
 match zs.drop env.length,this with
 |a::b::c::r,_=>exact⟨a,b,c,r,rfl⟩
def tBd:Nat->FT
 |0=>λ_ _=>False
 |n+1=>λS Y=>∃(cs:List Int)(zs:List Str)(hs:List Hd)(env:Env)(s:Str),S=[stD cs zs hs,.lst (env.map prD),.int (4-n),.str s]/\HsOk hs/\NE zs n env/\n<=4/\IsSh s/\∀b,Bt (sg1 hs) env b s->Y (dv b)
def SM(env:Env)(es:List D):Prop:=∃ms:List (Str×Str),es=ms.map prD/\∀p∈ms,p∈env/\p.2≠"num"
def cutv{t u:TDS}{U:DE}{Z:DZ}(i:Nat)(v:EV)(h1:t U {Z with nx:=λr=>r=setS U i v})(h2:u (setS U i v) Z):sSeq (sCut t) u U Z:=⟨_,h1,λ_ e=>e▸h2⟩
def z5o{t u:TDS}{U:DE}{Z:DZ}(g:DE->DE)(h1:t U {Z with nx:=λr=>r=g U})(h2:u (g U) Z):sSeq (sCut t) u U Z:=⟨_,h1,λ_ e=>e▸h2⟩
def z4v{tc:TDb}{t1 u:TDS}{U:DE}{Z:DZ}{Q:Prop}(h:∀ M:Bool->Prop,(∀ b,(b=false->Q)->M b)->tc U M)(h1:t1 U {Z with nx:=λr=>u r Z})(h2:Q->u U Z):sSeq (sIf tc t1 sNil) u U Z:=h _ λb q=>⟨λ_=>h1,λz=>h2 (q z)⟩
def dn(m:Nat):(4:Int)-((m+1:Nat):Int)+1=4-m:=by lia
def Uv{n:Nat}(X:AX K mg C)(L:FD P w K mg base (n+7) "_law_body" pA (tBd n)):FD P w K mg base (n+8) "_law_body" pA (tBd (n+1)):=by
 refine QB X 45 ["_law_state","_law_scope","_law_deep","_law_shape","_law_cell","_law_way","_law_names_here","_law_kind","_law_one","_law_other","_law_body_here","_law_some","_law_x","_law_word","_law_kinds","_law_more"] ?_;walk_at "b";refine⟨_,(ze (zx 4 ds.nd (y8 (b4 X) hr.d aR))
   (ze (xj (zx 5 ds.nd (jk aR (Xg X.T.int (za (z5g (z9 2) zc) zb)))))
   (ze (zx 4 ds.nd aR)
   (ze (xj (zx 6 ds.nd (xa (F1 0 2) aR vh)))
   (ze (wl aR (ze (zx 7 ds.nd aR)
    (ze (zx 8 ds.nd (y8 (b7 X 4) hr.d aR))
    (zm (yg (zh (za zf (za aR (za (z9 8) (za (y8 L hr.d aR) zb))))))))) x8)
   (ze (wl aR (ze (zx 8 ds.nd (y8 (b7 X 4) hr.d aR))
    (ze (zx 9 ds.nd (y8 (b7 X 4) hr.d aR))
    (ze (zx 10 ds.nd (y8 L hr.d aR))
    (zm (yg (zh (za zf (za (z9 8) (za (z9 9) (za aR (za (y8 L hr.d aR) zb))))))))))) x8)
   (ze (xj (ub 11 ds.nd (.mk ["_law_name","_law_kind"] [] [] (xc (z9 1)) QG)))
   (ze (wl (EW.et (Z7 (z2l hu (z9 5) aR) aR)) (zm (yg (zh (za zf (za (y8 (b7 X 4) hr.d aR) zb))))) x8)
   (ze (E2 aR (ve (K0:=K) (n:=2) (by rfl) (by rfl) (yd (zj (i:=12) ds.nd rfl aG) (yd (zj (i:=13) ds.nd rfl aG) wt))) (vg 12 13))
   (ze (xj (zx 14 ds.nd (z2t hu zf aR zf aR aR)))
   (ze (xj (xy 14 (xy 6 (ub 15 ds.nd (.mk ["_law_k"] ["_law_names_here","_law_kinds"] [6,14] (xk X.T.range aR) QG)))))
   (ze (zx 10 ds.nd (y8 L hr.d aR))
   (ze (zx 9 ds.nd (y8 L hr.d aR))
   (zm (xy 15 (yg (yx (yx aR (va X.T.tuple (za (Xh (.mk ["_law_name","_law_kind"] [] [] (xc aR) (λcl C fp s H=>(z9 0)))) zb))) aR))))))))))))))))),?_⟩
 obtain⟨cs,zs,I,env,s,rfl,R,ne,n4,J,h⟩:=hT;obtain⟨g,x,v,u,ez⟩:=ne.three;have B:=zak ne.ln ne.hi;refine⟨rfl,cs,_,rfl,λc c0=>⟨zaA,qu 5 (λw=>dv (.int w)) (λw=>w≠0->1<=n) ⟨ne_6,IntMulOk.of_right (by show intBits (if decide ((4:Int)-n<4)=true then 1 else 0)<=64;split <;> decide),zaA,_,λz=>Nat.not_lt.mp λy=>z ?_,rfl⟩ λw V=>⟨fdl,zaA,?_⟩⟩⟩
 .have:n=0:=by lia
  subst this;exact Int.mul_zero _
 have e6:=Xm D.str zs (env.map prD).length;rw[zLm,ez,<- zLm (f:=prD)]at e6;refine cutv 6 (dO (.lst ((g::x::v::u).map D.str))) ⟨zaA,zbO (λl=>setS _ 6 (dO (.lst l))) e6⟩ ?_;refine if_r (eqD (.int w) (.int 2)) (λM a=>⟨zaR (xg ..),zaR (xg ..),a⟩) (λz=>?_) λ_=>?_
 .have n1:=V (by rw[eqi z];decide)
  obtain⟨m,rfl⟩:∃m,n=m+1:=⟨n-1,by lia⟩
  obtain⟨kd,a5,ek⟩:=pk3 (c.fdiv 6);have Z:=ne.more (ks:=[kd]) (aB:1<=3) (λj hj=>by rw[zaC.mp hj];exact a5)
  rw[ez,zaM,zdB]at Z;refine⟨rfl,rfl,ne_3,we ek ⟨zaA,rfl,cs,zs,I,env,kd,rfl,R,ne.nodup,by lia,by decide,a5,λe k W hk=>⟨zaA,?_⟩⟩⟩
  dsimp only [sRet,dTup,u9,d2,dC,ux,slot,setS,dv,EV.sto]
  refine we Hj ?_
  dsimp only [u9,ux,T6,dLst,d2,dTup,dC,slot,dv]
  refine we Hj ⟨rfl,rfl,rfl,rfl,by rw[zLm];exact vf (Nat.ble_eq.mpr (show env.length+1<=1000 by lia)),rfl,cs,zs,I,env++[(g,kd)],s,?_,R,Z,by lia,J,λb hb=>⟨rfl,rfl,⟨zaA,zaA,W.pure,hb.pure,zaA⟩,h _ (.bind aD W (zak hk aB) (by have:=Z.nodup;rwa [zMa]at this) hb)⟩⟩
  rw[zMa];exact zbO (λt=>[stD cs zs I,D.lst (env.map prD++[prD (g,kd)]),D.int t,D.str s]) (dn m)
 refine if_r (eqD (.int w) (.int 3)) (λM a=>⟨zaR (xg ..),zaR (xg ..),a⟩) (λz=>?_) λ_=>?_
 .have n1:=V (by rw[eqi z];decide)
  obtain⟨m,rfl⟩:∃m,n=m+1:=⟨n-1,by lia⟩
  have eD:=zbO (λt=>[stD cs zs I,D.lst (env.map prD),D.int t,D.str s]) (dn m);exact⟨rfl,cs,zs,I,env,"num",rfl,R,ne.nodup,by lia,by decide,.inl rfl,λe k W hk=>⟨zaA,rfl,cs,zs,I,env,"num",rfl,R,ne.nodup,by lia,by decide,.inl rfl,λe2 k2 a6 a8=>⟨zaA,rfl,cs,zs,I,env,s,eD,R,ne.down,by lia,J,λb1 G=>⟨zaA,rfl,cs,zs,I,env,s,eD,R,ne.down,by lia,J,λb hb=>⟨rfl,rfl,⟨zaA,W.pure,a6.pure,G.pure,hb.pure,zaA⟩,h _ (.less W a6 (zak hk aB) (zak a8 aB) G hb)⟩⟩⟩⟩⟩
 refine qu 11 (λms:List (Str×Str)=>dO (.lst (ms.map prD))) (λms=>∀p∈ms,p∈env/\p.2≠"num") (vv (env.map prD) (λM a=>⟨zaA,a⟩) (λi es=>SM env es) (by rw[zLm];lia) ⟨[],rfl,λ_ h=>nomatch h⟩ ?_ λ_ ⟨ms,e,V⟩=>⟨zaA,ms,V,zbO (λl=>setS _ 11 (dO (.lst l))) e⟩) λms hm=>?_
 .rintro i d es hd hl ⟨ms,rfl,V⟩;obtain⟨p,hp,rfl⟩:=zah.mp (zan hd);refine⟨zaR yt,zaR yt,λz=>⟨rfl,rfl,zaA,ms++[p],by rw[zMa];rfl,λy hy=>?_⟩,λ_=>⟨ms,rfl,V⟩⟩
  rcases zas.mp hy with hy|hy
  .exact V y hy
  rw[zaC.mp hy];exact⟨hp,eqn (by simpa using z)⟩
 refine z4v (Q:=w≠0/\ms≠[]) (λM a=>⟨rfl,rfl,rfl,rfl,And.intro (λ_=>a true λy=>nomatch y) (λz=>⟨zaR (xg ..),zaR (xg ..),a _ λy=>⟨λe=>by rw[e]at z;exact absurd z aB,λe=>by rw[e]at y;exact absurd y aB⟩⟩)⟩) ⟨rfl,cs,zs,I,env,s,rfl,R,ne.nodup,by lia,by decide,J,λe k W hk=>⟨rfl,rfl,⟨zaA,W.pure,zaA⟩,h _ (.give W (zak hk aB))⟩⟩ λq=>?_
 have n1:=V q.1;obtain⟨m,rfl⟩:∃m,n=m+1:=⟨n-1,by lia⟩
 have eD:=zbO (λt=>[stD cs zs I,D.lst (env.map prD),D.int t,D.str s]) (dn m);refine wc (ρ':=[q_ (stD cs zs I),q_ (.lst (env.map prD)),q_ (.int (4-(m+1:Nat))),q_ (.str s),q_ (.int (c.fdiv 6)),q_ (.int w),Q_ (.lst ((g::x::v::u).map D.str)),none,none,none,none,Q_ (.lst (ms.map prD)),none,none,none,none]) rfl ?_;obtain⟨l0,p,hp,ep⟩:=dz (f:=prD) q.2 (c.fdiv 6);obtain⟨a4,a0⟩:=hm p hp;refine⟨l0,we ep ⟨zaA,qu 14 (λks:List Str=>dO (.lst (ks.map D.str))) (MK p.2) ⟨rfl,rfl,rfl,rfl,"list","tree",rfl,rfl,by decide,.inr ⟨["num","list"],rfl⟩,.inr ⟨["tree","num","tree"],rfl⟩,p.2,rfl,?_⟩ λks mk=>?_⟩⟩
 .rcases ne.sh p a4 with e|e|e
  .exact absurd e a0
  .exact .inl ⟨e,zaA,["num","list"],.inr (.inl ⟨e,rfl⟩),rfl⟩
  exact .inr ⟨e,zaA,["tree","num","tree"],.inr (.inr ⟨e,rfl⟩),rfl⟩
 obtain⟨m2,m3,a7⟩:=z1c mk;have zl:((g::x::v::u).zip ks).length=ks.length:=by rw[zbI];show min (u.length+3) _=_;lia
 have Z:=ne.more (ks:=ks) m3 a7;rw[ez]at Z;have hx:=Md ne.nodup a4;have N:=Z.nodup;refine z5o (λr=>setS (frzS (frzS r 14) 6) 15 (dO (.lst (((g::x::v::u).zip ks).map prD)))) (je (je (db (vv (rngD 0 ks.length) (λM a=>?_) (λi es=>es=(((g::x::v::u).zip ks).take i).map prD) (by rw[sn1];lia) rfl ?_ ?_)))) ?_
 .refine(show -(2 ^ 62)<=(((ks.map D.str).length:Nat):Int)/\(((ks.map D.str).length:Nat):Int)<2 ^ 62/\M (rngD 0 (((ks.map D.str).length:Nat):Int).toNat) from ?_);rw[zLm];exact⟨by lia,by lia,a⟩
 .rintro i d es hd hl rfl;obtain⟨hi,rfl⟩:=uv hd;have il:i<((g::x::v::u).zip ks).length:=by lia
  have iz:i<(g::x::v::u).length:=by show i<u.length+3;lia
  rw[zgA];refine⟨λ_=>?_,λz=>nomatch z⟩;have en:atI ((g::x::v::u).map D.str) (i:Int)=some (.str (g::x::v::u)[i]):=uu aD (by rw[zai,zcF,zaf iz];rfl)
  have ek:atI (ks.map D.str) (i:Int)=some (.str ks[i]):=uu aD (by rw[zai,zcF,zaf hi];rfl)
  refine Fg en ek aA aA aA aA ⟨zaA,?_⟩;rw[zbL,zaf il,List.getElem_zip,zMa];rfl
 .rintro _ rfl;rw[sn1,zcJ aD]
  exact⟨zaA,rfl⟩
 refine⟨rfl,cs,zs,I,env,s,eD,R,ne.down,by lia,J,λb1 G=>⟨zaA,by rw[zLm,zLm,zl];exact vf (Nat.ble_eq.mpr (show env.length+ks.length<=1000 by lia)),rfl,cs,zs,I,env++(g::x::v::u).zip ks,s,by rw[zMa];exact zbO (λt=>[stD cs zs I,D.lst (env.map prD++((g::x::v::u).zip ks).map prD),D.int t,D.str s]) (dn m),R,Z,by lia,J,λb2 O=>⟨zaA,?_⟩⟩⟩
 dsimp only
 refine je ?_;refine⟨rfl,rfl,(show dCB sTupC _ _ _ from Y8 (vv (((g::x::v::u).zip ks).map prD) (λM a=>⟨zaA,a⟩) (λi es=>es=((((g::x::v::u).zip ks).map Prod.fst).take i).map D.str) (by rw[zLm,zl];lia) rfl ?_ ?_))⟩
 .rintro i d es hd hl rfl;rw[zai]at hd;obtain⟨r,hr,rfl⟩:=zar.mp hd;refine⟨λ_=>⟨zaA,?_⟩,λz=>nomatch z⟩;rw[zbL,zai,hr,zMa];rfl
 rintro _ rfl;rcases mk with⟨e,_⟩|⟨e,rfl⟩|⟨e,rfl⟩
 .exact absurd e a0
 .rw[e]at hx ⊢;rw[zMa]at N;exact⟨zcD _ _,zcD _ _,vf rfl,rfl,rfl,zcD _ _,zcD _ _,vf rfl,⟨zaA,zaA,G.pure,zaA,zaA,O.pure,zaA⟩,h _ (.list aD hx G N O)⟩
 rw[e]at hx ⊢;have e3:(g::x::v::u).zip [("tree" : Str),"num","tree"]=([(g,"tree"),(x,"num"),(v,"tree")]:Env):=by rw[zaM,zaM,zaM,zdB]
 rw[e3]at O N ⊢;rw[zMa]at N;exact⟨zcD _ _,zcD _ _,vf rfl,rfl,rfl,zcD _ _,zcD _ _,vf rfl,⟨zaA,zaA,G.pure,zaA,zaA,zaA,O.pure,zaA⟩,h _ (.tree aD hx G N O)⟩
theorem Mb(X:AX K mg C):∀n:Nat,FD P w K mg base (n+7) "_law_body" pA (tBd n)
 |0=>by
  exact QB X 45 ["_law_state","_law_scope","_law_deep","_law_shape","_law_cell","_law_way","_law_names_here","_law_kind","_law_one","_law_other","_law_body_here","_law_some","_law_x","_law_word","_law_kinds","_law_more"] λ_ _ _ _ _ _ _ _ _ _ _ _ h=>h.elim
 |n+1=>Uv X (Mb X n)
def z2z{α:Type}{t u:TDS}{U:DE}{Z:DZ}(g:α->DE->DE)(P:α->Prop)(h1:t U {Z with nx:=λr=>∃ a,P a/\r=g a U})(h2:∀ a,P a->u (g a U) Z):sSeq (sCut t) u U Z:=⟨_,h1,λ_ ⟨a,p,e⟩=>e▸h2 a p⟩
abbrev Gd:=Hd×D
noncomputable def gD(g:Gd):D:=fnD g.1 g.2
structure GOk(hs:List Hd)(g:Gd):Prop where
 n1:1<=g.1.ps.length
 n3:g.1.ps.length<=3
 sh:∀p∈g.1.ps,IsSh p.2
 nd:(g.1.ps.map Prod.fst).Nodup
 bt:Bt (sg1 hs) g.1.ps g.2 g.1.sh
structure PG1(gs:List Gd)(hs:List Hd):Prop where
 nd:(gs.map λg=>g.1.nm).Nodup
 mem:∀h∈hs,∃b,(h,b)∈gs
 hnd:(hs.map Hd.nm).Nodup
 ok:∀g∈gs,GOk hs g
 n1:gs≠[]
 ln:gs.length<=10
def z3o:FT:=g1 λd Y=>∃ns,d=.scr ns/\∀gs hs,PG1 gs hs->Y (dv (.tup (gs.map gD)))
def KO(zs:List Str)(ks:List Hd):Prop:=∀(j:Nat)(h:Hd),ks[j]?=some h->zs[2+j]?=some h.nm/\HOk1 zs h
def KO.add{zs:List Str}{ks:List Hd}{h:Hd}(k:KO zs ks)(a:zs[2+ks.length]?=some h.nm)(ho:HOk1 zs h):KO zs (ks++[h]):=λj g e=>by
 rcases Nat.lt_trichotomy j ks.length with z|z|z
 .rw[zaG z]at e;exact k j g e
 .subst z;rw[zaF (zaj _),zeI]at e;cases e;exact⟨a,ho⟩
 rw[zbM (by rw[zLa,List.length_singleton];lia)]at e
 cases e
def KO.names{zs:List Str}{ks:List Hd}(k:KO zs ks):ks.map Hd.nm=(zs.drop 2).take ks.length:=by
 apply List.ext_getElem?;intro j;rw[zai,List.getElem?_take];by_cases z:j<ks.length
 .rw[zaK z,List.getElem?_drop,zaf z];exact(k j _ (zaf z)).1.symm
 rw[zaI z,zbM aD]
 rfl
def HOk1.ne{zs:List Str}{h:Hd}(o:HOk1 zs h)(g:zs.Nodup)(l:zs.length=20):NE zs 4 h.ps/\1<=h.ps.length/\h.ps.length<=3:=by
 obtain⟨ks,e,q,k,d,_⟩:=o;have j:h.ps.length=ks.length:=by rw[e,zbI];lia
 refine⟨⟨g,?_,by lia,by lia,λp a=>?_⟩,by lia,by lia⟩
 .rw[j,e,Vn _ _ aD]
 rw[e]at a;exact d _ (zdT a).2
def KO.heads{d a1 a2 a3 g:Str}{r:List Str}{ks:List Hd}(k:KO (d::a1::a2::a3::g::r) ks)(x:r.length=15)(l:(d::a1::a2::a3::g::r).Nodup)(y:ks.length<=3):HsOk (putH d a1 a2::plaH a1 d a1::ks):=by
 have u:(d::a1::a2::a3::g::r).length=20:=by show r.length+5=20;lia
 refine⟨?_,λh e=>?_,by show ks.length+2<=100;lia⟩
 .show(d::a1::ks.map Hd.nm).Nodup;rw[k.names];exact l.sublist (.cons₂ _ (.cons₂ _ (zeK ..)))
 rcases zam.mp e with rfl|e
 .exact⟨(show 1<=2 by decide),(show 2<=3 by decide),λp a=>by rcases zam.mp a with rfl|a;exact .inl rfl;rw[zaC.mp a];exact .inr (.inl rfl),.inr (.inl rfl)⟩
 rcases zam.mp e with rfl|e
 .exact⟨(show 1<=2 by decide),(show 2<=3 by decide),λp a=>by rcases zam.mp a with rfl|a;exact .inl rfl;rw[zaC.mp a];exact .inr (.inr rfl),.inr (.inr rfl)⟩
 obtain⟨j,v⟩:=zbJ e;have o:=(k j h v).2;have q:=o.ne l u;obtain⟨_,_,_,_,_,s,_⟩:=o;exact⟨q.2.1,q.2.2,q.1.sh,s⟩
def Cr(ns:List Int):ZZ.cutD (ns.map D.int) (some 6) (some 54)=((ns.drop 6).take 48).map D.int:=by
 rw[List.map_take,List.map_drop];exact He (ns.map D.int) 6 54
def C7{i:Nat}{te:TD}{U:DE}{Y:EV->Prop}(h:te (frzS U i) λr=>(∃ es,r=df (.lst es)/\y7 es)/\Y r):z2x i te U Y:=h
def z3a{j:List Hd}{f n x h t:Str}(G:sigL (sg1 j) f=some ([("num" : Str),"list"],("list" : Str)))(g:[n,x,h,t].Nodup):Bt (sg1 j) (putH f n x).ps (putB f n x h t) "list":=by
 have q:∀a b:Str,a≠b->∀(v:Str)(r:Env),envL ((a,v)::r) b=envL r b:=λa b e v r=>zaI e;simp only[zaQ,zam,zaS,zdK,not_or,zcX,not_false_eq_true,and_true]at g;obtain⟨⟨y,B,z⟩,⟨u,l⟩,D⟩:=g;have d:∀r:Env,envL ((n,"num")::r) n=some ("num" : Str):=λr=>zaK rfl;have ex:∀r:Env,envL ((n,"num")::(x,"list")::r) x=some ("list" : Str):=λr=>(q _ _ y _ _).trans (zaK rfl);have k:∀r:Env,envL ((n,"num")::(x,"list")::(h,"num")::r) h=some ("num" : Str):=λr=>(q _ _ B _ _).trans ((q _ _ u _ _).trans (zaK rfl));have et:∀r:Env,envL ((n,"num")::(x,"list")::(h,"num")::(t,"list")::r) t=some ("list" : Str):=λr=>(q _ _ z _ _).trans ((q _ _ l _ _).trans ((q _ _ D _ _).trans (zaK rfl)));refine .list (by show 2<=100;decide) (ex _) (.give (.cons (.var (d _)) .nil) aB) ?_ (.less (.var (d _)) (.var (k _)) aB aB (.give (.cons (.var (d _)) (.var (ex _))) aB) (.give (.cons (.var (k _)) (.call G (.cons (.var (d _)) (.cons (.var (et _)) .nil)))) aB))
 show[n,x,h,t].Nodup;simp[*]
def z3b{k:List Hd}{f n x l v w:Str}(u:sigL (sg1 k) f=some ([("num" : Str),"tree"],("tree" : Str)))(j:[n,x,l,v,w].Nodup):Bt (sg1 k) (plaH f n x).ps (plaB f n x l v w) "tree":=by
 have q:∀a b:Str,a≠b->∀(v:Str)(r:Env),envL ((a,v)::r) b=envL r b:=λa b e v r=>zaI e;simp only[zaQ,zam,zaS,zdK,not_or,zcX,not_false_eq_true,and_true]at j;obtain⟨⟨J,N,M,L⟩,⟨G,D,B⟩,⟨Q,O⟩,I⟩:=j;have d:∀r:Env,envL ((n,"num")::r) n=some ("num" : Str):=λr=>zaK rfl;have ex:∀r:Env,envL ((n,"num")::(x,"tree")::r) x=some ("tree" : Str):=λr=>(q _ _ J _ _).trans (zaK rfl);have z:∀r:Env,envL ((n,"num")::(x,"tree")::(l,"tree")::r) l=some ("tree" : Str):=λr=>(q _ _ N _ _).trans ((q _ _ G _ _).trans (zaK rfl));have g:∀r:Env,envL ((n,"num")::(x,"tree")::(l,"tree")::(v,"num")::r) v=some ("num" : Str):=λr=>(q _ _ M _ _).trans ((q _ _ D _ _).trans ((q _ _ Q _ _).trans (zaK rfl)));have y:∀r:Env,envL ((n,"num")::(x,"tree")::(l,"tree")::(v,"num")::(w,"tree")::r) w=some ("tree" : Str):=λr=>(q _ _ L _ _).trans ((q _ _ B _ _).trans ((q _ _ O _ _).trans ((q _ _ I _ _).trans (zaK rfl))));refine .tree (by show 2<=100;decide) (ex _) (.give (.node .leaf (.var (d _)) .leaf) aB) ?_ (.less (.var (d _)) (.var (g _)) aB aB (.give (.node (.call u (.cons (.var (d _)) (.cons (.var (z _)) .nil))) (.var (g _)) (.var (y _))) aB) (.give (.node (.var (z _)) (.var (g _)) (.call u (.cons (.var (d _)) (.cons (.var (y _)) .nil)))) aB))
 show[n,x,l,v,w].Nodup;simp[*]
def Fc{ks:List Hd}{bs:List D}(d:bs.length=ks.length){h:Hd}(m:h∈ks):∃b,(h,b)∈ks.zip bs:=by
 obtain⟨j,a,e⟩:=List.getElem_of_mem m;refine⟨bs[j]' aD,?_⟩
 rw[<- e];exact List.mem_iff_getElem.mpr ⟨j,by rw[zbI];lia,List.getElem_zip⟩
def z4g{d a1 a2 a3 x:Str}{r:List Str}{ks:List Hd}{bs:List D}(k:HsOk (putH d a1 a2::plaH a1 d a1::ks))(L:r.length=15)(M:ks.length<=3)(u:(d::a1::a2::a3::x::r).Nodup)(z:KO (d::a1::a2::a3::x::r) ks)(J:bs.length=ks.length)(I:∀ g∈ks.zip bs,Bt (sg1 (putH d a1 a2::plaH a1 d a1::ks)) g.1.ps g.2 g.1.sh) :
  PG1 ([((putH d a1 a2,putB d a1 a2 a3 x):Gd),(plaH a1 d a1,plaB a1 d a1 a2 a3 x)]++ks.zip bs) (putH d a1 a2::plaH a1 d a1::ks):=by
 have y:(d::a1::a2::a3::x::r).length=20:=by show r.length+5=20;lia
 have B:(ks.zip bs).map (λg=>g.1.nm)=ks.map Hd.nm:=by
  have e:(ks.zip bs).map (λg:Gd=>g.1.nm)=((ks.zip bs).map Prod.fst).map Hd.nm:=by rw[zaV];rfl
  rw[e,List.map_fst_zip aD]
 refine⟨?_,λh v=>?_,k.nd,λg l=>?_,by simp,?_⟩
 .show(d::a1::(ks.zip bs).map λg=>g.1.nm).Nodup;rw[B];exact k.nd
 .rcases zam.mp v with rfl|v
  .exact⟨_,.head _⟩
  rcases zam.mp v with rfl|v
  .exact⟨_,.tail _ (.head _)⟩
  obtain⟨b,m⟩:=Fc J v;exact⟨b,.tail _ (.tail _ m)⟩
 .have s2:∀{a b:Str}{E:List Str},(a::b::E).Nodup->[a,b].Nodup:=λn=>n.sublist (.cons₂ _ (.cons₂ _ (List.nil_sublist _)));rcases zam.mp l with rfl|l
  .have q:=k.ok (putH d a1 a2) (.head _);exact⟨q.1,q.2.1,q.2.2.1,s2 (zaQ.mp u).2,z3a (Ls k.nd (.head _)) ((zaQ.mp u).2.sublist (.cons₂ _ (.cons₂ _ (.cons₂ _ (.cons₂ _ (List.nil_sublist _))))))⟩
  rcases zam.mp l with rfl|l
  .have q:=k.ok (plaH a1 d a1) (.tail _ (.head _));exact⟨q.1,q.2.1,q.2.2.1,s2 u,z3b (Ls k.nd (.tail _ (.head _))) (u.sublist (.cons₂ _ (.cons₂ _ (.cons₂ _ (.cons₂ _ (.cons₂ _ (List.nil_sublist _)))))))⟩
  obtain⟨j,G⟩:=zbJ (zdT l).1;have q:=(z j g.1 G).2.ne u y;exact⟨q.2.1,q.2.2,q.1.sh,q.1.nodup,I g l⟩
 rw[zLa,zbI];show 2+_<=10;lia
def PG1.rot{gs:List Gd}{hs:List Hd}(p:PG1 gs hs)(t:Nat):PG1 (gs.drop t++gs.take t) hs:=by
 have a:(gs.drop t++gs.take t).Perm gs:=by
  have:=List.perm_append_comm (l₁:=gs.drop t) (l₂:=gs.take t)
  rwa [List.take_append_drop]at this
 exact⟨(a.map _).nodup_iff.mpr p.nd,λh d=>(p.mem h d).imp λb m=>a.mem_iff.mpr m,p.hnd,λg e=>p.ok g (a.mem_iff.mp e),λz=>p.n1 (List.length_eq_zero_iff.mp (by rw[<- a.length_eq,z];rfl)),by rw[a.length_eq];exact p.ln⟩
theorem GOk.pure{a:List Hd}{g:Gd}(o:GOk a g):zw (gD g):=by
 have q:=du g.1;exact⟨q.1,q.2.1,q.2.2.1,o.bt.pure,zaA⟩
structure TW(zs:List Str)(p q:Gd):Prop where
 ln:zs.length=20
 nd:zs.Nodup
 oh:∀ks:List Hd,KO zs ks->ks.length<=3->HsOk (p.1::q.1::ks)
 pg:∀(ks:List Hd)(bs:List D),ks.length<=3->KO zs ks->bs.length=ks.length->(∀g∈ks.zip bs,Bt (sg1 (p.1::q.1::ks)) g.1.ps g.2 g.1.sh)->PG1 ([p,q]++ks.zip bs) (p.1::q.1::ks)
def Z6(X:AX K mg C):FD P w K mg base 13 "_law_program" ["_law_script"] z3o:=by
 refine QB X 46 ["_law_script","_law_first","_law_names_here","_law_program_here","_law_heads","_law_state","_law_head_here","_law_turn"] ?_;walk_at "b";refine⟨_,(ze (xj (zx 1 ds.nd (x6 (y8 (xm X) (hr.e rfl) aR) (gw zc zc))))
   (ze (zx 2 ds.nd (y8 (Wy X) (hr.e rfl) (za (y8 (xm X) (hr.e rfl) aR) aR)))
   (ze (xj (zx 3 ds.nd (ym (za (y8 (Z5 X) (hr.e rfl) aR) (za (y8 (b6 X) (hr.e rfl) aR) zb)))))
   (ze (xj (xy 2 (ub 4 ds.nd (.mk ["_law_k"] ["_law_names_here","_law_script"] [2,0] (xk X.T.range aR) (λcl C fp s H=>(y8 (Uu X) (hr.e rfl) (za aR (za (z9 1) (za (y8 (xm X) (hr.e rfl) aR) zb)))))))))
   (ze (xj (xy 2 (zx 5 ds.nd (ym (za aR (za zc (za (z9 2) (za (yx (Cp 3 (wj (.mk ["_law_one"] [] [] (xc (z9 3)) QG))) (z9 4)) zb))))))))
   (ze (xj (z3x 5 (xy 4 (wm (xc (z9 4)) (zj (i:=6) ds.nd rfl aG) (yj 6) (zm (wn 3 (yx (z9 6) (zh (za (y8 (Mb X 5) (hr.e rfl) (za (z9 5) (za (Rj X.T.list aR) aR))) zb)))))))))
   (ze (xj (zx 7 ds.nd aR))
   (zm (yg (va X.T.tuple aR)))))))))),?_⟩
 obtain⟨a,rfl,ns,rfl,h⟩:=Ju hT;refine qu 1 (λc:Int=>dv (.int c)) (λ_=>True) ⟨rfl,ns,0,rfl,rfl,λc=>⟨⟨by decide,by decide,by decide⟩,(show(10 ^ 9:Int)≠0 by decide),zaA,_,zaA,rfl⟩⟩ λc _=>⟨rfl,ns,1,rfl,rfl,λx=>⟨rfl,x,20,rfl,by decide,λzs L O=>⟨zaA,?_⟩⟩⟩
 refine uh (λU=>∃zs p q,TW zs p q/\U=[q_ (.scr ns),q_ (.int c),Q_ (.lst (zs.map D.str)),Q_ (.lst ([p,q].map gD)),none,none,none,none]) ?_ ?_
 .match zs,L with
  |a0::a1::a2::a3::a4::r,L =>
  have R:r.length=15:=by rw[zLc,zLc,zLc,zLc,zLc]at L;lia
  refine db ?_
  dsimp only [dLst,u9,T6,d2,dC,ux,slot]
  refine we Hj ⟨rfl,a0,a1,a2,a3,a4,r,rfl,zbO D.lst (Xm D.str (a0::a1::a2::a3::a4::r) 1),?_⟩;exact we z3c ⟨rfl,a1,a0,a1,a2,a3,a4,r,rfl,rfl,rfl,rfl,zaA,_,(putH a0 a1 a2,putB a0 a1 a2 a3 a4),(plaH a1 a0 a1,plaB a1 a0 a1 a2 a3 a4),⟨L,O,λks l I=>l.heads R O I,λks bs I l J G=>z4g (l.heads R O I) R I O l J G⟩,rfl⟩
 rintro _ ⟨zs,p,q,W,rfl⟩;have L:=W.ln;refine z2z (λ(ks:List Hd) r=>setS (frzS r 2) 4 (dO (.lst (ks.map hdD)))) (λks=>ks.length<=3/\KO zs ks) ?_ ?_
 .obtain⟨n,n1,n3,en⟩:∃n:Nat,1<=n/\n<=3/\(1+c.fmod 3:Int)=n:=by
   rcases Dl c with z|z|z <;> rw[z]
   .exact⟨1,by decide,by decide,rfl⟩
   .exact⟨2,by decide,by decide,rfl⟩
   exact⟨3,by decide,by decide,rfl⟩
  refine je (db (vv (rngD 0 n) (λM u=>?_) (λi es=>∃ks:List Hd,ks.length=i/\es=ks.map hdD/\KO zs ks) (by rw[sn1];lia) ⟨[],rfl,rfl,λj h e=>(by simp at e)⟩ ?_ ?_))
  .exact⟨ne_3,(show -(2 ^ 62)<=(1+c.fmod 3:Int) by lia),(show(1+c.fmod 3:Int)<2 ^ 62 by lia),(show M (rngD 0 (1+c.fmod 3:Int).toNat) by rw[en];exact u)⟩
  .rintro i d es y hl ⟨ks,rfl,rfl,l⟩;obtain⟨hi,rfl⟩:=uv y;have V:2+ks.length<zs.length:=by lia
   rw[zgA];refine⟨λ_=>?_,λz=>nomatch z⟩;have ez:atI (zs.map D.str) (2+(ks.length:Int))=some (.str zs[2+ks.length]):=uu aD (by rw[zai,show(2+(ks.length:Int)).toNat=2+ks.length by lia,zaf V];rfl)
   refine(show T6 _ _ _ [q_ (.int ks.length),q_ (.lst (zs.map D.str)),q_ (.scr ns)] _ from ?_)
   dsimp only [u9,T6,d2,dC,ux,slot,dv,sAdd]
   refine we ez ⟨rfl,ns,2+ks.length,rfl,zbO D.int aD,λc=>⟨rfl,_,zs,c,rfl,rfl,by lia,rfl,λh hn ho=>⟨zaA,ks++[h],by rw[zLa];rfl,by rw[zMa];rfl,l.add (by rw[hn,zaf V]) ho⟩⟩⟩
  rintro _ ⟨ks,kl,rfl,l⟩;rw[sn1]at kl;exact⟨zaA,ks,⟨by lia,l⟩,rfl⟩
 rintro ks ⟨I,l⟩;refine wc (ρ':=[q_ (.scr ns),q_ (.int c),q_ (.lst (zs.map D.str)),Q_ (.lst ([p,q].map gD)),Q_ (.lst (ks.map hdD)),none,none,none]) rfl ?_;refine z2z (λ(cs:List Int) r=>setS (frzS r 2) 5 (dO (.lst [.lst (cs.map D.int),.int 0,.lst (zs.map D.str),.lst ((p.1::q.1::ks).map hdD)]))) (λ_=>True) ?_ ?_
 .refine je (db ?_)
  dsimp only [dLst,u9,aNil,dSl,Di,Dj,ux,dC,d2,slot,frzS,setS,EV.sto,dv,sSl]
  refine C7 (x3 ([p,q].map gD) (λM u=>⟨zaA,u⟩) (λd=>match d with|.tup [a,b,c,_]=>some (.tup [a,b,c])|_=>none) (by show 2<=_;decide) (λd y=>?_) ⟨⟨[hdD p.1,hdD q.1],rfl,du _,du _,zaA⟩,?_⟩)
  .rcases zam.mp y with rfl|y
   .exact⟨λ_=>⟨(show ¬ (ZZ.sIx 4 0 none=0/\ZZ.sIx 4 4 (some 3)=4) by decide),zaA,rfl⟩,λz=>nomatch z⟩
   rw[zaC.mp y];exact⟨λ_=>⟨(show ¬ (ZZ.sIx 4 0 none=0/\ZZ.sIx 4 4 (some 3)=4) by decide),zaA,rfl⟩,λz=>nomatch z⟩
  refine⟨vf (Nat.ble_eq.mpr (show 2+(ks.map hdD).length<=1000 by rw[zLm];lia)),rfl,rfl,zaA,(ns.drop 6).take 48,zaA,?_⟩
  rw[<- Cr ns];rfl
 rintro cs _;have oh:=W.oh ks l I;refine uh (λU=>∃bs B,bs.length=ks.length/\(∀g∈ks.zip bs,Bt (sg1 (p.1::q.1::ks)) g.1.ps g.2 g.1.sh)/\U=[q_ (.scr ns),q_ (.int c),q_ (.lst (zs.map D.str)),Q_ (.lst (([p,q]++(ks.take bs.length).zip bs).map gD)),q_ (.lst (ks.map hdD)),q_ (stD cs zs (p.1::q.1::ks)),B,none]) ⟨_,0,_,_,rfl,by decide,je (u4 (ks.map hdD) (λM u=>⟨zaA,u⟩) (λi U=>∃bs B,bs.length=i/\(∀g∈(ks.take i).zip bs,Bt (sg1 (p.1::q.1::ks)) g.1.ps g.2 g.1.sh)/\U=[q_ (.scr ns),q_ (.int c),q_ (.lst (zs.map D.str)),Q_ (.lst (([p,q]++(ks.take bs.length).zip bs).map gD)),q_ (.lst (ks.map hdD)),q_ (stD cs zs (p.1::q.1::ks)),B,none]) ⟨[],none,rfl,(λg v=>by rw[zdB]at v;cases v),rfl⟩ ?_ ?_)⟩ ?_
 .rintro i d _ y ⟨bs,B,rfl,G,rfl⟩;rw[zai]at y;obtain⟨g,v,rfl⟩:=zar.mp y;have V:=(zag.mp v).1;have og:=(l _ _ v).2;have nq:=(og.ne W.nd L).1;obtain⟨_,_,_,_,_,a5,_⟩:=og;refine uw (u6 rfl ⟨rfl,cs,_,_,g.ps,g.sh,rfl,oh,nq,by decide,a5,λb Z=>⟨rfl,rfl,zcD _ _,zcD _ _,vf rfl,zaA,?_,bs++[b],q_ (hdD g),by rw[zLa];rfl,?_,?_⟩⟩)
  .rw[zLm,zLa,zbI,zaX];show 2+_<=_;lia
  .intro q N;rw[zbL,v,List.zip_append (by rw[zaX];lia)]at N
   rcases zas.mp N with N|N
   .exact G q N
   rw[zaC.mp N];exact Z
  have Q:([p,q]++(ks.take (bs++[b]).length).zip (bs++[b])).map gD=([p,q]++(ks.take bs.length).zip bs).map gD++[gD (g,b)]:=by
   rw[zLa,show[b].length=1 from rfl,zbL,v,List.zip_append (by rw[zaX];lia),<- zcG]
   exact zMa
  rw[Q];rfl
 .rintro _ ⟨bs,B,J,G,rfl⟩;rw[zLm]at J;rw[zLm,zbU]at G;exact⟨bs,B,J,G,rfl⟩
 rintro _ ⟨bs,B,J,G,rfl⟩;rw[J,zbU];have gl:([p,q]++ks.zip bs).length<=10:=by rw[zLa,zbI];show 2+_<=_;lia
 have g2:2<=([p,q]++ks.zip bs).length:=by rw[zLa];show 2<=2+_;lia
 have pg:=W.pg ks bs I l J G;generalize [p,q]++ks.zip bs=k at gl g2 pg ⊢;obtain⟨l0,g,v,eg⟩:=dz (f:=gD) (E:=k) (λz=>by rw[z]at g2;exact absurd g2 aB) (c.fdiv 3)
 have t0:=zbD (c.fdiv 3) (show(0:Int)<(k.map gD).length by rw[zLm];lia)
 obtain⟨t,et⟩:=Int.eq_ofNat_of_zero_le t0;refine uh (λU=>U=[q_ (.scr ns),q_ (.int c),q_ (.lst (zs.map D.str)),Q_ (.lst (k.map gD)),q_ (.lst (ks.map hdD)),q_ (stD cs zs (p.1::q.1::ks)),B,q_ (.int t)]) ⟨fdl,l0,zaA,by rw[<- et];rfl⟩ ?_
 rintro _ rfl;have e1:=Xm gD k t;have e2:ZZ.cutD (k.map gD) none (some (t:Int))=(k.take t).map gD:=by rw[V9,<- List.map_take]
 have l1:(ZZ.cutD (k.map gD) (some (t:Int)) none).length+(ZZ.cutD (k.map gD) none (some (t:Int))).length<=sizeLine:=by
  rw[e1,e2,zLm,zLm,zdC,zaX];exact vf (Nat.ble_eq.mpr aD)
 have Q:ZZ.cutD (k.map gD) (some (t:Int)) none++ZZ.cutD (k.map gD) none (some (t:Int))=(k.drop t++k.take t).map gD:=by rw[e1,e2,zMa]
 have l2:y7 (ZZ.cutD (k.map gD) (some (t:Int)) none++ZZ.cutD (k.map gD) none (some (t:Int))):=by
  rw[Q];exact yi.mpr λd y=>by
   obtain⟨g,v,rfl⟩:=zah.mp y;exact((pg.rot t).ok g v).pure
 exact⟨l1,l2,(show Y (dv (.tup (ZZ.cutD (k.map gD) (some (t:Int)) none++ZZ.cutD (k.map gD) none (some (t:Int))))) by rw[Q];exact h _ _ (pg.rot t))⟩
def kg{lo:Int}{n:Nat}:(rngD lo n).length=n:=by unfold rngD;simp
def yc{i:Nat}{te:TD}{u:TDS}{U:DE}{Z:DZ}(h:te U λr=>(nw r)/\u (setS U i r.sto) Z):sSeq (sSet i te) u U Z:=h
def tm{i:Nat}{te:TD}{U:DE}{Z:DZ}(S:List D)(e:slot U i=Q_ (.lst S))(h:te U λr=>∃ gs,r=df (.lst gs)/\gs.length<=1000/\S.length<=100000/\Z.nx (setS U i (dO (.lst (S++gs))))):O0 i te U Z:=by
 unfold O0;rw[e];exact h
def Xl{te:TD}{U:DE}{Y:EV->Prop}(h:te U λr=>sSum [r.d] Y):dCB sSum (u9 te aNil) U Y:=h
def z3i{tc:TDb}{ta tb:TD}{U:DE}{Y:EV->Prop}(b:Bool)(r:EV)(h:∀ M:Bool->Prop,M b->tc U M)(h1:b=true->∀ M:EV->Prop,M r->ta U M)(h2:b=false->∀ M:EV->Prop,M r->tb U M)(k:Y r):vIf tc ta tb U Y:=h _ ⟨λz=>h1 z _ k,λz=>h2 z _ k⟩
theorem rh{α d:Type}(f:α->d):∀l:List α,l.filterMap (λx=>some (f x))=l.map f
 |[]=>rfl
 |a::l=>by rw[zbG];show f a::l.filterMap _=_;rw[rh f l];rfl
def runF(g:TGD)(tb:TDS)(Z:DZ):List D->DE->Prop
 |[],U=>Z.nx U
 |d::S,U=>g d U λρ'=>tb ρ' {Z with nx:=runF g tb Z S,ct:=runF g tb Z S,bk:=Z.nx}
def tj{ti:TID}{g:TGD}{tb:TDS}{U:DE}{Z:DZ}(S:List D)(h:∀ Y:List D->Prop,Y S->ti U Y)(k:runF g tb Z S U):sFor ti g tb U Z :=
 u4 S h (λi=>runF g tb Z (S.drop i)) k (λi d U e p=>by
  obtain⟨hi,rfl⟩:=zag.mp e;rw[List.drop_eq_getElem_cons hi]at p;exact p) λU p=>by
  rw[List.drop_length]at p;exact p
def V8{ti:TID}{n:Nat}{js:List Nat}{g:TGD}{tc:TDb}{te:TD}{U:DE}{Y:EV->Prop}(x y:D)(h:∀ M:List D->Prop,M [x]->ti U M)(e:g x (ρ0 n js U) λρ'=>tc ρ' λc=>(c=true->te ρ' λr=>(nw r)/\some y=some r.d)/\(c=false->some y=none))(a:Y (df (.lst [y]))):Mn ti n js g tc te U Y :=
 x3 [x] h (λ_=>some y) (show 1<=100000 by decide) (λd j=>by cases zaC.mp j;exact e) a
theorem cz{α d:Type}{f:α->List d}{n:Nat}:∀l:List α,(∀a∈l,(f a).length<=n)->(l.flatMap f).length<=n*l.length
 |[],_=>by simp
 |a::l,h=>by
  rw[List.flatMap_cons,zLa,zLc,Nat.mul_succ];have h1:=cz l λb e=>h b (zal _ e);have h2:=h a zao;lia
noncomputable def ndD(l:D)(c:Int)(r:D):D:=.tup [l,.int c,r]
def Bi:FT:=λS Y=>∃(l r:D)(c:Int),S=[.lst [l],.lst [.int c],.lst [r]]/\zw l/\zw r/\Y (df (.lst [ndD l c r]))
noncomputable def fm1:List Int:=[1,1,2]
def Bp:FT:=λS Y=>∃n:Nat,S=[.int n]/\n<=2/\Y (dv (.int (fm1.getD n 0)))
def Bs:FT:=λS Y=>∃(s:Str)(n:Nat),S=[.str s,.int n,.int 1]/\n<=2/\∀k:Int,0<=k->k<=2->Y (dv (.int k))
def X9(X:AX K mg C):FD P w K mg base 1 "nodes_over" ["lefts","numbers","rights"] Bi:=by
 refine QB X 35 ["lefts","numbers","rights","told","left","number"] ?_;walk_at "b";refine⟨_,(ze (zx 3 ds.nd aR)
   (ze (wm (xc (z9 0)) (zj (i:=4) ds.nd rfl aG) (yj 4) (zm (wm (xc (z9 1)) (zj (i:=5) ds.nd rfl aG) (yj 5) (zm (Yj 3 (wj (.mk ["right"] ["left","number"] [4,5] (xc (z9 2)) QG)))))))
   (zm (yg (z9 3))))),?_⟩
 obtain⟨l,r,c,rfl,pl,pr,h⟩:=hT;refine yc ⟨rfl,rfl,zaA,yo (tj [l] (λM a=>⟨zaA,a⟩) (uw (tj [.int c] (λM a=>⟨zaA,a⟩) (uw ?_))))⟩;exact tm [] rfl (V8 r (ndD l c r) (λM a=>⟨zaA,a⟩) ⟨λ_=>⟨rfl,rfl,zaA,rfl⟩,nofun⟩ ⟨_,rfl,(show 1<=1000 by decide),zbW _,(show _/\_ from⟨⟨⟨pl,zaA,pr,zaA⟩,zaA⟩,h⟩)⟩)
def Ux(X:AX K mg C):FD P w K mg base 1 "forms_of" ["size"] Bp:=by
 refine QB X 31 ["size","forms","nodes"] ?_;walk_at "b";refine⟨_,(ze (zx 1 ds.nd aR)
   (ze (wm (V4 X.T.range aR) (zj (i:=2) ds.nd rfl aG) (yj 2) (zm (wn 1 (T4 X.T.sum (za (wj (.mk ["left"] ["forms","nodes"] [1,2] (xk X.T.range aR) QG)) zb)))))
   (zm (yg aR)))),?_⟩
 obtain⟨n,rfl,l,h⟩:=hT;refine yc ⟨rfl,rfl,zaA,yo ?_⟩;refine u4 (rngD 1 n) (λM e=>⟨⟨by lia,by lia,by lia,by lia⟩,(show M (rngD 1 ((n:Int)+1-1).toNat) by rw[show((n:Int)+1-1).toNat=n by lia];exact e)⟩) (λi U=>∃a,U=[q_ (.int n),Q_ (.lst ((fm1.take (i+1)).map D.int)),a]) ⟨none,rfl⟩ ?_ ?_
 .rintro i d _ k ⟨a,rfl⟩;obtain⟨hi,rfl⟩:=uv k;refine uw (u6 (S:=(fm1.take (i+1)).map D.int) rfl (Xl (x3 (rngD 0 (i+1)) (λM e=>⟨by lia,by lia,(show M (rngD 0 (1+(i:Int)).toNat) by rw[show(1+(i:Int)).toNat=i+1 by lia];exact e)⟩) (λ_=>some (.int 1)) (by rw[kg];lia) (λd g=>?_) ?_)))
  .obtain⟨t,et⟩:=zbJ g;obtain⟨q,rfl⟩:=uv et;have c:(i=0/\t=0)\/(i=1/\t=0)\/(i=1/\t=1):=by lia
   rcases c with⟨rfl,rfl⟩|⟨rfl,rfl⟩|⟨rfl,rfl⟩ <;> exact⟨λ_=>⟨zdE aB,zaA,rfl⟩,nofun⟩
  have j:i=0\/i=1:=by lia
  rcases j with rfl|rfl <;> exact(show _/\_/\_ from⟨zaA,by decide,_,rfl⟩)
 rintro _ ⟨a,rfl⟩;rw[kg];have:n=0\/n=1\/n=2:=by lia
 rcases this with rfl|rfl|rfl <;> exact⟨zaA,h⟩
def Uy(X:AX K mg C):FD P w K mg base 2 "count_of" ["shape","size","many"] Bs:=by
 refine QB X 30 ["shape","size","many","counted","place"] ?_;walk_at "b";refine⟨_,(ze (wl aR (zm (yg (z9 2))) x8)
   (ze (zx 3 ds.nd (jl aR (y8 (Ux X) (hr.e rfl) aR) zc))
   (ze (wm (xk X.T.range aR) (zj (i:=4) ds.nd rfl aG) (yj 4) (zm (Px 3 ds.nd (z9 2))))
   (zm (yg (z9 3)))))),?_⟩
 obtain⟨s,n,rfl,k,h⟩:=hT;refine if_r (s=="num") (λM g=>⟨zaR yt,zaR yt,g⟩) (λ_=>⟨zaA,h 1 aB aB⟩) λ_=>?_
 obtain⟨b,l,q,b2⟩:∃b:Int,(s = "tree"->b=fm1.getD n 0)/\(s≠"tree"->b=1)/\0<=b/\b<=2:=by
  by_cases e:s = "tree"
  .refine⟨fm1.getD n 0,λ_=>rfl,λz=>absurd e z,?_⟩;have:n=0\/n=1\/n=2:=by lia
   rcases this with rfl|rfl|rfl <;> decide
  exact⟨1,λz=>absurd z e,λ_=>rfl,by decide,by decide⟩
 refine yc (z3i (s=="tree") (dv (.int b)) (λM g=>⟨zaR yt,zaR yt,g⟩) (λj M g=>?_) (λj M g=>?_) ⟨zaA,?_⟩)
 .rw[l (zfY j)]at g;exact⟨rfl,n,rfl,k,g⟩
 .rw[q (by simpa using j)]at g
  exact g
 refine yo (u4 (rngD 0 n) (λM g=>⟨by lia,by lia,g⟩) (λi U=>∃a,U=[q_ (.str s),q_ (.int n),q_ (.int 1),q_ (.int b),a]) ⟨none,rfl⟩ ?_ ?_)
 .rintro i d _ r ⟨a,rfl⟩;exact uw ⟨z4m (Rq aD) (Rq aD),_,(show[q_ (.str s),q_ (.int n),q_ (.int 1),q_ (.int (b*1)),_]=_ by rw[Int.mul_one])⟩
 rintro _ ⟨a,rfl⟩;exact⟨zaA,h b b2.1 b2.2⟩
noncomputable def tl(c:Int):Nat->List D
 |0=>[.non]
 |1=>[ndD .non c .non]
 |_=>[ndD .non c (ndD .non c .non),ndD (ndD .non c .non) c .non]
theorem Tr.pln:∀t:Tr,plnD t.d
 |.lf=>trivial
 |.nd l _ r=>⟨l.pln,zaA,r.pln,zaA⟩
theorem tu:∀{S:List D},(∀d∈S,plnD d)->plnD.plnDs S
 |[],_=>trivial
 |d::S,h=>⟨h d zao,tu λe a=>h e (zal _ a)⟩
def B7(c:Int):∀k,k<=2->∀d∈tl c k,∃t:Tr,d=t.d/\t.nodes=k
 |0,_,d,h=>⟨.lf,zaC.mp h,rfl⟩
 |1,_,d,h=>⟨.nd .lf c .lf,zaC.mp h,rfl⟩
 |2,_,d,h=>by
  rcases zam.mp h with rfl|h
  .exact⟨.nd .lf c (.nd .lf c .lf),rfl,rfl⟩
  cases zaC.mp h
  exact⟨.nd (.nd .lf c .lf) c .lf,rfl,rfl⟩
def Hr(c:Int){k:Nat}(h:k<=2):plnD (.lst (tl c k)):=tu λd a=>by obtain⟨t,e,_⟩:=B7 c k h d a;exact e▸t.pln
def qx{i:Nat}{t:TDS}{U ρ':DE}{Z:DZ}(e:frzS U i=ρ')(h:t ρ' Z):sFrz i t U Z:=by
 subst e;exact h
def Hs:FT:=λS Y=>∃(n:Nat)(c:Int),S=[.int n,.lst [.int c]]/\n<=2/\Y (dv (.lst (tl c n)))
def Uq(X:AX K mg C):FO P w K mg base 2 "trees_of" ["size","numbers"] Hs:=by
 obtain⟨f,fd,F,m⟩:=X.f "trees_of" 34 aB
 have ds:zn ["size","numbers","trees","nodes","here","left"] ["size","numbers"] (zd (top 34)):=by walk_at "f"
 refine Ny F ds (F.binds (by walk_at "3")) m λqZ A outer s H xs S Y hr hl hT=>?_
 have hu:=hr.units;refine⟨_,(ze (zx 2 ds.nd aR)
   (ze (wm (V4 X.T.range aR) (zj (i:=3) ds.nd rfl aG) (yj 3) (ze (zx 4 ds.nd aR)
    (ze (wm (xk X.T.range aR) (zj (i:=5) ds.nd rfl aG) (yj 5) (zm (Yj 4 (y8 (X9 X) (hr.e rfl) aR))))
    (zm (xy 4 (wn 2 (z9 4)))))))
   (zm (yg aR)))),?_⟩
 obtain⟨n,c,rfl,d,h⟩:=hT;refine yc ⟨rfl,rfl,rfl,rfl,zaA,yo (tj (rngD 1 n) (λM a=>⟨⟨by lia,by lia,by lia,by lia⟩,(show M (rngD 1 ((n:Int)+1-1).toNat) by rw[show((n:Int)+1-1).toNat=n by lia];exact a)⟩) ?_)⟩
 match n,d with
 |0,_=>exact h
 |1,_ =>
  refine uw (yc ⟨rfl,rfl,zaA,yo (tj (rngD 0 1) (λM a=>⟨by decide,by decide,a⟩) (uw (tm [] rfl ⟨rfl,.non,.non,c,rfl,zaA,zaA,_,rfl,zaD rfl,zaD rfl,?_⟩)))⟩)
  dsimp only [runF,List.map]
  refine qx rfl ?_;exact u6 (S:=[.lst (tl c 0)]) rfl ⟨zaA,zaD rfl,h⟩
 |2,_ =>
  refine uw (yc ⟨rfl,rfl,zaA,yo (tj (rngD 0 1) (λM a=>⟨by decide,by decide,a⟩) (uw (tm [] rfl ⟨rfl,.non,.non,c,rfl,zaA,zaA,_,rfl,zaD rfl,zaD rfl,?_⟩)))⟩)
  dsimp only [runF,List.map]
  refine qx rfl ?_;refine u6 (S:=[.lst (tl c 0)]) rfl ⟨zaA,zaD rfl,?_⟩
  dsimp only
  refine uw (wc (ρ':=[q_ (.int 2),q_ (.lst [.int c]),Q_ (.lst [.lst (tl c 0),.lst (tl c 1)]),q_ (.int 2),q_ (.lst (tl c 1)),q_ (.int 0)]) rfl ?_);refine(yc ⟨rfl,rfl,zaA,yo (tj (rngD 0 2) (λM a=>⟨by decide,by decide,a⟩) (uw (tm [] rfl ⟨rfl,.non,ndD .non c .non,c,rfl,zaA,⟨zaA,zaA,zaA,zaA⟩,_,rfl,zaD rfl,zaD rfl,?_⟩)))⟩)
  dsimp only [runF,List.map]
  refine uw ?_;refine tm [ndD .non c (ndD .non c .non)] rfl ⟨rfl,ndD .non c .non,.non,c,rfl,⟨zaA,zaA,zaA,zaA⟩,zaA,_,rfl,zaD rfl,zaD rfl,?_⟩
  dsimp only [runF,List.map]
  refine qx rfl ?_;exact u6 (S:=[.lst (tl c 0),.lst (tl c 1)]) rfl ⟨zaA,zaD rfl,h⟩
noncomputable def rwD(l:List Int):D:=.tup (l.map D.int)
noncomputable def vlF(c:Int)(p:Str×Nat):List D:=if p.1 = "num" then[.int c] else if p.1 = "tree" then tl c p.2 else[rwD (List.replicate p.2 c)]
def ShOk(p:Str×Nat):Prop:=(p.1 = "num"\/p.1 = "list"\/p.1 = "tree")/\p.2<=2
def Ob(l:List Int):y7 (l.map D.int):=yi.mpr λd a=>by
 obtain⟨i,_,rfl⟩:=zah.mp a;exact zaA
def Ba:FT:=λS Y=>∃(s:Str)(n:Nat)(c:Int),S=[.str s,.int n,.lst [.int c]]/\ShOk (s,n)/\∀k,Y ⟨k,.lst (vlF c (s,n))⟩
def Wt(X:AX K mg C)(g:FW P w K mg base 2 "trees_of" ["size","numbers"] [] Hs):FO P w K mg base 3 "values_of" ["shape","size","numbers"] Ba:=by
 obtain⟨f,fd,F,m⟩:=X.f "values_of" 33 aB
 have ds:zn ["shape","size","numbers","lists","place","longer","number"] ["shape","size","numbers"] (zd (top 33)):=by walk_at "f"
 refine Ny F ds (F.binds (by walk_at "3")) m λqZ A outer s H xs S Y hr hl hT=>?_
 have hu:=hr.units;refine⟨_,(ze (wl aR (zm (yg (z9 2))) x8)
   (ze (wl aR (zm (yg (qk g (hr.e rfl) aR))) x8)
   (ze (zx 3 ds.nd aR)
   (ze (xy 3 (wm (xk X.T.range aR) (zj (i:=4) ds.nd rfl aG) (yj 4) (ze (zx 5 ds.nd aR)
    (ze (wm (xc (z9 2)) (zj (i:=6) ds.nd rfl aG) (yj 6) (zm (Yj 5 (wj (.mk ["ahead"] ["number"] [6] (xc (z9 3)) (λcl C fp s H=>(Mg aR (z9 0))))))))
    (zm (xy 5 (zx 3 ds.nd (z9 5))))))))
   (zm (yg (z9 3))))))),?_⟩
 obtain⟨s,n,c,rfl,⟨l,k⟩,h⟩:=hT
 dsimp only at l k
 rcases l with rfl|rfl|rfl
 .exact cs ⟨λ_=>h _,nofun⟩
 .refine cs ⟨nofun,λ_=>cs ⟨nofun,λ_=>ju ?_⟩⟩
  dsimp only
  refine yc ⟨rfl,rfl,rfl,rfl,zaA,?_⟩;refine yo (qx (ρ':=[q_ (.str "list"),q_ (.int n),q_ (.lst [.int c]),q_ (.lst [rwD (List.replicate 0 c)]),none,none,none]) rfl ?_);refine u4 (rngD 0 n) (λM j=>⟨by lia,by lia,j⟩) (λi U=>∃a b e,U=[q_ (.str "list"),q_ (.int n),q_ (.lst [.int c]),q_ (.lst [rwD (List.replicate i c)]),a,b,e]) ⟨none,none,none,rfl⟩ ?_ ?_
  .rintro i d _ q ⟨a,b,e,rfl⟩;obtain⟨hi,rfl⟩:=uv q;refine uw (yc ⟨rfl,rfl,zaA,yo (tj [.int c] (λM j=>⟨zaA,j⟩) (uw (tm [] rfl (V8 (rwD (List.replicate i c)) (rwD (List.replicate (i+1) c)) (λM j=>⟨zaA,j⟩) ⟨λ_=>⟨rfl,rfl,⟨zaA,zaA⟩,Ob _,?_,zaA,rfl⟩,nofun⟩ ⟨_,rfl,zaD rfl,zaD rfl,?_⟩))))⟩)
   .rw[zLm D.int,zcB,zbC];show 1+i<=_;lia
   dsimp only [runF]
   exact qx rfl ⟨zaA,_,_,_,rfl⟩
  rintro _ ⟨a,b,e,rfl⟩;rw[kg];exact h _
 exact cs ⟨nofun,λ_=>cs ⟨λ_=>⟨⟨zaA,zaA,zaA⟩,rfl,n,c,rfl,k,Hr c k,h _⟩,nofun⟩⟩
noncomputable def inS(c:Int)(inp:List (List D))(p:Str×Nat):List (List D):=(vlF c p).flatMap λv=>inp.map (·++[v])
noncomputable def ins(c:Int)(a:List (Str×Nat)):List (List D):=a.foldl (inS c) [[]]
noncomputable def insD(c:Int)(a:List (Str×Nat)):D:=.lst ((ins c a).map D.lst)
def fk(c:Int)(a:List (Str×Nat))(p:Str×Nat):ins c (a++[p])=inS c (ins c a) p:=by
 unfold ins;rw[List.foldl_append];rfl
def Hn(c:Int){p:Str×Nat}(h:p.2<=2):1<=(vlF c p).length/\(vlF c p).length<=2:=by
 unfold vlF;split
 .exact⟨zaj _,zaD rfl⟩
 split
 .have:p.2=0\/p.2=1\/p.2=2:=by lia
  rcases this with e|e|e <;> rw[e] <;> exact⟨zaD rfl,zaD rfl⟩
 exact⟨zaj _,zaD rfl⟩
def Pc{c:Int}{p:Str×Nat}(h:ShOk p):plnD (.lst (vlF c p)):=by
 unfold vlF;split
 .exact⟨zaA,zaA⟩
 split
 .exact Hr c h.2
 exact⟨tu (S:=(List.replicate p.2 c).map D.int) λd a=>by
  obtain⟨i,_,rfl⟩:=zah.mp a;exact zaA,zaA⟩
def C1{c:Int}{inp:List (List D)}{p:Str×Nat}(h:p.2<=2):inp.length<=(inS c inp p).length/\(inS c inp p).length<=2*inp.length:=by
 have l:=Hn c h;have e:(inS c inp p).length=(vlF c p).length*inp.length:=by
  unfold inS;rw[List.length_flatMap];simp only[zLm,List.map_const',List.sum_replicate_nat]
 rw[e];exact⟨by simpa using zeM inp.length l.1,zeM _ l.2⟩
theorem Ul{c:Int}(a:List (Str×Nat))(h:∀ p∈a,ShOk p):∀i,i<=a.length->1<=(ins c (a.take i)).length/\(ins c (a.take i)).length<=2 ^ i
 |0,_=>⟨zaj _,zaj _⟩
 |i+1,hi=>by
  have d:=Ul (c:=c) a h i aD
  have e:a[i]?=some a[i]:=zaf hi;rw[zbL,e];show 1<=(ins c (a.take i++[a[i]])).length/\_;have:=C1 (c:=c) (inp:=ins c (a.take i)) (h a[i] (zdM hi)).2;rw[show(ins c (a.take i++(some a[i]).toList))=inS c (ins c (a.take i)) a[i] from fk ..,fk,Nat.pow_succ];lia
def Lb{α:Type}(f g:α->D)(l:List α):zipD (l.map f) (l.map g)=l.map λp=>.tup [f p,g p]:=by
 unfold zipD;rw[List.zipWith_map,List.zipWith_self]
def X1{c:Int}{d:List (Str×Nat)}{a:List D}:a∈ins c d->a.length=d.length/\∀(i:Nat) p v,d[i]?=some p->a[i]?=some v->v∈vlF c p:=by
 suffices H:∀(rs d:List (Str×Nat))(inp:List (List D)),(∀a∈inp,a.length=d.length/\∀(i:Nat) p v,d[i]?=some p->a[i]?=some v->v∈vlF c p)->∀a∈rs.foldl (inS c) inp,a.length=(d++rs).length/\∀(i:Nat) p v,(d++rs)[i]?=some p->a[i]?=some v->v∈vlF c p by
  intro h;exact H d [] [[]] (λa g=>by cases zaC.mp g;exact⟨rfl,λi p v e=>by simp at e⟩) a h
 intro rs
 induction rs with
 |nil=>intro d inp h a g;rw[zbT];exact h a g
 |cons p rs ih =>
  intro d inp h a g;rw[show d++p::rs=(d++[p])++rs by simp]
  refine ih (d++[p]) (inS c inp p) (λb j=>?_) a g;obtain⟨v,x,j⟩:=List.mem_flatMap.mp j;obtain⟨b,y,rfl⟩:=zah.mp j;obtain⟨l,q⟩:=h b y;refine⟨by simp[l],λi u r e1 e2=>?_⟩
  by_cases hi:i<d.length
  .rw[zaG hi]at e1;rw[zaG aD]at e2
   exact q i u r e1 e2
  rw[zaF aD]at e1 e2
  rw[l]at e2;generalize i-d.length=k at e1 e2;cases k with
  |zero =>
   simp at e1 e2;subst e1 e2;exact x
  |succ k=>simp at e1
noncomputable def shD(a:List (Str×Nat)):D:=.lst (a.map λp=>.str p.1)
noncomputable def siD(a:List (Str×Nat)):D:=.lst (a.map λp=>.int p.2)
def P7{M:List D->Prop}{a:List (Str×Nat)}(h:M (a.map λp=>.tup [.str p.1,.int p.2])):M (zipD (a.map λp=>.str p.1) (a.map λp=>.int p.2)):=by
 rw[Lb];exact h
def Nj(c:Int)(a:List (Str×Nat))(p:Str×Nat):insD c (a++(some p).toList)=.lst ((inS c (ins c a) p).map D.lst):=zbO (λl:List (List D)=>D.lst (l.map D.lst)) (fk ..)
def tInp:FT:=λS Y=>∃(shs:List (Str×Nat))(c:Int),S=[shD shs,siD shs,.lst [.int c]]/\(∀p∈shs,ShOk p)/\shs.length<=3/\Y (dv (insD c shs))
def Wv(X:AX K mg C)(q:FW P w K mg base 3 "values_of" ["shape","size","numbers"] [] Ba):FO P w K mg base 4 "inputs_of" pB tInp:=by
 obtain⟨f,fd,F,m⟩:=X.f "inputs_of" 32 aB
 have ds:zn ["shapes","sizes","numbers","inputs","shape","size","longer","value"] pB (zd (top 32)):=by walk_at "f"
 refine Ny F ds (F.binds (by walk_at "3")) m λqZ A outer s H xs S Y hr hl hT=>?_
 have hu:=hr.units;refine⟨_,(ze (zx 3 ds.nd aR)
   (ze (xy 3 (wm (Me X.T.zip aR) (ve (K0:=K) (n:=2) (by rfl) (by rfl) (yd (zj (i:=4) ds.nd rfl aG) (yd (zj (i:=5) ds.nd rfl aG) wt))) (vg 4 5) (ze (zx 6 ds.nd aR)
    (ze (wm (xc (qk q (hr.e rfl) (za (z9 4) (za (z9 5) (za (Qy X.T.sorted X.T.set (z9 2)) zb))))) (zj (i:=7) ds.nd rfl aG) (yj 7) (zm (Yj 6 (wj (.mk ["args"] ["value"] [7] (xc (z9 3)) QG)))))
    (zm (xy 6 (zx 3 ds.nd (z9 6))))))))
   (zm (yg (z9 3))))),?_⟩
 obtain⟨j,c,rfl,ok,J,h⟩:=hT;refine yc ⟨rfl,rfl,rfl,rfl,zaA,?_⟩;refine yo (qx (ρ':=[q_ (shD j),q_ (siD j),q_ (.lst [.int c]),q_ (insD c (j.take 0)),none,none,none,none]) rfl ?_);refine u4 (j.map λp=>.tup [.str p.1,.int p.2]) (λM u=>⟨zaA,zaA,P7 u⟩) (λi U=>∃a b e f,U=[q_ (shD j),q_ (siD j),q_ (.lst [.int c]),q_ (insD c (j.take i)),a,b,e,f]) ⟨none,none,none,none,rfl⟩ ?_ ?_
 .rintro i d U x ⟨a,b,e,f,rfl⟩;rw[zai]at x;obtain⟨p,ep,rfl⟩:=zar.mp x;have hi:=(zag.mp ep).1;have y:=ok p (zan ep);have L:=(Ul (c:=c) j ok i aD).2
  have N:2 ^ i<=2 ^ 3:=Nat.pow_le_pow_right aB aD
  have I:=(Hn c y.2).2;refine yc ⟨rfl,rfl,zaA,?_⟩;refine wc (ρ':=[q_ (shD j),q_ (siD j),q_ (.lst [.int c]),q_ (insD c (j.take i)),q_ (.str p.1),q_ (.int p.2),Q_ (.lst ((((vlF c p).take 0).flatMap λv=>(ins c (j.take i)).map (·++[v])).map D.lst)),f]) (by rfl) (yo ?_)
  refine⟨c,rfl,?_⟩;have pl:=Pc (c:=c) y;refine⟨⟨zaA,zaA,zaA,zaA⟩,rfl,p.1,p.2,c,rfl,y,λk=>⟨pl,zaA,λm U=>∃g,U=[q_ (shD j),q_ (siD j),q_ (.lst [.int c]),q_ (insD c (j.take i)),q_ (.str p.1),q_ (.int p.2),Q_ (.lst ((((vlF c p).take m).flatMap λv=>(ins c (j.take i)).map (·++[v])).map D.lst)),g],⟨f,rfl⟩,?_,?_⟩⟩
  .rintro m d _ x ⟨g,rfl⟩;refine uw (tm _ rfl ?_);have G:=(zag.mp x).1;refine x3 ((ins c (j.take i)).map D.lst) (λM u=>⟨zaA,u⟩) (λr=>match r with|.lst l=>some (.lst (l++[d]))|_=>none) (by rw[zLm];lia) (λr hr=>?_) ⟨((ins c (j.take i)).map (·++[d])).map D.lst,?_,by rw[zLm,zLm];lia,?_,q_ d,?_⟩
   .obtain⟨l,z,rfl⟩:=zah.mp hr;have B:=(X1 z).1;rw[zaX]at B;exact⟨λ_=>⟨rfl,rfl,by show l.length+1<=_;rw[zbC];lia,zaA,rfl⟩,nofun⟩
   .rw[zbX,zaV,<- zcZ];rfl
   .rw[zLm];refine zak (cz (n:=8) _ λn _=>by rw[zLm];lia) ?_
    rw[zaX];lia
   rw[zbL,x,List.flatMap_append,zMa,Option.toList_some,List.flatMap_singleton];rfl
  rintro _ ⟨g,rfl⟩;rw[zbU]
  dsimp only
  refine qx (ρ':=[q_ (shD j),q_ (siD j),q_ (.lst [.int c]),q_ (insD c (j.take i)),q_ (.str p.1),q_ (.int p.2),q_ (.lst ((inS c (ins c (j.take i)) p).map D.lst)),g]) rfl ⟨zaA,q_ (.str p.1),q_ (.int p.2),q_ (.lst ((inS c (ins c (j.take i)) p).map D.lst)),g,?_⟩;rw[zbL,ep];show _=[q_ (shD j),q_ (siD j),q_ (.lst [.int c]),q_ (insD c (j.take i++(some p).toList)),q_ (.str p.1),q_ (.int p.2),q_ (.lst ((inS c (ins c (j.take i)) p).map D.lst)),g];rw[Nj];rfl
 rintro _ ⟨a,b,e,f,rfl⟩;rw[zLm,zbU];exact h
noncomputable def words:List Str:=["call","make","sum","let","less","open","hold"]
structure Con2(K:W.Frag)(mg:Str->Option Value):Prop where
 c_WORDS:GC K mg "WORDS" (.cn (.tup (words.map Cst.str)))
 c_MOST_INPUTS:GC K mg "MOST_INPUTS" (.int 243)
def TabP(pr:Str->Int)(d:D):Prop:=∃ks S,d=.dk ks S/\ks.length=7/\∀w∈words,Sum.inr w∈ks/\ue ks S (Sum.inr w)=some (.int (pr w))
def L6(pr:Str->Int):Prop:=∀w∈words,0<=pr w
def Bg:FT:=λS Y=>∃n:Int,S=[.int n]/\0<=n/\Y (dv (.bl true))
def tChT:FT:=λS Y=>∃pr d,S=[d]/\TabP pr d/\L6 pr/\Y (dv .non)
def Zs{ks:List Key}{S:List D}{k:Key}{d:D}{Y:D->Prop}(e:ue ks S k=some d)(h:Y d):match ue ks S k with|some d=>Y d|none=>False:=by
 rw[e];exact h
def tShp:FT:=λS Y=>∃fns:List (Str×D),∃nm n0 ps sz b,S=[.tup (fns.map Prod.snd),.str nm]/\fns.length<=100/\(∀p∈fns,∃r,p.2=.tup (.str p.1::r))/\rowG fns nm=some (.tup [n0,pmD ps,sz,b])/\zw (.tup [n0,pmD ps,sz,b])/\ps.length<=100/\Y (df (.lst (ps.map Prod.snd)))
def tChI:FT:=λS Y=>∃(shs:List (Str×Nat))(c:Int),S=[shD shs,siD shs,.lst [.int c]]/\(∀p∈shs,ShOk p)/\shs.length<=3/\Y (dv .non)
def Uw(X:AX K mg C):FD P w K mg base 2 "is_price" ["thing"] Bg:=by
 refine QB X 22 ["thing"] ?_;walk_at "b";refine⟨_,(zm (yg (Rl (y8 (sf X) (hr.e rfl) aR) (V6 (z5j (z9 0) zc))))),?_⟩;obtain⟨n,rfl,h0,h⟩:=hT;have e:decide (n ≥ 0)=true:=zdQ h0;exact⟨rfl,n,rfl,λ_=>⟨zaA,by rw[<- e]at h;exact h⟩,nofun⟩
def qq(X:AX K mg C)(Z:Con2 K mg):FD P w K mg base 3 "check_table" ["table"] tChT:=by
 refine QB X 23 ["table"] ?_;walk_at "b";refine⟨_,(ze (wl (EW.et (Z7 (V0 hu (Cm X.T.len aR) (Co X.T.len (za (gc Z.c_WORDS) zb))) (b9 (ba (si (Xi X.T.all (za (wj (.mk ["word"] ["table"] [0] (z2r (gc Z.c_WORDS)) (λcl C fp s H=>(z5i hu (z9 0) (z9 1))))) zb))))))) (zm qe) x8)
   (zm (wl (ba (si (Xi X.T.all (za (wj (.mk ["word"] ["table"] [0] (z2r (gc Z.c_WORDS)) (λcl C fp s H=>(y8 (Uw X) (hr.e rfl) aR)))) zb)))) (zm qe) x8))),?_⟩
 obtain⟨pr,_,rfl,⟨ks,S,rfl,l,k⟩,ok,h⟩:=hT;have hl:(words.map D.str).length<=100000:=by decide
 refine⟨zaA,zaA,λz=>absurd z (by show ¬ (!eqD (.int (ks.length:Int)) (.int 7))=true;rw[l];decide),λ_=>?_⟩
 dsimp only [bNot,tTru,dCB,u9]
 refine x3 (words.map D.str) aA (λ_=>some (.bl true)) hl (λd j=>?_) ⟨nofun,λ_=>?_⟩
 .obtain⟨w,g,rfl⟩:=zah.mp j;have q:=(k w g).1;refine⟨λ_=>⟨zaA,?_⟩,nofun⟩;show some (D.bl true)=some (D.bl (decide _));rw[zdQ q]
 refine ju ?_
 dsimp only [sIf,bNot,tTru,dCB,u9]
 refine x3 (words.map D.str) aA (λ_=>some (.bl true)) hl (λd j=>?_) ⟨nofun,λ_=>h⟩;obtain⟨w,g,rfl⟩:=zah.mp j;exact⟨λ_=>Zs (k w g).2 ⟨rfl,_,rfl,ok w g,zaA,rfl⟩,nofun⟩
def Wu(X:AX K mg C):FO P w K mg base 2 "shapes_of" pC tShp:=by
 obtain⟨f,fd,F,m⟩:=X.f "shapes_of" 28 aB
 have ds:zn ["program","name"] pC (zd (top 28)):=by walk_at "f"
 refine Ny F ds (F.binds (by walk_at "3")) m λqZ A outer s H xs S Y hr hl hT=>?_
 have hu:=hr.units;refine⟨_,(zm (yg (wj (.mk ["param","shape"] [] [] (xc (zg hu (y8 (qp X) (hr.e rfl) aR) zc)) (λcl C fp s H=>(z9 1)))))),?_⟩
 obtain⟨fns,k,u,ps,sz,b,rfl,l1,l,q,j,l2,h⟩:=hT;refine x3 (ps.map λp=>.tup [.str p.1,p.2]) (λM g=>?_) (λd=>match d with|.tup [_,a]=>some a|_=>none) (by rw[zLm];lia) (λd r=>?_) ?_
 .exact⟨rfl,fns,k,_,rfl,l1,l,q,j,zaA,g⟩
 .obtain⟨y,v,rfl⟩:=zah.mp r;exact⟨λ_=>⟨zaA,rfl⟩,nofun⟩
 rw[zbX,show((λd=>match d with|.tup [_,a]=>some a|_=>none) ∘ λp:Str×D=>D.tup [.str p.1,p.2])=λp=>some p.2 from rfl,rh]
 exact h
def b8(X:AX K mg C)(Z:Con2 K mg):FD P w K mg base 3 "check_inputs" pB tChI:=by
 refine QB X 29 ["shapes","sizes","numbers","many","shape","size"] ?_;walk_at "b";refine⟨_,(ze (zx 3 ds.nd zc)
   (ze (wm (Me X.T.zip aR) (ve (K0:=K) (n:=2) (by rfl) (by rfl) (yd (zj (i:=4) ds.nd rfl aG) (yd (zj (i:=5) ds.nd rfl aG) wt))) (vg 4 5) (zm (Px 3 ds.nd (y8 (Uy X) (hr.e rfl) (za (z9 4) (za (z9 5) (za (Qz X.T.len X.T.set (z9 2)) zb)))))))
   (zm (wl (Uz (z9 3) (gc Z.c_MOST_INPUTS)) (zm qe) x8)))),?_⟩
 obtain⟨g,c,rfl,ok,y,h⟩:=hT;refine yc ⟨zaA,yo ?_⟩;refine u4 (g.map λp=>.tup [.str p.1,.int p.2]) (λM j=>⟨zaA,zaA,P7 j⟩) (λi U=>∃k:Int,0<=k/\k<=((2 ^ i:Nat):Int)/\∃a b,U=[q_ (shD g),q_ (siD g),q_ (.lst [.int c]),q_ (.int k),a,b]) ⟨1,by decide,by decide,none,none,rfl⟩ ?_ ?_
 .rintro i d U u ⟨k,r,l,a,b,rfl⟩;rw[zai]at u;obtain⟨p,ep,rfl⟩:=zar.mp u;have hi:=(zag.mp ep).1;have x:=ok p (zan ep);refine⟨c,rfl,rfl,p.1,p.2,rfl,x.2,λq v G=>?_⟩;have B:2 ^ i<=2 ^ 3:=Nat.pow_le_pow_right aB aD
  refine⟨zdE (intBits_le_64 aD aD),k*q,Int.mul_nonneg r v,?_,q_ (.str p.1),q_ (.int p.2),rfl⟩
  rw[Nat.pow_succ,Int.natCast_mul];exact Int.mul_le_mul l G v (Int.natCast_nonneg _)
 rintro _ ⟨k,r,l,a,b,rfl⟩;have B:2 ^ (g.map λp:Str×Nat=>D.tup [.str p.1,.int p.2]).length<=2 ^ 3:=Nat.pow_le_pow_right aB (by rw[zLm];exact y)
 exact⟨λz=>absurd (zbQ z) aD,λ_=>h⟩
noncomputable def tot(pr:Str->Int)(ks:List Str):Int:=(ks.map pr).sum
noncomputable def sts(a:List (Nat×Str)):List D:=a.map λp=>stp p.1 p.2
def Fq(a:List (Nat×Str)):(sts a).length=a.length:=zLm ..
def tPrO:FT:=λS Y=>∃(ss:List (Nat×Str))(pr:Str->Int)(d:D),S=[.lst (sts ss),d]/\TabP pr d/\ss.length<=10000/\(∀p∈ss,p.2∈words)/\L6 pr/\Y (dv (.int (tot pr (ss.map Prod.snd))))
def Runs(C:Addr)(fns:List (Str×D))(d:Str)(most:Int)(as:List (List D))(sq:List D->List (Nat×Str)):Prop:=∀a∈as,(sq a).length<=1000/\(∀p∈sq a,p.2∈words) /\
 ∀Y:EV->Prop,(∀v w cl,Y ⟨.new,.tup [v,w,cl,.lst (sts (sq a))]⟩)->gi C RT FzT [.tup (fns.map Prod.snd),.str d,.lst a,.int most] Y
theorem Of:∀{S:List D},plnD.plnDs S->∀d∈S,plnD d
 |d::S,h,e,he=>(zam.mp he).elim (λz=>z▸h.1) (Of h.2 e)
def Vy{te:TD}{u:TDS}{U:DE}{Z:DZ}(h:te U λ_=>u U Z):sSeq (E7 te) u U Z:=h
noncomputable def pc(pr:Str->Int)(sq:List D->List (Nat×Str))(a:List D):Int:=tot pr ((sq a).map Prod.snd)
def Fo(C:Addr):FT:=λS Y=>∃(fns:List (Str×D))(nm:Str)(n0:D)(ps:List (Str×D))(sz b:D)(shs:List (Str×Nat))(c most:Int)(pr:Str->Int)(d:D)(sq:List D->List (Nat×Str)),S=[.tup (fns.map Prod.snd),d,.str nm,siD shs,.lst [.int c],.int most]/\TabP pr d/\L6 pr /\
 fns.length<=100/\(∀p∈fns,∃r,p.2=.tup (.str p.1::r))/\rowG fns nm=some (.tup [n0,pmD ps,sz,b])/\zw (.tup [n0,pmD ps,sz,b])/\ps.map Prod.snd=shs.map (λp=>.str p.1)/\(∀p∈shs,ShOk p)/\shs.length<=3/\Runs C fns nm most (ins c shs) sq /\
 ∀a∈ins c shs,(∀u∈ins c shs,pc pr sq u<=pc pr sq a)->Y (dv (.tup [.int (pc pr sq a),.lst a]))
def Cz{c:Int}{p:Str×Nat}(h:ShOk p):∀v∈vlF c p,plnD v:=Of (Pc h)
def Ni{c:Int}{g:List (Str×Nat)}(ok:∀ p∈g,ShOk p){a:List D}(h:a∈ins c g):plnD (.lst a):=tu λd j=>by
 obtain⟨i,e⟩:=zbJ j;obtain⟨l,q⟩:=X1 h;have hi:=(zag.mp e).1;have e2:g[i]?=some (g[i]'(l▸hi)):=zaf _;exact Cz (ok _ (zan e2)) d (q i _ d e2 e)
def Je{c:Int}{e:List (Str×Nat)}(ok:∀ p∈e,ShOk p):plnD (insD c e):=tu (S:=(ins c e).map D.lst) λd g=>by
 obtain⟨a,j,rfl⟩:=zah.mp g;exact Ni ok j
def Us(X:AX K mg C)(u:Con2 K mg):FD P w K mg base 4 "price_of" ["steps","table"] tPrO:=by
 refine QB X 24 ["steps","table"] ?_;walk_at "b";refine⟨_,(ze (Yk (y8 (qq X u) (hr.e rfl) aR))
   (zm (yg (T4 X.T.sum (za (wj (.mk ["number","kind"] ["table"] [1] (xc (z9 0)) QG)) zb))))),?_⟩
 obtain⟨a,pr,d,rfl,j,l1,q,ok,h⟩:=hT;refine Vy ⟨rfl,pr,d,rfl,j,ok,?_⟩;obtain⟨ks,S,rfl,v,k⟩:=j;refine E5 (Xl (x3 (sts a) (λM g=>⟨zaA,g⟩) (λd=>match d with|.tup [_,.str w]=>some (.int (pr w))|_=>none) (by rw[Fq];lia) (λd r=>?_) ?_))
 .obtain⟨p,l,rfl⟩:=zah.mp r;exact⟨λ_=>Zs (k _ (q p l)).2 ⟨zaA,rfl⟩,nofun⟩
 have e:(sts a).filterMap (λd=>match d with|.tup [_,.str w]=>some (D.int (pr w))|_=>none)=((a.map Prod.snd).map pr).map D.int:=by
  unfold sts;rw[zbX,zaV,zaV];exact rh (λp:Nat×Str=>D.int (pr p.2)) a
 show match Z1 ((sts a).filterMap _) with|some ns=>_|none=>False
 rw[e,jb];exact⟨zaA,h⟩
def Qr{Q:Value}(X:AX K mg C)(L:Con2 K mg)(j:FW P w K mg base 2 "shapes_of" pC [] tShp)(k:FW P w K mg base 4 "inputs_of" pB [] tInp)(G:FD P w K mg base 10 "trace" pE (gi C RT FzT))(F:FunV K "dearest" "dearest" (top 27) f Q fd):FnOk P w K mg base CX0 11 f fd ["program","table","name","sizes","numbers","most"] (spO K 6 (Fo C)):=by
 have ds:zn ["program","table","name","sizes","numbers","most","shapes","found","args","price"] ["program","table","name","sizes","numbers","most"] (zd (top 27)):=by walk_at "f"
 refine z2g F ds λqZ A outer s H xs S Y hr hl hT=>?_;have hu:=hr.units;refine⟨_,(ze (Yk (y8 (qq X L) (hr.e rfl) aR))
   (ze (zx 6 ds.nd (qk j (hr.e rfl) aR))
   (ze (Yk (y8 (b8 X L) (hr.e rfl) aR))
   (ze (zx 7 ds.nd ug)
   (ze (wm (xc (qk k (hr.e rfl) aR)) (zj (i:=8) ds.nd rfl aG) (yj 8) (ze (zx 9 ds.nd (y8 (Us X L) (hr.e rfl) (za (zg hu (y8 G (hr.e rfl) aR) zc) aR)))
    (zm (wl (EW.et (Z7 (Cg (z9 7) ug) aR)) (zm (zx 7 ds.nd aR)) x8))))
   (zm (yg (z9 7)))))))),?_⟩
 obtain⟨fns,I,Z,ps,sz,b,g,c,most,pr,d,sq,rfl,M,ok,l1,hn,hf,W,es,l,N,R,h⟩:=hT;have lp:ps.length=g.length:=by simpa using zbO List.length es
 refine Vy ⟨rfl,pr,d,rfl,M,ok,?_⟩;refine yc ⟨⟨zaA,zaA,zaA⟩,rfl,fns,I,Z,ps,sz,b,rfl,l1,hn,hf,W,by lia,?_⟩
 rw[es];refine⟨?_,zaA,?_⟩
 .exact tu (S:=g.map λp=>.str p.1) λd B=>by
   obtain⟨p,_,rfl⟩:=zah.mp B;exact zaA
 refine wc (ρ':=[q_ (.tup (fns.map Prod.snd)),q_ d,q_ (.str I),q_ (siD g),q_ (.lst [.int c]),q_ (.int most),q_ (shD g),none,none,none]) (by rfl) (Vy ⟨rfl,g,c,rfl,l,N,?_⟩)
 refine yc ⟨zaA,yo ?_⟩;refine⟨⟨zaA,zaA,zaA,zaA⟩,rfl,g,c,rfl,l,N,Je l,zaA,λi U=>∃y a J,U=[q_ (.tup (fns.map Prod.snd)),q_ d,q_ (.str I),q_ (siD g),q_ (.lst [.int c]),q_ (.int most),q_ (shD g),q_ y,a,J]/\((i=0/\y=.non)\/∃v∈ins c g,y=.tup [.int (pc pr sq v),.lst v]/\∀u∈(ins c g).take i,pc pr sq u<=pc pr sq v),⟨.non,none,none,rfl,.inl ⟨rfl,rfl⟩⟩,?_,?_⟩
 .rintro i d' _ B ⟨y,a,J,rfl,r⟩;rw[zai]at B;obtain⟨v,O,rfl⟩:=zar.mp B;have x:=zan O;obtain⟨r1,r2,V⟩:=R v x;have tk:∀w:List D,(∀u∈(ins c g).take i,pc pr sq u<=pc pr sq w)->pc pr sq v<=pc pr sq w->∀u∈(ins c g).take (i+1),pc pr sq u<=pc pr sq w:=λw h1 h2 u hu=>by
   rw[zbL,O]at hu;rcases zas.mp hu with hu|hu
   .exact h1 u hu
   cases zaC.mp hu
   exact h2
  refine uw (yc ⟨rfl,V _ λbb ww cl=>⟨rfl,sq v,pr,d,rfl,M,by lia,r2,ok,zaA,?_⟩⟩)
  rcases r with⟨rfl,rfl⟩|⟨u,mu,rfl,hu⟩
  .exact⟨λ_=>⟨λ_=>⟨rfl,rfl,zaA,_,_,_,rfl,.inr ⟨v,x,rfl,tk v nofun (Int.le_refl _)⟩⟩,nofun⟩,nofun⟩
  refine⟨nofun,λ_=>?_⟩;by_cases q:pc pr sq u<pc pr sq v
  .exact⟨λ_=>⟨rfl,rfl,zaA,_,_,_,rfl,.inr ⟨v,x,rfl,tk v (λz hz=>Int.le_trans (hu z hz) (Int.le_of_lt q)) (Int.le_refl _)⟩⟩,λz=>absurd q (zeD z)⟩
  exact⟨λz=>absurd (zbQ z) q,λ_=>⟨_,_,_,rfl,.inr ⟨u,mu,rfl,tk u hu (Int.not_lt.mp q)⟩⟩⟩
 rintro _ ⟨y,a,J,rfl,r⟩;rw[zLm,zbU]at r;rcases r with⟨z,_⟩|⟨v,x,rfl,hm⟩
 .have:=(Ul (c:=c) g l g.length (zaj _)).1;rw[zbU]at this;lia
 exact h v x hm
def Vt.ok{s:Str}{v:D}(h:Vt s v):plnD v:=by
 rcases h with⟨_,i,rfl⟩|⟨_,l,rfl,_⟩|⟨_,t,rfl,e⟩
 .trivial
 .exact tu (S:=l.map D.int) λd a=>by
   obtain⟨i,_,rfl⟩:=zah.mp a;exact zaA
 exact t.pln
theorem RsT.ok:∀{ss:List Str}{l:List D},RsT ss l->∀v∈l,plnD v
 |[],_,h,v,m=>by cases (show _=[] from h);cases m
 |_::_,_,⟨w,q,rfl,hw,h⟩,v,m=>by
  rcases zam.mp m with rfl|m
  .exact hw.ok
  exact h.ok v m
def In4(s:Sx):Prop:=∀q∈s.cl,(∀v∈q.as,plnD v)/\∀v,q.en=some v->plnD v
def Nx.in4{fns:List (Str×D)}{fs:Sig}{s s':Sx}{l:Option Str}(h:Nx fns s l s')(o:Ok fs s)(i:In4 s):In4 s':=by
 obtain⟨u,g,k,j,kt,_,fr,rs⟩:=o.ex;have r:=rs.ok;cases h
 case leave c1 c2 st n rr fr ts v rs q hn he pa pv =>
  intro x a;rcases zas.mp a with a|a
  .exact i x (zaH _ a)
  rcases zam.mp a with rfl|a
  .refine⟨(i q (zaE _ zao)).1,λw e=>?_⟩;cases e;exact r _ zao
  exact i x (zaE _ (zal _ a))
 case enter cl st fr ts rs f es us n0 sz b ps _ _ _ _ _ _ _ _ =>
  intro x a;rcases zas.mp a with a|a
  .exact i x a
  rw[zaC.mp a];exact⟨λv d=>r v (zaH _ (List.mem_reverse.mpr d)),λv d=>nomatch d⟩
 all_goals exact i
theorem Rn.in4{fns:List (Str×D)}{fs:Sig}{m:Nat}{s t:Sx}{b:Bool}(r:Rn fns fs m s t b)(i:In4 s):In4 t:=by
 induction r with
 |done o h=>exact i
 |cutB o h=>exact i
 |cutM o h l=>exact i
 |adm o h r ih=>exact ih (h.in4 o i)
 |stp o h l r ih=>exact ih (h.in4 o i)
noncomputable def endV(t:Sx)(b:Bool):D:=if b then .non else t.rs.headD .non
noncomputable def rsD(t:Sx)(b:Bool):D:=.tup [.bl (!b),endV t b,.lst (t.cl.map Rw.d),.lst (t.st.map λp=>stp p.1 p.2)]
noncomputable def rg(a:List Gd):List (Str×D):=a.map λg=>(g.1.nm,gD g)
theorem S9:∀{gs:List Gd}{g:Gd},(gs.map λg=>g.1.nm).Nodup->g∈gs->rowG (rg gs) g.1.nm=some (gD g)
 |h::gs,g,a,m=>by
  have a:=zaQ.mp a;show(if h.1.nm=g.1.nm then _ else rowG (rg gs) g.1.nm)=_
  rcases zam.mp m with rfl|m
  .exact zaK rfl
  rw[zaI λe=>a.1 (zah.mpr ⟨g,m,e.symm⟩)];exact S9 a.2 m
theorem G2:∀{gs:List Gd}{f:Str}{d:D},rowG (rg gs) f=some d->∃g∈gs,d=gD g
 |h::gs,f,d,e=>by
  have e:(if h.1.nm=f then some (gD h) else rowG (rg gs) f)=some d:=e
  split at e
  .cases e
   exact⟨h,zao,rfl⟩
  obtain⟨g,m,q⟩:=G2 e;exact⟨g,zal _ m,q⟩
theorem A7:∀{hs:List Hd}{f:Str}{p:List Str×Str},sigL (sg1 hs) f=some p->∃h∈hs,h.nm=f/\p=(h.ps.map Prod.snd,h.sh)
 |h::hs,f,p,e=>by
  have e:(if h.nm=f then some (h.ps.map Prod.snd,h.sh) else sigL (sg1 hs) f)=some p:=e
  split at e
  .rename_i z;cases e;exact⟨h,zao,z,rfl⟩
  obtain⟨g,m,q⟩:=A7 e;exact⟨g,zal _ m,q⟩
noncomputable def psD(g:Gd):List (Str×D):=g.1.ps.map λp=>(p.1,.str p.2)
def Nq(g:Gd):gD g=.tup [.str g.1.nm,pmD (psD g),.tup [.str g.1.sh,.tup (g.1.sz.map D.int)],g.2]:=by
 unfold gD fnD pmD psD;rw[zaV];rfl
def Yo(g:Gd):(psD g).map Prod.fst=g.1.ps.map Prod.fst:=by
 unfold psD;rw[zaV];rfl
theorem Y3:∀l:List (Str×Str),(l.map Prod.fst).zip (l.map Prod.snd)=l
 |[]=>rfl
 |p::l=>by rw[zaB,zaB,zaM,Y3 l]
def PG1.fns{d:List Gd}{a:List Hd}(p:PG1 d a):La (rg d) (sg1 a):=λf j s e=>by
 obtain⟨h,g,rfl,e2⟩:=A7 e;obtain⟨rfl,rfl⟩:=Prod.mk.inj e2;obtain⟨b,m⟩:=p.mem h g;have o:=p.ok _ m;have r:=S9 p.nd m;rw[Nq]at r;refine⟨_,psD (h,b),_,b,r,?_,?_,?_,?_,?_,?_⟩
 .unfold psD;rw[zLm,zLm]
 .rw[zLm];exact o.n1
 .rw[zLm];have:=o.n3;exact zak this aB
 .rw[Yo];exact o.nd
 .rw[<- Nq];exact o.pure
 rw[Yo,Y3];exact o.bt
noncomputable def st01(g:Gd)(as:List D):Sx:=⟨[⟨g.1.nm,as,none,none⟩],[(0,"call")],[(0,(g.1.ps.map Prod.fst).zip as)],[bdD g.2,lvD],[]⟩
def z0v{j:List Hd}{g:Gd}{as:List D}(o:GOk j g)(d:RsT (g.1.ps.map Prod.snd) as):Ok (sg1 j) (st01 g as)/\In2 (st01 g as)/\In4 (st01 g as):=by
 have ft:=Nt (zs:=g.1.ps.map Prod.fst) (by rw[zLm,zLm]) d
 rw[Y3]at ft;have one:∀(i:Nat)(q:Rw),(st01 g as).cl[i]?=some q->i=0/\q=⟨g.1.nm,as,none,none⟩:=λi q e=>by
  match i,e with
  |0,e=>exact⟨rfl,(zaP e).symm⟩
  |i+1,e=>cases e
 refine⟨⟨⟨[g.1.ps],[],0,0,.body o.bt .done aB,by decide,⟨0,_,[],rfl,ft,rfl⟩,rfl⟩,(zaQ.mpr ⟨zaS,zcX⟩:[0].Nodup),λn l=>⟨⟨g.1.nm,as,none,none⟩,by rw[zaC.mp l];rfl,rfl⟩,λq a=>by rw[zaC.mp a];exact d.pure,(show 1<=20 by decide),zaj 1⟩,⟨rfl⟩,λq a=>by rw[zaC.mp a];exact⟨d.ok,λv k=>nomatch k⟩⟩
theorem z2d:∀{ss:List Str}{as:List D},RsT ss as->∀p∈(ss.map D.str).zip as,FzT p.1 p.2
 |[],_,_,p,m=>by cases m
 |s::ss,_,⟨v,q,rfl,hv,h⟩,p,m=>by
  rcases zam.mp (show p∈(D.str s,v)::(ss.map D.str).zip q from m) with rfl|m
  .rcases hv with⟨rfl,i,rfl⟩|⟨rfl,l,rfl,hl⟩|⟨rfl,t,rfl,a⟩
   .exact .inl ⟨rfl,i,rfl⟩
   .exact .inr (.inl ⟨rfl,l,rfl,by lia⟩)
   exact .inr (.inr ⟨rfl,t,rfl,by lia⟩)
  exact z2d h p m
noncomputable def mt:Sx:=⟨[],[],[],[],[]⟩
def Ends1(d:List Gd)(a:List Hd)(g:Gd)(as:List D)(m:Nat)(t:Sx)(b:Bool):Prop:=(m=0/\t=mt/\b=true)\/(1<=m/\Rn (rg d) (sg1 a) m (st01 g as) t b)
def z1m{fs:Sig}{d:List Env}{ts:List D}{a:List Str}{k j:Nat}(h:Kt fs d ts a k j)(e:ts=[]):∃s,a=[s]:=by
 cases h <;> first|exact⟨_,rfl⟩|cases e
def z3k{C:Addr}{a:List Gd}{I:List Hd}{g:Gd}{as:List D}(u:PG1 a I)(x:g∈a)(G:RsT (g.1.ps.map Prod.snd) as){m:Nat}(Z:m<=1000){t:Sx}{b:Bool}(e:Ends1 a I g as m t b){Y:EV->Prop}(h:Y ⟨.new,rsD t b⟩):gi C RT FzT [.tup (a.map gD),.str g.1.nm,.lst as,.int m] Y:=by
 have y:=u.ok g x;have r:=S9 u.nd x;rw[Nq]at r;have L:=G.len;rw[zLm]at L;have n3:=y.n3;have N:=du g.1;have J:(rg a).map Prod.snd=a.map gD:=by unfold rg;rw[zaV];rfl
 have f2:(rg a).map Prod.fst=a.map λg=>g.1.nm:=by unfold rg;rw[zaV];rfl
 have s2:(psD g).map Prod.snd=(g.1.ps.map Prod.snd).map D.str:=by unfold psD;rw[zaV,zaV];rfl
 have M:y7 (a.map gD):=yi.mpr λd B=>by
  obtain⟨g,x,rfl⟩:=zah.mp B;exact(u.ok g x).pure
 refine⟨rg a,g.1.nm,as,m,_,psD g,_,_,by rw[J],by unfold rg;rw[zLm];have:=u.ln;lia,by rw[f2];exact u.nd,J▸M,λp W=>?_,r,zaA,?_,N.2.2.1,y.bt.pure,G.pure,by unfold psD;rw[zLm];exact L.symm,by lia,by rw[Yo];exact y.nd,by rw[s2];exact z2d G,?_⟩
 .obtain⟨g,_,rfl⟩:=zah.mp W;exact⟨_,rfl⟩
 .rw[s2];exact yi.mpr λd B=>by
   obtain⟨z,_,rfl⟩:=zah.mp B;trivial
 rcases e with⟨rfl,rfl,rfl⟩|⟨O,R⟩
 .exact xq (.inr rfl) (.inl ⟨rfl,h⟩)
 have e:ji m g.1.nm as (psD g) g.2 ms0=(st01 g as).ms:=by
  unfold ji;rw[zaI aB,wx (by show ¬ (m:Int)<=0;lia),Yo]
  rfl
 rw[e];refine Ak (λl=>.inl ⟨rfl,l,rfl,rfl⟩) (λt V=>.inr ⟨rfl,t,rfl,rfl,V⟩) u.fns (λf d q=>?_) Z R O (λz=>?_) (λz s1 h1 h2 h3=>?_)
 .obtain⟨g,x,rfl⟩:=G2 q;exact(u.ok g x).pure
 .subst z;obtain⟨o,q⟩:=R.end_ok;obtain⟨a0,ss,k,j,kt,_,_,rs⟩:=o.ex;obtain⟨s,rfl⟩:=z1m kt (q rfl);obtain⟨v,q,e,Q,rfl⟩:=rs;refine .inr ⟨rfl,v,[],by show t.rs.reverse=_;rw[e];rfl,Q.pure,?_⟩
  have ev:endV t false=v:=by show t.rs.headD .non=v;rw[e];rfl
  unfold rsD at h;rw[ev]at h;exact h
 subst z;refine .inl ⟨h1,?_⟩;rw[h2,h3];exact h
def Jy{i:Nat}{d:D}(h:(enD (words.map D.str))[i]?=some d):∃w,words[i]?=some w/\d=.tup [.int i,.str w]:=by
 unfold enD at h;rw[zai,List.getElem?_zipIdx,zai]at h;cases e:words[i]? with
 |none=>rw[e]at h;cases h
 |some w =>
  rw[e]at h;cases h;exact⟨w,rfl,by simp⟩
def Y6:words.Nodup:=by decide
def Tq{α:Type}{l:List α}{i:Nat}{x:α}(e:l.Nodup)(h:l[i]?=some x):x∉l.take i:=λm=>by
 obtain⟨j,d⟩:=zbJ m;rw[List.getElem?_take]at d;split at d
 .rename_i q;obtain⟨a,k⟩:=zag.mp h;obtain⟨b,g⟩:=zag.mp d;have:=(List.pairwise_iff_getElem.mp e) j i b a q;rw[k,g]at this;exact this rfl
 cases d
noncomputable def tabO(ws:List Str)(pr:Str->Int):D:=.dk (ws.map Sum.inr) (ws.map λw=>.int (pr w))
theorem Zo{pr:Str->Int}{w:Str}:∀{ws:List Str},w∈ws->ue (ws.map Sum.inr) (ws.map λw=>D.int (pr w)) (Sum.inr w)=some (D.int (pr w))
 |x::ws,h=>by
  show(if (Sum.inr x:Key)=Sum.inr w then _ else _)=_
  by_cases e:x=w
  .rw[e,zaK rfl]
  rw[zaI λz=>e (zeR z)];exact Zo ((zam.mp h).resolve_left λz=>e z.symm)
def d9{ws:List Str}(p:ws.Perm words)(pr:Str->Int):TabP pr (tabO ws pr):=⟨_,_,rfl,by rw[zLm];exact p.length_eq,λw h=>⟨zah.mpr ⟨w,p.mem_iff.mpr h,rfl⟩,Zo (p.mem_iff.mpr h)⟩⟩
def z0a{ws:List Str}(pr:Str->Int){i:Nat}{x:Str}(d:ws.Nodup)(h:ws[i]?=some x){v:Int}(e:v=pr x):D.dk (kput ((ws.take i).map Sum.inr) (Sum.inr x)) (dput ((ws.take i).map Sum.inr) ((ws.take i).map λw=>.int (pr w)) (Sum.inr x) (.int v))=tabO (ws.take (i+1)) pr:=by
 have a:(Sum.inr x:Key)∉(ws.take i).map Sum.inr:=λm=>by
  obtain⟨y,g,e⟩:=zah.mp m;cases e;exact Tq d h g
 unfold kput tabO;rw[zaI a,jo (by rw[zLm,zLm]) a,zbL,h,zMa,zMa,e]
 rfl
def V1{te:TD}{U:DE}{s u:Str}{b:Bool}(h:∀ M:EV->Prop,M (dv (.str s))->te U M)(e:eqD (.str s) (.str u)=b)(M:Bool->Prop)(k:M b):tBo (d2 sEq te (dC (.str u))) U M:=h _ (cs (e▸k))
def z4d{te:TD}{U:DE}{n:Nat}{M:List D->Prop}(h:∀ Y:EV->Prop,Y (dv (.int n))->te U Y)(l:n<=100)(k:M (rngD 0 n)):iR1 (u9 te aNil) U M:=h _ ⟨by lia,by lia,k⟩
def PrOk(pr:Str->Int):Prop:=∀w,0<=pr w/\pr w<10 ^ 15
def Be:FT:=λS Y=>∃(ns:List Int)(k:Nat),S=[.scr ns,.int k]/\k<=3/\∀pr:Str->Int,PrOk pr->Y (df (tabO words pr))
def Fj:FT:=λS Y=>∃pr:Str->Int,S=[tabO words pr]/\∀ws:List Str,ws.Perm words->Y (df (tabO ws pr))
def Bh(C:Addr):FT:=λS Y=>∃(fns:List (Str×D))(nm:Str)(ps:List (Str×Str))(shs:List (Str×Nat))(c most:Int),S=[.tup (fns.map Prod.snd),.str nm,pmD (ps.map λp=>(p.1,.str p.2)),siD shs,.int c,.int most]/\shs.map Prod.fst=ps.map Prod.snd/\(∀p∈shs,ShOk p)/\shs.length<=3/\Y (dv .non) /\
 ∀a,ins c shs=[a]->∃(v w st:D)(cl:List D),Y (dv (.lst cl))/\∀M:EV->Prop,M ⟨.new,.tup [v,w,.lst cl,st]⟩->gi C RT FzT [.tup (fns.map Prod.snd),.str nm,.lst a,.int most] M
def z0y(ws:List Str)(pr:Str->Int):y7 (ws.map λw=>D.int (pr w)):=yi.mpr λd a=>by
 obtain⟨t,_,rfl⟩:=zah.mp a;trivial
def len7{α:Type}{l:List α}(h:l.length=7):∃a b c d e f g,l=[a,b,c,d,e,f,g]:=by
 obtain⟨a,_,rfl,h1⟩:=uncQ h;obtain⟨b,c,d,e,f,g,rfl⟩:=z4r h1;exact⟨a,b,c,d,e,f,g,rfl⟩
noncomputable def tabV(l k j g e d a:Int)(w:Str):Int:=if w = "call" then l else if w = "make" then k else if w = "sum" then j else if w = "let" then g else if w = "less" then e else if w = "open" then d else a
def E4{n:Nat}(c:Int):(rngD 0 n).filterMap (λ_=>some (D.int c))=(List.replicate n c).map D.int:=by
 unfold rngD;rw[zbX,List.map_replicate];show(List.range n).filterMap (λ_=>some (D.int c))=_;rw[rh (λ_=>D.int c),List.map_const',zcW]
def gq(X:AX K mg C):FD P w K mg base 1 "_law_table" ["_law_script","_law_shift"] Be:=by
 refine QB X 48 ["_law_script","_law_shift","_law_table_here","_law_k","_law_word","_law_cell"] ?_;walk_at "b";refine⟨_,(ze (zx 2 ds.nd qj)
   (ze (wm (V5 X.T.enumerate aR) (ve (K0:=K) (n:=2) (by rfl) (by rfl) (yd (zj (i:=3) ds.nd rfl aG) (yd (zj (i:=4) ds.nd rfl aG) wt))) (vg 3 4) (ze (zx 5 ds.nd (T4 X.T.sum (za (Cj (z9 0) aR vh aR) zb)))
    (zm (jt 2 hu (z9 4) (x6 aR (zg hu (ym (za (gw zc zc) aR)) aR))))))
   (zm (yg (z9 2))))),?_⟩
 obtain⟨ns,k,rfl,k3,h⟩:=hT;refine yc ⟨zaA,yo ?_⟩;refine u4 (enD (words.map D.str)) (λM q=>⟨rfl,rfl,zaA,q⟩) (λi U=>∃(vs:List Int)(a b c:Option EV),vs.length=i/\(∀v∈vs,0<=v/\v<10 ^ 15)/\U=[q_ (.scr ns),q_ (.int k),Q_ (.dk ((words.take i).map Sum.inr) (vs.map D.int)),a,b,c]) ⟨[],none,none,none,rfl,nofun,rfl⟩ ?_ ?_
 .rintro i d _ W ⟨vs,a,b,c,l,u,rfl⟩;obtain⟨x,ex,rfl⟩:=Jy W;have hi:i<7:=(zag.mp ex).1;have z:(Sum.inr x:Key)∉(words.take i).map Sum.inr:=λm=>by
   obtain⟨y,R,e⟩:=zah.mp m;cases e;exact Tq Y6 ex R
  refine(show sSeq _ _ [q_ (.scr ns),q_ (.int k),Q_ (.dk ((words.take i).map Sum.inr) (vs.map D.int)),q_ (.int i),q_ (.str x),c] _ from yc (Xl ⟨by decide,?_⟩))
  show match Z1 ((wv ns (some ((i:Int)+k)) none (some 7)).map D.int) with|some ns=>_|none=>False
  rw[jb];refine⟨zaA,?_⟩;obtain⟨r,j,Z⟩:=z0f (10 ^ 15) 3 (wv ns (some ((i:Int)+k)) none (some 7)).sum;have h0:0<r:=by rcases j with rfl|rfl <;> decide
  have h1:r<=10 ^ 15:=by rcases j with rfl|rfl <;> decide
  walk_at "dl";refine⟨zaR (Gy aB aB),?_⟩
  rw[Z];generalize (wv ns (some ((i:Int)+k)) none (some 7)).sum=B;refine⟨by lia,by lia,vs++[(B.fdiv 2).fmod r],q_ (.int i),q_ (.str x),q_ (.int B),by rw[zLa,l];rfl,λv g=>?_,?_⟩
  .rcases zas.mp g with g|g
   .exact u v g
   cases zaC.mp g
   exact⟨zbD _ h0,Int.lt_of_lt_of_le (zcI _ h0) h1⟩
  have e1:kput ((words.take i).map Sum.inr) (Sum.inr x)=(words.take (i+1)).map Sum.inr:=by
   unfold kput;rw[zaI z,zbL,ex,zMa];rfl
  rw[e1,jo (by rw[zLm,zLm,zaX,l];have:words.length=7:=rfl;lia) z,zMa]
  rfl
 rintro _ ⟨vs,a,b,c,l,u,rfl⟩;obtain⟨Q,O,N,L,J,I,G,rfl⟩:=len7 l;have V:PrOk (tabV Q O N L J I G):=λw=>by
  unfold tabV
  repeat' split
  all_goals exact u _ aE
 exact⟨⟨zaA,zaA,zaA,zaA,zaA,zaA,zaA,zaA⟩,h _ V⟩
def Xa(X:AX K mg C):FD P w K mg base 1 "_law_turned" ["_law_table_here"] Fj:=by
 refine QB X 49 ["_law_table_here","_law_turned_here","_law_word"] ?_;walk_at "b";refine⟨_,(ze (zx 1 ds.nd qj)
   (ze (wm (T3 X.T.reversed (za (Zv X.T.sorted aR) zb)) (zj (i:=2) ds.nd rfl aG) (yj 2) (zm (jt 1 hu (z9 2) aR)))
   (zm (yg (z9 1))))),?_⟩
 obtain⟨pr,rfl,h⟩:=hT;refine yc ⟨zaA,yo (show sFor _ _ _ [q_ (tabO words pr),Q_ (.dk [] []),none] _ from⟨by decide,words,rfl,λws j=>⟨zaA,?_⟩⟩)⟩
 have e:ws.reverse.Perm words:=(List.reverse_perm ws).trans j
 dsimp only
 rw[<- List.map_reverse];generalize ws.reverse=us at e ⊢;have nd:us.Nodup:=e.nodup_iff.mpr Y6;refine⟨λi U=>∃a,U=[q_ (tabO words pr),Q_ (tabO (us.take i) pr),a],⟨none,rfl⟩,?_,?_⟩
 .rintro i d _ g ⟨a,rfl⟩;rw[zai]at g;obtain⟨x,ex,rfl⟩:=zar.mp g;have hi:=(zag.mp ex).1;have k:us.length=7:=e.length_eq;refine uw (show dh _ _ _ [q_ (tabO words pr),Q_ (.dk ((us.take i).map Sum.inr) ((us.take i).map λw=>.int (pr w))),q_ (.str x)] _ from Zs (Zo (e.mem_iff.mp (zan ex))) ⟨zaA,by rw[zLm,zaX];lia,q_ (.str x),?_⟩)
  rw[z0a pr nd ex rfl];rfl
 rintro _ ⟨a,rfl⟩;rw[zLm,zbU];exact⟨z0y us pr,h us e⟩
def Wx(X:AX K mg C):FD P w K mg base 1 "_law_whole" ["_law_found"] Bm:=by
 refine QB X 47 ["_law_found"] ?_;walk_at "b";refine⟨_,(zm (yg (Rl (t8 X.T.isinstance (za (z9 0) (za (Qx X.T.int bu) zb))) (V6 (F3 (t8 X.T.isinstance (za (z9 0) (za (Qx X.T.bool Y2) zb)))))))),?_⟩;obtain⟨n,rfl,h⟩:=hT;exact⟨λ_=>⟨zaA,h⟩,nofun⟩
noncomputable abbrev onE(fns:List (Str×D))(nm:Str)(ps:List (Str×Str))(shs:List (Str×Nat))(c most:Int)(as:List D)(l:DE):DE:=q_ (.tup (fns.map Prod.snd))::q_ (.str nm)::q_ (pmD (ps.map λp=>(p.1,.str p.2)))::q_ (siD shs)::q_ (.int c)::q_ (.int most)::Q_ (.lst as)::l
def Ur(X:AX K mg C)(I:FD P w K mg base 10 "trace" pE (gi C RT FzT)):FO P w K mg base 11 "_law_only" pD (Bh C):=by
 obtain⟨f,fd,F,m⟩:=X.f "_law_only" 50 aB
 have ds:zn ["_law_program_here","_law_name","_law_params","_law_sizes","_law_number_here","_law_most","_law_args","_law_k"] pD (zd (top 50)):=by walk_at "f"
 refine Ny F ds (F.binds (by walk_at "3")) m λqZ A outer s H xs S Y hr hl hT=>?_
 have hu:=hr.units;refine⟨_,(ze (zx 6 ds.nd aR)
   (ze (wm (xk X.T.range aR) (zj (i:=7) ds.nd rfl aG) (yj 7) (zm (wl aR (zm (wn 6 (z9 4))) (zm (wl aR (zm (wn 6 (va X.T.tuple (za (wj (.mk ["_law_j"] ["_law_number_here"] [4] (xk X.T.range aR) (λcl C fp s H=>(z9 1)))) zb)))) (zm (wl aR (zm (wn 6 aR)) (zm (yg ug)))))))))
   (zm (yg (zg hu (y8 I (hr.e rfl) aR) zc))))),?_⟩
 obtain⟨fns,B,ps,g,c,most,rfl,es,ok,l3,h0,h1⟩:=hT;have N:ps.length=g.length:=by simpa using(zbO List.length es).symm
 refine yc ⟨rfl,rfl,zaA,yo ?_⟩;refine u4 (rngD 0 g.length) (λM l=>?_) (λi U=>∃as a,ins c (g.take i)=[as]/\U=(onE fns B ps g c most as [a])) ⟨[],none,rfl,rfl⟩ ?_ ?_
 .have e:((ps.map λp=>(p.1,D.str p.2)).map λp=>D.tup [.str p.1,p.2]).length=g.length:=by rw[zLm,zLm,N]
  refine(show _/\_/\M (rngD 0 ((((ps.map λp=>(p.1,D.str p.2)).map λp=>D.tup [.str p.1,p.2]).length:Nat):Int).toNat) from ?_);rw[e];exact⟨by lia,by lia,l⟩
 .rintro i d _ O ⟨as,a,y,rfl⟩;obtain⟨hi,rfl⟩:=uv O;obtain⟨q,G⟩:∃q,g[i]?=some q:=⟨_,zaf hi⟩;obtain⟨p,ep⟩:∃p,ps[i]?=some p:=⟨_,zaf (N▸hi)⟩;have R:=ok q (zan G);have e2:q.1=p.2:=by
   have:=zbO (·[i]?) es;simpa [G,ep] using this
  obtain⟨x,s⟩:=p;obtain⟨s,n⟩:=q;cases e2;obtain⟨Q,Z⟩:=R;have la:as.length<=3:=by
   have:=(X1 (show as∈ins c (g.take i) by rw[y];exact zao)).1
   rw[zaX]at this;lia
  have j:∀v,vlF c (s,n)=[v]->ins c (g.take (i+1))=[as++[v]]:=λv W=>by
   rw[zbL,G];show ins c (g.take i++[(s,n)])=_;rw[fk,y];unfold inS;rw[W];rfl
  have z:(0+(i:Int)).toNat=i:=by lia
  have a1:atI ((ps.map λp=>(p.1,D.str p.2)).map λp=>D.tup [.str p.1,p.2]) (0+(i:Int))=some (.tup [.str x,.str s]):=uu aD (by rw[z,zai,zai,ep];rfl)
  have a2:atI (g.map λp=>D.int p.2) (0+(i:Int))=some (.int n):=uu aD (by rw[z,zai,G];rfl)
  refine uw (show sIf _ _ _ (onE fns B ps g c most as [q_ (.int (0+(i:Int)))]) _ from ?_);have u:∀M:EV->Prop,M (dv (.str s))->d2 sIxx (d2 sIxx (ux 2) (ux 7)) (dC (.int 1)) (onE fns B ps g c most as [q_ (.int (0+(i:Int)))]) M:=λM k=>Zr (Y:=λr=>sIxx r.d (.int 1) M) a1 k;have L:∀M:EV->Prop,M (dv (.int n))->d2 sIxx (ux 3) (ux 7) (onE fns B ps g c most as [q_ (.int (0+(i:Int)))]) M:=λM k=>we a2 k;rcases Q with rfl|rfl|rfl
  .exact dg true (V1 u rfl) (λ_=>u6 rfl ⟨zaA,by lia,as++[.int c],q_ (.int (0+(i:Int))),j _ rfl,rfl⟩) nofun
  .refine dg false (V1 u rfl) nofun λ_=>dg true (V1 u rfl) (λ_=>u6 rfl ?_) nofun;refine Y8 (x3 (rngD 0 n) (λM l=>z4d L aD l) (λ_=>some (.int c)) (by unfold rngD;rw[zLm,zcW];lia) (λd O=>⟨λ_=>⟨zaA,rfl⟩,nofun⟩) ?_)
   rw[E4];refine⟨zaA,by lia,as++[rwD (List.replicate n c)],q_ (.int (0+(i:Int))),j _ rfl,rfl⟩
  refine dg false (V1 u rfl) nofun λ_=>dg false (V1 u rfl) nofun λ_=>?_;refine dg (decide ((n:Int)<2)) (λM k=>L _ k) (λz=>u6 rfl (rj (df (.lst [.non,.tup [.non,.int c,.non]])) (dv (.int n)) (λM k=>⟨rfl,rfl,rfl,rfl,k⟩) L ?_)) λ_=>h0;have:n=0\/n=1:=by have:=zbQ z;lia
  rcases this with rfl|rfl
  .exact⟨zaA,by lia,as++[.non],q_ (.int (0+(i:Int))),j _ rfl,rfl⟩
  exact⟨zaA,by lia,as++[.tup [.non,.int c,.non]],q_ (.int (0+(i:Int))),j _ rfl,rfl⟩
 rintro _ ⟨as,a,y,rfl⟩;rw[kg,zbU]at y;obtain⟨v,w,st,cl,J,V⟩:=h1 as y;exact⟨rfl,V _ J⟩
def Nx.word{fns:List (Str×D)}{s s':Sx}{k:Str}(h:Nx fns s (some k) s'):∃n,s'.st=s.st++[(n,k)]/\k∈words:=by
 cases h <;> exact⟨_,rfl,by decide⟩
def Nx.quiet{fns:List (Str×D)}{s s':Sx}(h:Nx fns s none s'):s'.st=s.st:=by
 cases h <;> rfl
def Rn.words{fns:List (Str×D)}{fs:Sig}{m:Nat}{s t:Sx}{b:Bool}(r:Rn fns fs m s t b)(h:∀ p∈s.st,p.2∈words):∀p∈t.st,p.2∈words:=by
 induction r with
 |done o h'=>exact h
 |cutB o h'=>exact h
 |cutM o h' l=>exact h
 |adm o h' r ih=>exact ih (h'.quiet▸h)
 |stp o h' l r ih =>
  obtain⟨n,e,w⟩:=h'.word;refine ih λp a=>?_;rw[e]at a;rcases zas.mp a with a|a
  .exact h p a
  cases zaC.mp a
  exact w
theorem G0:∀{ss:List Str}{a:List D},a.length=ss.length->(∀(i:Nat) s v,ss[i]?=some s->a[i]?=some v->Vt s v)->RsT ss a
 |[],[],_,_=>rfl
 |s::ss,v::a,l,h=>⟨v,a,rfl,h 0 s v rfl rfl,G0 (Nat.succ.inj l) λi s v e1 e2=>h (i+1) s v e1 e2⟩
def z3h{c:Int}{p:Str×Nat}{v:D}(h:ShOk p)(m:v∈vlF c p):Vt p.1 v:=by
 obtain⟨s,n⟩:=p;obtain⟨a,d⟩:=h;unfold vlF at m
 dsimp only at a d m ⊢
 rcases a with rfl|rfl|rfl
 .rw[zaK rfl]at m;cases zaC.mp m;exact .inl ⟨rfl,c,rfl⟩
 .rw[zaI aB,zaI aB]at m
  cases zaC.mp m
  exact .inr (.inl ⟨rfl,_,rfl,by rw[zcB];lia⟩)
 rw[zaI aB,zaK rfl]at m
 obtain⟨t,rfl,e⟩:=B7 c n aD v m
 exact .inr (.inr ⟨rfl,t,rfl,by lia⟩)
def Dy{c:Int}{d:List (Str×Nat)}{g:List Str}(e:d.map Prod.fst=g)(ok:∀ p∈d,ShOk p){a:List D}(h:a∈ins c d):RsT g a:=by
 subst e;obtain⟨l,q⟩:=X1 h;refine G0 (by rw[zLm,l]) λi s v e1 e2=>?_
 rw[zai]at e1;obtain⟨p,ep,rfl⟩:=zar.mp e1;exact z3h (ok p (zan ep)) (q i p v ep e2)
structure RunD(C:Addr)(gs:List Gd)(g:Gd)(m:Nat)(a:List D)(ss:List (Nat×Str)):Prop where
 le:ss.length<=m
 wd:∀p∈ss,p.2∈words
 tr:∃(v w:D)(cl:List D),plnD (.lst cl)/\cl.length=(ss.filter qo).length/\∀M:EV->Prop,M ⟨.new,.tup [v,w,.lst cl,.lst (sts ss)]⟩->gi C RT FzT [.tup (gs.map gD),.str g.1.nm,.lst a,.int m] M
def Rw.pln{q:Rw}(h1:∀ v∈q.as,plnD v)(h2:∀ v,q.en=some v->plnD v):plnD q.d:=by
 refine⟨zaA,tu h1,?_,zaA,?_,zaA⟩
 .cases q.up <;> exact zaA
 cases h:q.en with
 |none=>exact zaA
 |some v=>exact h2 v h
def z4a{C:Addr}{j:List Gd}{z:List Hd}{g:Gd}(e:PG1 j z)(u:g∈j){m:Nat}(k:1<=m)(G:m<=1000){a:List D}(v:RsT (g.1.ps.map Prod.snd) a):∃ss,RunD C j g m a ss:=by
 obtain⟨x,i2,l⟩:=z0v (e.ok g u) v;obtain⟨t,b,R⟩:=O1 e.fns m (st01 g a) x;have y:=R.in2 i2;refine⟨t.st,R.few k,R.words (λp B=>by cases zaC.mp B;decide),.bl (!b),endV t b,t.cl.map Rw.d,tu λd I=>?_,by rw[zLm];exact y.ct,λM h=>z3k e u v G (.inr ⟨k,R⟩) h⟩
 obtain⟨q,r,rfl⟩:=zah.mp I;exact Rw.pln (R.in4 l q r).1 (R.in4 l q r).2
def Ad{C:Addr}{j:List Gd}{q:List Hd}{g:Gd}(k:PG1 j q)(v:g∈j){m:Nat}(l:1<=m)(u:m<=1000){c:Int}{d:List (Str×Nat)}(e:d.map Prod.fst=g.1.ps.map Prod.snd)(ok:∀ p∈d,ShOk p):∃sq:List D->List (Nat×Str),∀a∈ins c d,RunD C j g m a (sq a):=by
 have H:∀a,∃ss,a∈ins c d->RunD C j g m a ss:=λa=>by
  by_cases h:a∈ins c d
  .obtain⟨ss,r⟩:=z4a (C:=C) k v l u (Dy e ok h);exact⟨ss,λ_=>r⟩
  exact⟨[],λz=>absurd z h⟩
 obtain⟨f,x⟩:=Classical.axiomOfChoice H;exact⟨f,x⟩
def Fh(pr:Str->Int):tot pr []=0:=rfl
def um(pr:Str->Int)(k:Str)(l:List Str):tot pr (k::l)=pr k+tot pr l:=by
 unfold tot;rw[zaB,List.sum_cons]
theorem Pi(pr:Str->Int)(k:Int):∀l,tot (λw=>pr w*k) l=tot pr l*k
 |[]=>(Int.zero_mul k).symm
 |x::l=>by rw[um,um,Pi pr k l,Int.add_mul]
theorem Pj(p q:Str->Int):∀l,tot (λw=>p w+q w) l=tot p l+tot q l
 |[]=>rfl
 |x::l=>by
  rw[um,um,um,Pj p q l];lia
theorem To:∀l,tot (λ_=>0) l=0
 |[]=>rfl
 |x::l=>by rw[um,To l];rfl
noncomputable def on1(w:Str):Int:=if w==("call" : Str) then 1 else 0
theorem Vr:∀ss:List (Nat×Str),tot on1 (ss.map Prod.snd)=((ss.filter qo).length:Int)
 |[]=>rfl
 |p::ss=>by
  rw[zaB,um,Vr ss,List.filter_cons];show(if qo p then(1:Int) else 0)+_=_
  cases qo p with
  |true=>rw[zaK rfl,zaK rfl,zLc];lia
  |false=>rw[zaI aB,zaI aB];lia
theorem Tp{pr:Str->Int}{b:Int}(h:∀ w,0<=pr w/\pr w<=b):∀l:List Str,0<=tot pr l/\tot pr l<=l.length*b
 |[]=>⟨Int.le_refl _,by rw[Fh];simp⟩
 |x::l=>by
  have a:=Tp h l;have d:=h x;rw[um,zLc,Int.natCast_add,Int.add_mul];have:((1:Nat):Int)*b=b:=by lia
  lia
def Best(as:List (List D))(sq:List D->List (Nat×Str))(pr:Str->Int)(p:Int):Prop:=∃a∈as,p=pc pr sq a/\∀u∈as,pc pr sq u<=p
variable{as:List (List D)}{sq:List D->List (Nat×Str)}{p q r k:Int}{a b:Str->Int}
def Best.same(h:Best as sq a p)(h2:Best as sq a q):q=p:=by
 obtain⟨x,e,rfl,j⟩:=h;obtain⟨y,d,rfl,g⟩:=h2;exact Int.le_antisymm (j y d) (g x e)
def Best.mul(h:Best as sq a p)(h2:Best as sq (λw=>a w*k) q)(j:0<=k):q=p*k:=by
 obtain⟨x,g,rfl,r⟩:=h;obtain⟨y,d,rfl,l⟩:=h2;have e:∀u,pc (λw=>a w*k) sq u=pc a sq u*k:=λu=>Pi ..;refine Int.le_antisymm ?_ ?_
 .rw[e];exact Int.mul_le_mul_of_nonneg_right (r y d) j
 rw[<- e];exact l x g
def Best.add(h:Best as sq a p)(h2:Best as sq b q)(d:Best as sq (λw=>a w+b w) r)(l:∀ w,0<=a w/\a w<10 ^ 15)(k:∀ w,0<=b w/\b w<10 ^ 15):r<=p+q/\p<=r/\q<=r:=by
 obtain⟨x,D,rfl,I⟩:=h;obtain⟨y,B,rfl,G⟩:=h2;obtain⟨z,g,rfl,j⟩:=d;have e:∀u,pc (λw=>a w+b w) sq u=pc a sq u+pc b sq u:=λu=>Pj ..;have L:∀u,0<=pc a sq u:=λu=>(Tp (λw=>⟨(l w).1,Int.le_of_lt (l w).2⟩) _).1;have J:∀u,0<=pc b sq u:=λu=>(Tp (λw=>⟨(k w).1,Int.le_of_lt (k w).2⟩) _).1;have h1:=I z g;have h2:=G z g;have d:=j x D;have v:=j y B;have N:=J x;have M:=L y;rw[e]at d v ⊢;rw[e]at d v;lia
def Best.zero(h:Best as sq (λ_=>0) p):p=0:=by
 obtain⟨x,a,rfl,d⟩:=h;exact To _
noncomputable def szF(c:Int):D->Option D:=λd=>match d with
 |.int k=>some (.int ((c.fdiv (([35,107,331]:List Int).getD k.toNat 1)).fmod 3))
 |_=>none
def Xj{i:Nat}{tk te:TD}{U:DE}{Z:DZ}{ws:List Str}{j:Nat}{x:Str}{pr:Str->Int}(a:ws.Nodup)(ex:ws[j]?=some x)(l:ws.length<=100)(e:slot U i=Q_ (tabO (ws.take j) pr))(g:∀ Y:EV->Prop,Y (dv (.str x))->tk U Y)(d:∀ Y:EV->Prop,Y (dv (.int (pr x)))->te U Y)(h:Z.nx (setS U i (dO (tabO (ws.take (j+1)) pr)))):dh i tk te U Z:=by
 unfold dh;rw[e];refine d _ (g _ ⟨zaA,by rw[zLm,zaX];lia,?_⟩)
 show Z.nx (setS U i (dO (.dk (kput ((ws.take j).map Sum.inr) (Sum.inr x)) (dput ((ws.take j).map Sum.inr) ((ws.take j).map λw=>.int (pr w)) (Sum.inr x) (.int (pr x))))));rw[z0a pr a ex rfl];exact h
def ne_i{ta tb:TD}{U:DE}{x y:Int}(h1:∀ Y:EV->Prop,Y (dv (.int x))->ta U Y)(h2:∀ Y:EV->Prop,Y (dv (.int y))->tb U Y)(e:x=y):∀M:Bool->Prop,M false->tBo (d2 sNe ta tb) U M:=λM k=>h1 _ (h2 _ ⟨zaR (xg ..),zaR (xg ..),(show M (!eqD (.int x) (.int y)) by rw[bh,e,beq_self_eq_true];exact k)⟩)
def F9{a b:TDb}{U:DE}(e:∀ M:Bool->Prop,M false->a U M)(d:∀ M:Bool->Prop,M false->b U M):∀M:Bool->Prop,M false->bOr a b U M:=λM h=>L1 e d h
def A6(c:Int)(ps:List (Str×Str))(j:ps.length<=3)(a:∀ p∈ps,IsSh p.2):∃shs:List (Str×Nat),shs.map Prod.fst=ps.map Prod.snd/\(∀p∈shs,ShOk p)/\shs.length=ps.length/\(rngD 0 ps.length).filterMap (szF c)=shs.map λp=>.int p.2:=by
 have hl:(ps.map Prod.snd).length=((List.range ps.length).map λk=>((c.fdiv (([35,107,331]:List Int).getD k 1)).fmod 3).toNat).length:=by rw[zLm,zLm,zcW]
 refine⟨(ps.map Prod.snd).zip ((List.range ps.length).map λk=>((c.fdiv (([35,107,331]:List Int).getD k 1)).fmod 3).toNat),List.map_fst_zip (Nat.le_of_eq hl),λp g=>?_,by rw[zbI,<- hl,zfR,zLm],?_⟩
 .obtain⟨h1,h2⟩:=zdT g;obtain⟨q,d,e⟩:=zah.mp h1;obtain⟨k,_,e2⟩:=zah.mp h2;refine⟨e▸a q d,?_⟩;have b2:=zcI (c.fdiv (([35,107,331]:List Int).getD k 1)) (show(0:Int)<3 by decide)
  lia
 show _=List.map ((λn:Nat=>D.int n) ∘ Prod.snd) _;rw[<- zaV,List.map_snd_zip (Nat.le_of_eq hl.symm),zaV];unfold rngD;rw[zbX,<- rh];refine zbO (λf=>List.filterMap f (List.range ps.length)) (funext λk=>?_);have b1:=zbD (c.fdiv (([35,107,331]:List Int).getD k 1)) (show(0:Int)<3 by decide)
 show some (D.int ((c.fdiv (([35,107,331]:List Int).getD (0+(k:Int)).toNat 1)).fmod 3))=some (D.int (((c.fdiv (([35,107,331]:List Int).getD k 1)).fmod 3).toNat:Nat));rw[show(0+(k:Int)).toNat=k by lia,zeT b1]
noncomputable abbrev nn(k:Nat):DE:=List.replicate k none
noncomputable abbrev qE4(ns:List Int)(gs:List Gd)(c:Int)(g:Gd)(l:DE):DE:=q_ (.scr ns)::q_ (.tup (gs.map gD))::q_ (.int c)::q_ (gD g)::l
noncomputable abbrev qE10(ns:List Int)(gs:List Gd)(c:Int)(g:Gd)(shs:List (Str×Nat))(n:Int)(m:Nat)(prH prT:Str->Int)(k:Int)(o:D->EV)(l:DE):DE:=qE4 ns gs c g (some (o (siD shs))::some (o (.lst [.int n]))::q_ (.int m)::some (o (tabO words prH))::some (o (tabO words prT))::q_ (.int k)::l)
noncomputable abbrev qE14(ns:List Int)(gs:List Gd)(c:Int)(g:Gd)(shs:List (Str×Nat))(n:Int)(m:Nat)(prH prT:Str->Int)(k:Int)(o:D->EV)(a b d e:List Str)(l:DE):DE:=qE10 ns gs c g shs n m prH prT k o (some (o (tabO a (λw=>prH w*k)))::some (o (tabO b (λw=>prH w+prT w)))::some (o (tabO d (λ_=>0)))::some (o (tabO e on1))::l)
def z0w(X:AX K mg C)(G:FW P w K mg base 11 "dearest" ["program","table","name","sizes","numbers","most"] [] (Fo C))(u:FW P w K mg base 11 "_law_only" pD [] (Bh C))(F:Fun K "law" "law" (top 51) f fd):FnOk P w K mg base CX0 14 f fd ["_law_script"] (spD K 1 lawT):=by
 have ds:zn ["_law_script","_law_program_here","_law_cell","_law_one","_law_sizes","_law_numbers","_law_most","_law_here","_law_there","_law_by","_law_many","_law_both","_law_none","_law_calls","_law_word","_law_found","_law_table_here","_law_price","_law_rows"] ["_law_script"] (zd (top 51)):=by walk_at "f"
 refine Nz F ds λqZ A outer s H xs S Y hr hl hT=>?_;have hu:=hr.units;refine⟨_,(ze (zx 1 ds.nd (y8 (Z6 X) (hr.e rfl) aR))
   (ze (zx 2 ds.nd (x6 (y8 (xm X) (hr.e rfl) aR) (gw zc zc)))
   (ze (zx 3 ds.nd aR)
   (ze (qb 4 ds.nd (.mk ["_law_k"] ["_law_cell"] [2] (xk X.T.range aR) QG))
   (ze (zx 5 ds.nd (ym (za (y8 (Xb X) (hr.e rfl) (za (y8 (xm X) (hr.e rfl) aR) zb)) zb)))
   (ze (zx 6 ds.nd aR)
   (ze (zx 7 ds.nd (y8 (gq X) (hr.e rfl) aR))
   (ze (zx 8 ds.nd (y8 (gq X) (hr.e rfl) aR))
   (ze (zx 9 ds.nd (yx zc (x6 (y8 (xm X) (hr.e rfl) aR) (gw zc zc))))
   (ze (zx 10 ds.nd qj)
   (ze (zx 11 ds.nd qj)
   (ze (zx 12 ds.nd qj)
   (ze (zx 13 ds.nd qj)
   (ze (wm (xc (Zv X.T.sorted aR)) (zj (i:=14) ds.nd rfl aG) (yj 14) (ze (jt 10 hu aR aR)
    (ze (jt 11 hu aR aR)
    (ze (jt 12 hu aR zc)
    (zm (jt 13 hu aR (Xg X.T.int (za (Cq hu aR zf) zb))))))))
   (ze (zx 15 ds.nd aR)
   (ze (xy 5 (xy 4 (xy 13 (xy 12 (xy 11 (xy 10 (xy 8 (xy 7 (wm (xc (ym (za (z9 7) (za (z9 8) (za aR (za aR (za aR (za aR (za (y8 (Xa X) (hr.e rfl) aR) zb))))))))) (zj (i:=16) ds.nd rfl aG) (yj 16) (ze (zx 17 ds.nd (zg hu (qk G (hr.e rfl) aR) zc))
    (ze (wl (ba (si (y8 (Wx X) (hr.e rfl) aR))) (zm (yg k9)) x8)
    (zm (wn 15 aR)))))))))))))
   (ze (wl (EW.et (Z7 aR (Z7 aR (b9 (Qv aR (Ck X.T.max aR)))))) (zm (yg k9)) x8)
   (ze (wl aR (zm (yg k9)) x8)
   (ze (zx 18 ds.nd (qk u (hr.e rfl) aR))
   (zm (yg (z5e (z5h aR ug) (V6 (Cq hu aR aR)))))))))))))))))))))))),?_⟩
 obtain⟨ns,rfl,nl,h⟩:=hT;refine yc ⟨rfl,ns,rfl,λq hs pg=>⟨zaA,?_⟩⟩;refine wc (ρ':=(q_ (.scr ns)::q_ (.tup (q.map gD))::nn 17)) (by rfl) (yc ⟨rfl,ns,5,rfl,rfl,λc0=>?_⟩)
 refine⟨⟨by decide,by decide,by decide⟩,(show(10 ^ 12:Int)≠0 by decide),zaA,?_⟩
 refine wc (ρ':=(q_ (.scr ns)::q_ (.tup (q.map gD))::q_ (.int (c0.fmod (10 ^ 12)))::nn 16)) (by rfl) ?_
 generalize c0.fmod (10 ^ 12)=c;obtain⟨l0,g,hg,eg⟩:=dz (f:=gD) pg.n1 (c.fdiv 7);have W:=pg.ok g hg;have f1:(rg q).map Prod.snd=q.map gD:=by unfold rg;rw[zaV];rfl
 have f3:D.tup (g.1.ps.map prD)=pmD (g.1.ps.map λp=>(p.1,.str p.2)):=by unfold pmD;rw[zaV];rfl
 obtain⟨shs,e1,Q,sl,es⟩:=A6 c g.1.ps W.n3 W.sh;refine yc ⟨fdl,l0,Zr eg ⟨zaA,?_⟩⟩;refine wc (ρ':=(qE4 ns q c g (nn 15))) (by rfl) (yc (x3 (rngD 0 g.1.ps.length) (λM J=>?_) (szF c) (by rw[kg];have:=W.n3;lia) (λd hd=>?_) ⟨zaA,?_⟩))
 .refine(show _/\_/\M (rngD 0 (((g.1.ps.map prD).length:Nat):Int).toNat) from ?_);rw[zLm];have:=W.n3;exact⟨by lia,by lia,J⟩
 .obtain⟨i,e⟩:=zbJ hd;obtain⟨hi,rfl⟩:=uv e;have n3:=W.n3;have:i=0\/i=1\/i=2:=by lia
  rcases this with rfl|rfl|rfl
  all_goals exact⟨λ_=>⟨rfl,rfl,fdl,(show(3:Int)≠0 by decide),zaA,rfl⟩,nofun⟩
 rw[es];refine wc (ρ':=(qE4 ns q c g (Q_ (siD shs)::nn 14))) (by rfl) (yc ⟨rfl,ns,6,rfl,rfl,λc6=>⟨rfl,c6,rfl,λn=>⟨rfl,rfl,zaA,?_⟩⟩⟩)
 refine wc (ρ':=(qE4 ns q c g (Q_ (siD shs)::Q_ (.lst [.int n])::nn 13))) (by rfl) (yc ⟨fdl,(show(40:Int)≠0 by decide),zaA,?_⟩)
 obtain⟨m,m1,m2,em⟩:∃m:Nat,1<=m/\m<=42/\3+(c.fdiv 997).fmod 40=(m:Int):=by
  have b1:=zbD (c.fdiv 997) (show(0:Int)<40 by decide)
  have b2:=zcI (c.fdiv 997) (show(0:Int)<40 by decide)
  exact⟨(3+(c.fdiv 997).fmod 40).toNat,by lia,by lia,by lia⟩
 refine wc (ρ':=(qE4 ns q c g (Q_ (siD shs)::Q_ (.lst [.int n])::q_ (.int m)::nn 12))) (by rw[<- em];rfl) (yc ⟨rfl,ns,0,rfl,by decide,λprH B=>⟨zaA,?_⟩⟩)
 refine wc (ρ':=(qE4 ns q c g (Q_ (siD shs)::Q_ (.lst [.int n])::q_ (.int m)::Q_ (tabO words prH)::nn 11))) (by rfl) (yc ⟨rfl,ns,3,rfl,by decide,λl a4=>⟨zaA,?_⟩⟩)
 refine wc (ρ':=(qE4 ns q c g (Q_ (siD shs)::Q_ (.lst [.int n])::q_ (.int m)::Q_ (tabO words prH)::Q_ (tabO words l)::nn 10))) (by rfl) (yc ⟨rfl,ns,7,rfl,rfl,λc7=>?_⟩)
 obtain⟨k,k1,k2,ek⟩:∃k:Int,0<=k/\k<=10 ^ 14/\1+c7.fmod (10 ^ 14)=k:=by
  have b1:=zbD c7 (show(0:Int)<10 ^ 14 by decide)
  have b2:=zcI c7 (show(0:Int)<10 ^ 14 by decide)
  exact⟨_,by lia,by lia,rfl⟩
 refine⟨⟨by decide,by decide,by decide⟩,(show(10 ^ 14:Int)≠0 by decide),zaA,?_⟩
 refine wc (ρ':=(qE10 ns q c g shs n m prH l k dO (nn 9))) (by rw[<- ek];rfl) (yc ⟨zaA,yc ⟨zaA,yc ⟨zaA,yc ⟨zaA,?_⟩⟩⟩⟩)
 refine wc (ρ':=(qE14 ns q c g shs n m prH l k dO [] [] [] [] (nn 5))) (by rfl) (yo ⟨by decide,words,rfl,λws pw=>⟨zaA,?_⟩⟩)
 have nd:ws.Nodup:=pw.nodup_iff.mpr Y6;have l7:ws.length=7:=pw.length_eq;refine⟨λi U=>∃a,U=(qE14 ns q c g shs n m prH l k dO (ws.take i) (ws.take i) (ws.take i) (ws.take i) (a::nn 4)),⟨none,rfl⟩,?_,?_⟩
 .rintro i d _ hd ⟨a,rfl⟩;rw[zai]at hd;obtain⟨x,ex,rfl⟩:=zar.mp hd;have hi:=(zag.mp ex).1;have hx:=pw.mem_iff.mp (zan ex);have hl:∀pr:Str->Int,((ws.take i).map λw=>D.int (pr w)).length<=100000:=λpr=>by rw[zLm,zaX];lia
  have mo:IntMulOk (prH x) k:=zdE (intBits_le_64 (by have:=B x;lia) (by have:=B x;lia))
  refine uw (yo (Xj nd ex aD (by rfl) aA (λY h=>Zs (Zo hx) ⟨mo,h⟩) ?_))
  dsimp only
  refine wc (ρ':=(qE14 ns q c g shs n m prH l k dO (ws.take (i+1)) (ws.take i) (ws.take i) (ws.take i) (q_ (.str x)::nn 4))) (by rfl) ?_
  refine(yo (Xj (pr:=λw=>prH w+l w) nd ex aD (by rfl) aA (λY h=>Zs (Zo hx) (Zs (Zo hx) h)) ?_))
  dsimp only
  refine wc (ρ':=(qE14 ns q c g shs n m prH l k dO (ws.take (i+1)) (ws.take (i+1)) (ws.take i) (ws.take i) (q_ (.str x)::nn 4))) (by rfl) ?_
  refine(yo (Xj (pr:=λ_=>0) nd ex aD (by rfl) aA aA ?_))
  dsimp only
  refine(show dh _ _ _ (qE14 ns q c g shs n m prH l k dO (ws.take (i+1)) (ws.take (i+1)) (ws.take (i+1)) (ws.take i) (q_ (.str x)::nn 4)) _ from ?_);refine Xj (pr:=on1) nd ex aD (by rfl) aA (λY h=>cs h) ⟨q_ (.str x),rfl⟩
 rintro _ ⟨N,rfl⟩;rw[zLm,zbU]
 dsimp only
 refine yc ⟨rfl,rfl,zaA,?_⟩;obtain⟨sq,rd⟩:=Ad (C:=C) pg hg m1 aD (c:=n) e1 Q
 refine wc (ρ':=(qE14 ns q c g shs n m prH l k dO ws ws ws ws (N::Q_ (.lst [])::nn 3))) (by rfl) (yo (show sFor _ _ _ (qE14 ns q c g shs n m prH l k dv ws ws ws ws (N::Q_ (.lst [])::nn 3)) _ from⟨rfl,prH,rfl,λus pu=>⟨rfl,rfl,zaA,?_⟩⟩))
 dsimp only
 have tb:∀(i:Nat) d,(([tabO words prH,tabO words l,tabO ws (λw=>prH w*k),tabO ws (λw=>prH w+l w),tabO ws (λ_=>0),tabO ws on1,tabO us prH]:List D))[i]?=some d->∃pr,(([prH,l,(λw=>prH w*k),(λw=>prH w+l w),(λ_=>0),on1,prH]:List (Str->Int)))[i]?=some pr/\TabP pr d/\L6 pr:=λi d e=>by
  have kH:L6 prH:=λw _=>(B w).1
  match i,e with
  |0,e=>cases e;exact⟨_,rfl,d9 (List.Perm.refl _) _,kH⟩
  |1,e=>cases e;exact⟨_,rfl,d9 (List.Perm.refl _) _,λw _=>(a4 w).1⟩
  |2,e=>cases e;exact⟨_,rfl,d9 pw _,λw _=>Int.mul_nonneg (B w).1 k1⟩
  |3,e=>cases e;exact⟨_,rfl,d9 pw _,λw _=>Int.add_nonneg (B w).1 (a4 w).1⟩
  |4,e=>cases e;exact⟨_,rfl,d9 pw _,λw _=>Int.le_refl _⟩
  |5,e=>cases e;exact⟨_,rfl,d9 pw _,λw _=>by unfold on1;split <;> decide⟩
  |6,e=>cases e;exact⟨_,rfl,d9 pu _,kH⟩
  |i+7,e=>cases e
 refine⟨λi U=>∃(fs:List Int)(a b:Option EV),fs.length=i/\(∀(j:Nat) p pr,fs[j]?=some p->(([prH,l,(λw=>prH w*k),(λw=>prH w+l w),(λ_=>0),on1,prH]:List (Str->Int)))[j]?=some pr->Best (ins n shs) sq pr p)/\U=(qE14 ns q c g shs n m prH l k dv ws ws ws ws [N,Q_ (.lst (fs.map D.int)),a,b,none]),⟨[],none,none,rfl,nofun,rfl⟩,?_,?_⟩
 .rintro i d _ hd ⟨fs,a,b,lf,R,rfl⟩;obtain⟨pr,ep,tp,tk⟩:=tb i d hd;refine uw (show sSeq _ _ (qE14 ns q c g shs n m prH l k dv ws ws ws ws [N,Q_ (.lst (fs.map D.int)),q_ d,b,none]) _ from yc ⟨⟨zaA,zaA,zaA,zaA,zaA,zaA,zaA⟩,rfl,rg q,g.1.nm,.str g.1.nm,psD g,.tup [.str g.1.sh,.tup (g.1.sz.map D.int)],g.2,shs,n,m,pr,d,sq,by rw[f1];rfl,tp,tk,by unfold rg;rw[zLm];have:=pg.ln;lia,λp hp=>?_,?_,by rw[<- Nq];exact W.pure,?_,Q,by have:=W.n3;lia,λa ha=>?_,λa ma a5=>⟨⟨zaA,Ni Q ma,zaA⟩,zaA,?_⟩⟩)
  .obtain⟨g,_,rfl⟩:=zah.mp hp;exact⟨_,rfl⟩
  .rw[<- Nq];exact S9 pg.nd hg
  .rw[show(psD g).map Prod.snd=(g.1.ps.map Prod.snd).map D.str by unfold psD;rw[zaV,zaV];rfl,<- e1,zaV]
   rfl
  .have r:=rd a ha;refine⟨zak r.le aD,r.wd,λM J=>?_⟩
   obtain⟨v,w,cl,_,_,t⟩:=r.tr;rw[f1];exact t M (J v w _)
  refine(show sSeq _ _ (qE14 ns q c g shs n m prH l k dv ws ws ws ws [N,Q_ (.lst (fs.map D.int)),q_ d,q_ (.int (pc pr sq a)),none]) _ from yo (dg false (λM z=>⟨rfl,_,rfl,z⟩) nofun λ_=>ju ?_))
  dsimp only
  refine u6 (S:=fs.map D.int) rfl ⟨zaA,by rw[zLm];have:=(zag.mp ep).1;rw[lf];exact zak (Nat.le_of_lt this) (show 7<=100000 by decide),fs++[pc pr sq a],q_ d,q_ (.int (pc pr sq a)),by rw[zLa,lf];rfl,λj p qr ej eq=>?_,by rw[zMa];rfl⟩
  by_cases hj:j<fs.length
  .rw[zaG hj]at ej;exact R j p qr ej eq
  rw[zaF aD]at ej
  have e0:j-fs.length=0:=by
   have:=(zag.mp ej).1;simp at this;lia
  rw[e0]at ej;cases ej;have:j=i:=by lia
  subst this;rw[ep]at eq;cases eq;exact⟨a,ma,rfl,a5⟩
 rintro _ ⟨fs,a,b,lf,R,rfl⟩;obtain⟨I,O,v2,V,v4,L,Z,rfl⟩:=len7 (show fs.length=7 from lf);have b0:=R 0 I _ rfl rfl;have b5:=R 5 L _ rfl rfl;have q2:=b0.mul (R 2 v2 _ rfl rfl) k1;obtain⟨q3,q4,q5⟩:=b0.add (R 1 O _ rfl rfl) (R 3 V _ rfl rfl) B a4;have q6:=(R 4 v4 _ rfl rfl).zero;have q7:=b0.same (R 6 Z _ rfl rfl);have q0:0<=I/\I<=42*10 ^ 15:=by
  obtain⟨x,mx,rfl,_⟩:=b0;have h1:=Tp (pr:=prH) (b:=10 ^ 15) (λw=>⟨(B w).1,Int.le_of_lt (B w).2⟩) ((sq x).map Prod.snd);have h2:=(rd x mx).le;rw[zLm]at h1;unfold pc;lia
 have q8:L<=m:=by
  obtain⟨x,mx,rfl,_⟩:=b5;have h2:=(rd x mx).le;have h3:=List.length_filter_le qo (sq x);show tot on1 _<=_;rw[Vr];lia
 have mo:IntMulOk I k:=zdE (intBits_le_64 aD aD)
 refine(show sSeq _ _ (qE14 ns q c g shs n m prH l k dv ws ws ws ws [N,Q_ (.lst [.int I,.int O,.int v2,.int V,.int v4,.int L,.int Z]),a,b,none]) _ from yo (dg false (λM z=>L1 (ne_i (x:=v2) (y:=I*k) aA (λY h=>⟨mo,h⟩) q2) (F9 (λM z=>(show M (decide (V > I+O)) by rw[zbS aD];exact z)) (λM z=>(show M (decide (V<if O > I then O else I)) by rw[zbS (by split <;> lia)];exact z))) z) nofun λ_=>ju ?_))
 dsimp only
 refine(show sSeq _ _ (qE14 ns q c g shs n m prH l k dv ws ws ws ws [N,Q_ (.lst [.int I,.int O,.int v2,.int V,.int v4,.int L,.int Z]),a,b,none]) _ from yo (dg false (λM z=>L1 (ne_i (x:=v4) (y:=0) aA aA q6) (F9 (ne_i (x:=Z) (y:=I) aA aA q7) (λM z=>(show M (decide (L > m)) by rw[zbS aD];exact z))) z) nofun λ_=>ju ?_))
 dsimp only
 refine(show sSeq _ _ (qE14 ns q c g shs n m prH l k dv ws ws ws ws [N,Q_ (.lst [.int I,.int O,.int v2,.int V,.int v4,.int L,.int Z]),a,b,none]) _ from yc ⟨⟨zaA,zaA,zaA,zaA,zaA,zaA,zaA⟩,rfl,rg q,g.1.nm,g.1.ps,shs,n,m,by rw[f1,<- f3];rfl,e1,Q,by have:=W.n3;lia,⟨zaA,zaA,(show sRet _ (qE14 ns q c g shs n m prH l k dv ws ws ws ws [N,Q_ (.lst [.int I,.int O,.int v2,.int V,.int v4,.int L,.int Z]),a,b,q_ .non]) _ from⟨λ_=>⟨zaA,h⟩,nofun⟩)⟩,λia ea=>?_⟩)
 have ma:ia∈ins n shs:=by rw[ea];exact zao
 obtain⟨v,w,cl,pl,lc,t⟩:=(rd ia ma).tr;refine⟨v,w,_,cl,⟨pl,zaA,(show sRet _ (qE14 ns q c g shs n m prH l k dv ws ws ws ws [N,Q_ (.lst [.int I,.int O,.int v2,.int V,.int v4,.int L,.int Z]),a,b,q_ (.lst cl)]) _ from⟨nofun,λ_=>⟨zaR (xg ..),zaR (xg ..),zaA,?_⟩⟩)⟩,λM J=>by rw[f1];exact t M J⟩
 have e5:L=(cl.length:Int):=by
  obtain⟨x,mx,rfl,_⟩:=b5;rw[ea]at mx;cases zaC.mp mx;rw[lc];exact Vr _
 rw[show eqD (.int L) (.int (cl.length:Int))=true by rw[bh,e5];exact beq_self_eq_true _]
 exact h
noncomputable def zN:List Str:=["ValueError","all","bool","dict","enumerate","int","isinstance","len","list","max","min","range","reversed","set","sorted","str","sum","tuple","zip"]
def AL(K:W.Frag):List (Str×Nat)->Prop
 |[]=>True
 |p::l=>(∃f fd,Fun K p.1 p.1 (top p.2) f fd/\W.nsIn K mainGlobals p.1=some (some (.ref f)))/\AL K l
def al_mk{K:W.Frag}{x:Str}{i:Nat}{l:List (Str×Nat)}{f:Addr}{j y:Option Addr}{e:Array (Option Value)}{r kV u g d v:Value}(a:W.nsIn K mainGlobals x=some (some (.ref f)))(q:K.lookup f=some ⟨r,j,.func (W.fnOf x x (vc (top i)) (yr (top i)) (zd (top i)) .none kV u g y d v),e⟩)(c:W.codeIn K d x=true)(k:W.keepIn K (.ref f)=true)(h:AL K l):AL K ((x,i)::l):=⟨⟨_,_,Nr q c k,a⟩,h⟩
theorem z3d{K:W.Frag}{h:Heap}{mg:Str->Option Value}(X:K.In h)(G:h.Ns mainGlobals mg):∀{l:List (Str×Nat)},AL K l->∀x i,(x,i)∈l->∃f fd,Fun K x x (top i) f fd/\mg x=some (.ref f)
 |_::_,⟨⟨f,fd,F,a⟩,q⟩,x,i,h=>by
  rcases zam.mp h with h|h
  .cases h
   exact⟨f,fd,F,W.mg_of X G a⟩
  exact z3d X G q x i h
def Ma(K:W.Frag)(C:Addr):List (Str×Str×Nat)->Prop
 |[]=>True
 |p::l=>(∃f fd,Fun K p.1 p.2.1 (mth p.2.2) f fd/\Meth K C p.1 f)/\Ma K C l
def ma_mk{K:W.Frag}{C:Addr}{x q:Str}{i:Nat}{l:List (Str×Str×Nat)}{f:Addr}{r z:Option Addr}{e:Array (Option Value)}{u kV v g d y:Value}(b:W.findIn K (.ref C) x=some (some (.ref f)))(j:W.isFn K (.ref f)=true)(a:K.lookup f=some ⟨u,r,.func (W.fnOf x q (vc (mth i)) (yr (mth i)) (zd (mth i)) .none kV v g z d y),e⟩)(c:W.codeIn K d q=true)(k:W.keepIn K (.ref f)=true)(h:Ma K C l):Ma K C ((x,q,i)::l):=⟨⟨_,_,Nr a c k,b,j,k⟩,h⟩
theorem z1e{K:W.Frag}{C:Addr}:∀{l:List (Str×Str×Nat)},Ma K C l->∀x q i,(x,q,i)∈l->∃f fd,Fun K x q (mth i) f fd/\Meth K C x f
 |_::_,⟨r,q'⟩,x,q,i,h=>by
  rcases zam.mp h with h|h
  .cases h
   exact r
  exact z1e q' x q i h
def l4{α:Type}{us:List α}(h:us.length=4):∃a b c d,us=[a,b,c,d]:=match us,h with
 |[a,b,c,d],_=>⟨a,b,c,d,rfl⟩
def len6{α:Type}{l:List α}(h:l.length=6):∃a b c d e f,l=[a,b,c,d,e,f]:=match l,h with
 |[a,b,c,d,e,f],_=>⟨a,b,c,d,e,f,rfl⟩
def all_mk{l:W.OpenLaw}{w:World}{K:W.Frag}{h:Heap}{mg:Str->Option Value}{fa:Addr}(g:K.In h)(G:h.Ns mainGlobals mg)(f0:mg "law" = some (.ref fa)){y:Addr}{Z u:Option Addr}{N:Array (Option Value)}{a5 k q j d r:Value}{ft Tt:Addr}{nt:Nat}{I:Tok}{R c1:Option Addr}{L e4:Array (Option Value)}{a0 a6 a8 O z b0:Value}{fe Td:Addr}{nd:Nat}{J:Tok}{V c0:Option Addr}{M e5:Array (Option Value)}{a4 a7 a9 Q B b5:Value}{C:Addr}{tq tr ti:Tok}{aW:Addr}{e7:Option Addr}{nW:Nat}{e6:Array (Option Value)}{e3 e0 d5 d4 d3 d0 c8:Tok}(g4:W.nsIn K mainGlobals "law" = some (some (.ref y)))(e8:K.lookup y=some ⟨a5,Z,.func (W.fnOf "law" "law" (vc (top 51)) (yr (top 51)) (zd (top 51)) .none k q j u d r),N⟩)(f4:W.codeIn K d "law" = true)(e9:W.keepIn K (.ref y)=true)(f5:W.nsIn K mainGlobals "trace" = some (some (.ref ft)))(lt:K.lookup ft=some ⟨a0,R,.func (W.fnOf "trace" "trace" (vc (top 17)) (yr (top 17)) (zd (top 17)) (.ref Tt) a6 a8 O c1 z b0),L⟩)(f2:W.codeIn K z "trace" = true)(kt:W.keepIn K (.ref ft)=true)(et:K.lookup Tt=some ⟨.type "tuple",none,.seq #[.int 1000 I] nt,e4⟩)(f8:W.nsIn K mainGlobals "dearest" = some (some (.ref fe)))(ld:K.lookup fe=some ⟨a4,V,.func (W.fnOf "dearest" "dearest" (vc (top 27)) (yr (top 27)) (zd (top 27)) (.ref Td) a7 a9 Q c0 B b5),M⟩)(f3:W.codeIn K B "dearest" = true)(kd:W.keepIn K (.ref fe)=true)(ed:K.lookup Td=some ⟨.type "tuple",none,.seq #[.int 1000 J] nd,e5⟩)(aC:W.nsIn K mainGlobals "Run" = some (some (.ref C)))(pg:W.plainGet K C Str.empty=true)(hd:W.hasDictIn K C=true)(po:W.plainOver K C=true)(sa:W.findIn K (.ref C) "__setattr__" = some (some (.builtin "object.__setattr__")))(mk:W.makesIn K C=true)(kc:W.keepIn K (.ref C)=true)(bQ:W.nsIn K mainGlobals "MOST_CALLS" = some (some (.int 20 tq)))(bR:W.nsIn K mainGlobals "MOST_SIZE" = some (some (.int 100 tr)))(bI:W.nsIn K mainGlobals "MOST_INPUTS" = some (some (.int 243 ti)))(bW:W.nsIn K mainGlobals "WORDS" = some (some (.ref aW)))(lW:K.lookup aW=some ⟨.type "tuple",e7,.seq #[.str "call" e3,.str "make" e0,.str "sum" d5,.str "let" d4,.str "less" d3,.str "open" d0,.str "hold" c8] nW,e6⟩)(lA:AL K fL)(mA:Ma K C mL)(nf:∀ x∈fNames,W.findIn K (.ref C) x=some none)(zA:∀ x∈zN,W.nsIn K mainGlobals x=some none) :
  ∃fd:FuncData,(∀(s:Shared)(v:Value),BindsTo s fd ⟨[v],[]⟩ [("_law_script",v)])/\∀base:Heap,K.In base->base.Ns mainGlobals mg->FnOk l.prog w K mg base CX0 14 fa fd ["_law_script"] (spD K 1 lawT):=by
 have e:=f0.symm.trans (W.mg_of g G g4);cases e;have g5:=Nr (st:=top 51) e8 f4 e9;refine⟨W.fnOf "law" "law" (vc (top 51)) (yr (top 51)) (zd (top 51)) .none k q j u d r,λs v=>.of_eq rfl,λbase _ _=>?_⟩;have X:AX K mg C:=⟨by constructor <;> exact W.mg_none_of g G (zA _ aB),⟨⟨pg,hd,po,sa⟩,nf⟩,⟨⟨_,.int 20,W.mg_of g G bQ,⟨_,rfl⟩,λ_ _=>rfl⟩,⟨_,.int 100,W.mg_of g G bR,⟨_,rfl⟩,λ_ _=>rfl⟩⟩,z3d g G lA,z1e mA⟩
 have c3:=Qt (P:=l.prog) (w:=w) (base:=base) X;have c2:=Ce (P:=l.prog) (w:=w) (base:=base) X;have Ft1:FunV K "trace" "trace" (top 17) ft (.int 1000 I) _:=⟨⟨Tt,_,nt,a0,R,a6,a8,O,c1,z,b0,L,rfl,lt,f2,et,rfl⟩,kt⟩;have c6:=Ji X (Xc X c2) (z5c X (Jm X (C8 X c3))) mk kc (W.mg_of g G aC) Ft1;have D:FD l.prog w K mg base 10 "trace" ["program","name","args","most"] (gi C RT FzT):=⟨ft,_,c6,Ft1.binds (S:=[]) (λT' kV f1 pm an qZ ct us hl=>by rw[zbT]at hl;obtain⟨_,_,_,_,rfl⟩:=l4 hl;exact⟨_,rfl,rfl⟩),kt,W.mg_of g G f5⟩
 have Z2:Con2 K mg:=⟨Jh (ws:=words) (W.mg_of g G bW) lW rfl rfl (by rw[zbC];show(7:Nat)<=_;decide) (.cons ⟨_,rfl⟩ (.cons ⟨_,rfl⟩ (.cons ⟨_,rfl⟩ (.cons ⟨_,rfl⟩ (.cons ⟨_,rfl⟩ (.cons ⟨_,rfl⟩ (.cons ⟨_,rfl⟩ .nil))))))),⟨_,.int 243,W.mg_of g G bI,⟨_,rfl⟩,λ_ _=>rfl⟩⟩
 have Fd:FunV K "dearest" "dearest" (top 27) fe (.int 1000 J) _:=⟨⟨Td,_,nd,a4,V,a7,a9,Q,c0,B,b5,M,rfl,ld,f3,ed,rfl⟩,kd⟩;have c7:=Qr X Z2 (Wu X).fw (Wv X (Wt X (Uq X).fw).fw).fw D Fd;have a:FW l.prog w K mg base 11 "dearest" ["program","table","name","sizes","numbers","most"] [] (Fo C):=⟨fe,_,[],c7,Fd.binds (S:=[]) (λT' kV f1 pm an qZ ct us hl=>by rw[zbT]at hl;obtain⟨_,_,_,_,_,_,rfl⟩:=len6 hl;exact⟨_,rfl,rfl⟩),.nil,kd,W.mg_of g G f8⟩
 exact z0w X a (Ur X D).fw g5
end ZZ
open PySem PySem.W PyProof.Rows
set_option maxRecDepth 100000 in
set_option maxHeartbeats 0 in
theorem PySem.Challenge.cw_toll_k77_prices_times_a_number_holds : PySem.Challenge.rw_toll_k77_prices_times_a_number.Holds := by
 refine ZZ.opened ?_
 k_fill
 refine ZZ.walkD (l:=PySem.Challenge.rw_toll_k77_prices_times_a_number) (k:=14) (x:="_law_script") rfl rfl ⟨rfl,by decide,by decide⟩ (λw h Y=>PySem.W.kIn_of Y) ?F
 case F =>
  intro w mg g h e G d
  refine' ZZ.all_mk e G d ?a0 ?a1 ?a2 ?a3 ?a4 ?lt ?a5 ?kt ?et ?a6 ?ld ?a7 ?kd ?ed ?aC ?pg ?hd ?po ?sa ?mk ?kc ?bQ ?bR ?bI ?bW ?lW ?lA ?mA ?nf ?zA
  case a0 | a4 | a6 | aC=>show _=_; k_is
  case lA =>
   repeat refine ZZ.al_mk (by k_is) (by k_is) (by k_is) (by k_is) ?_
   exact zaA
  case mA =>
   repeat refine ZZ.ma_mk (by k_is) (by k_is) (by k_is) (by k_is) (by k_is) ?_
   exact zaA
  case nf =>
   intro x a
   simp only [ZZ.fNames,zam,zaS,zdK] at a
   repeat' rcases a with rfl | a
   all_goals first | k_is | (subst a; k_is)
  case zA =>
   intro x a
   simp only [ZZ.zN,zam,zaS,zdK] at a
   repeat' rcases a with rfl | a
   all_goals first | k_is | (subst a; k_is)
  case a1 | a2 | a3 | lt | a5 | kt | et | ld | a7 | kd | ed | pg | hd | po | sa | mk | kc | bQ | bR | bI | bW | lW=>k_is
