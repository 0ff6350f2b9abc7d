import PyProof.Rows.All
import KE.IntBitsLaws
import KE.KDictOf
import KE.KIsAll
import KE.KLam
import KE.KNestM
import PySem.Challenge.RW_toll_k50_paths_in_order
noncomputable section
set_option Elab.async false
set_option linter.all false
def zaa:=@PySem.wpAny_bind
def zab:=@PySem.wpAny_pure
def zac:=@PySem.Heap.get?_push_of_some
def zad:=@PySem.Heap.get?_push_size
def zae:=@PySem.Heap.lt_size
def zaf:=@List.getElem?_eq_getElem
def zag:=@List.getElem?_eq_some_iff
def zah:=@List.mem_map
def zai:=@List.getElem?_map
def zaj:=@Nat.le_refl
def zak:=@Nat.le_trans
def zal:=@List.mem_cons_of_mem
def zam:=@List.mem_cons
def zan:=@List.mem_of_getElem?
def zao:=@List.mem_cons_self
def zap:=@List.size_toArray
def zaq:=@List.getD_eq_getElem?_getD
def zar:=@Option.map_eq_some_iff
def zas:=@List.mem_append
def zaA:=@trivial
def zaB:=@Nat.le_of_ble_eq_true
def zaC:=@List.getElem?_set_ne
def zaD:=@Nat.pow_le_pow_right
def zaE:=@List.mem_append_right
def zaF:=@List.length_set
def zaG:=@List.map_cons
def zaH:=@List.not_mem_nil
def zaI:=@List.mem_append_left
def zaJ:=@if_neg
def zaK:=@List.append_nil
def zaL:=@List.getElem?_set_self
def zaM:=@if_pos
def zaN:=@List.mem_singleton
def zaO:=@List.nodup_append
def zaP:=@decide_eq_false
def zaQ:=@Nat.le_max_right
def zaR:=@List.nodup_cons
def zaS:=@beq_eq_false_iff_ne
def zaT:=@Option.some.inj
def zaU:=@Nat.lt_of_lt_of_le
def zaV:=@PySem.sizeLine_eq
def zaW:=@Nat.le_max_left
def zaX:=@decide_eq_true
def zaY:=@Nat.ne_of_lt
def zaZ:=@List.map_map
def zbA:=@Nat.lt_of_le_of_lt
def zbB:=@List.flatMap_cons
def zbC:=@beq_self_eq_true
def zbD:=@List.getElem?_append_right
def zbE:=@Bool.false_ne_true
def zbF:=@List.getElem?_append_left
def zbG:=@Nat.zero_le
def zbH:=@List.length_replicate
def zbI:=@Bool.and_eq_true
def zbJ:=@List.length_singleton
def zbK:=@Nat.succ_le_succ
def zbL:=@List.filterMap_cons
def zbM:=@or_false
def zbN:=@List.append_assoc
def zbO:=@List.getElem?_replicate
def zbP:=@List.zip_cons_cons
def zbQ:=@List.lookup_cons
def zbR:=@List.flatMap_nil
def zbS:=@List.cons_ne_nil
def zbT:=@PySem.wpAny_newObj_type
def zbU:=@of_decide_eq_true
def zbV:=@PySem.wpAny_setField_rec
def zbW:=@PySem.wpAny_field
def zbX:=@PySem.wpAny_callSpecial?_slot
def zbY:=@PySem.wpAny_call_entry
def zbZ:=@congrArg
def zcA:=@List.mem_filter
def zcB:=@List.mem_map_of_mem
def zcC:=@List.length_take
def zcD:=@List.nodup_nil
def zcE:=@List.filter_cons
def zcF:=@List.filterMap_map
def zcG:=@List.length_zip
def zcH:=@PySem.wpAny_holding
def zcI:=@List.eq_nil_of_length_eq_zero
def zcJ:=@Nat.le_succ
def zcK:=@PySem.mem_of_lookup
def zcL:=@List.replicate_succ
def zcM:=@List.getElem?_eq_none
def zcN:=@List.filterMap_eq_map
def zcO:=@of_eq_true
def zcP:=@PySem.wpAny_pyIter_tuple
def zcQ:=@Array.length_toList
def zcR:=@PySem.wpAny_dictEntries
def zcS:=@Nat.lt_irrefl
def zcT:=@PySem.Heap.size_push
def zcU:=@PySem.wpAny_seqItems
def zcV:=@List.getElem?_zip_eq_some
def zcW:=@List.drop_eq_getElem_cons
def zcX:=@Nat.lt_or_ge
def zcY:=@Nat.eq_of_beq_eq_true
def zcZ:=@PySem.wpAny_typeNameOfWhole_itemiter
def zdA:=@True.intro
def zdB:=@PySem.wpAny_Call_Name_kw
def zdC:=@List.length_drop
def zdD:=@PySem.F.slot_dict_itemiterator_next
def zdE:=@List.forall_mem_cons
def zdF:=@PySem.W.mg_none_of
def zdG:=@List.flatten_cons
def zdH:=@PySem.wpAny_pyIter_list
def zdI:=@PyProof.Rows.callWith_type1
def zdJ:=@Or.inr
def zdK:=@PySem.F.slot_tuple_iterator_next
def zdL:=@List.getElem?_zipWith
def zdM:=@Sum.inr.inj
def zdN:=@PySem.wpAny_typeNameOf_itemiter
def zdO:=@List.getElem?_of_mem
def zdP:=@Option.isSome_iff_exists
def zdQ:=@Int.toNat_natCast
def zdR:=@List.find?_cons
def zdS:=@PySem.wpAny_dictEpoch
def zdT:=@Nat.not_lt_zero
def zdU:=@List.foldl_append
def zdV:=@List.any_cons
def zdW:=@List.getElem?_cons_succ
def zdX:=@PySem.F.plainAttrs_list
def zdY:=@Nat.lt_succ_self
def zdZ:=@List.getElem_mem
def zeA:=@List.take_length
def zeB:=@Nat.le_add_right
def zeC:=@List.drop_of_length_le
def zeD:=@of_decide_eq_false
def zeE:=@PySem.W.kia_one
def zeF:=@Nat.pow_succ
def zeG:=@PySem.wpAny_truthy_bool
def zeH:=@beq_iff_eq
def zeI:=@List.take_add_one
def zeJ:=@Or.inl
def zeK:=@Array.getElem?_eq_some_iff
def zeL:=@Bool.and_eq_true_iff
def zeM:=@List.mem_of_mem_drop
def zeN:=@List.getElem_inj
def zeO:=@PySem.IntMulOk.of_left
def zeP:=@List.length_zipWith
def zeQ:=@List.length_pos_iff
def zeR:=@Nat.ne_of_gt
def zeS:=@PySem.codeAny_mono
def zeT:=@PySem.F.args_tuple_add_2
def zeU:=@PySem.call_meets
def zeV:=@List.map_nil
def zeW:=@List.eq_of_mem_replicate
def zeX:=@PySem.wpAny_passesOwn
def zeY:=@PySem.F.entry_tuple_add
def zeZ:=@PySem.tupleKind_room_in1
def zfA:=@Bool.false_eq_true
def zfB:=@PySem.F.slot_tuple_add
def zfC:=@PySem.Calls.callWith_builtin
def zfD:=@List.take_of_length_le
def zfE:=@PySem.wpAny_isOneOf_itemiter
def zfF:=@List.append_eq_nil_iff
def zfG:=@if_true
def zfH:=@List.length_range
def zfI:=@Nat.le_succ_of_le
def zfJ:=@Nat.max_le
def zfK:=@Array.getElem?_toList
def zfL:=@List.filterMap_append
def zfM:=@PySem.F.slot_dict_pop
def zfN:=@PySem.wpAny_notOrdered_dict
def zfO:=@PySem.wpAny_isInstance
def zfP:=@List.cons_append
def zfQ:=@PySem.Paired.length
def zfR:=@if_false
def zfS:=@PySem.wpAny_attempt
def zfT:=@LawfulBEq.eq_of_beq
def zfU:=@PySem.F.slot_int_rmul
def zfV:=@PySem.F.slot_zip_next
def zfW:=@And.intro
def zfX:=@Nat.le_of_lt
def zfY:=@Nat.add_comm
def zfZ:=@Nat.min_self
set_option maxRecDepth 100000
set_option maxHeartbeats 8000000
set_option exponentiation.threshold 5000
set_option compiler.extract_closed false
set_option bootstrap.genMatcherCode false
def zLa.{u} {α:Type u} {a b:List α}:(a++b).length=a.length+b.length:=List.length_append
def zLc.{u} {α:Type u} {x:α} {a:List α}:(x::a).length=a.length+1:=rfl
def zLn.{u} {α:Type u}:([]:List α).length=0:=rfl
def zLm.{u,v} {α:Type u} {β:Type v} {a:List α} (f:α->β):(a.map f).length=a.length:=List.length_map f
def zMa.{u,v} {α:Type u} {β:Type v} {f:α->β} {d a:List α}:(d++a).map f=d.map f++a.map f:=List.map_append
set_option hygiene false in
local macro_rules | `(tactic| walk_at "t")=>`(tactic| (intro cl C fp s H; first | exact zw (i:=0) (by show ((_:List Str)++_).Nodup; decide +kernel) rfl (by walk_at "o") | exact ww (K0:=K) (n:=2) (by rfl) (by rfl) (y7 (zw (i:=0) (by show ((_:List Str)++_).Nodup; decide +kernel) rfl (by walk_at "o")) (y7 (zw (i:=1) (by show ((_:List Str)++_).Nodup; decide +kernel) rfl (by walk_at "o")) wj))))
set_option hygiene false in
local macro_rules | `(tactic| walk_at "b")=>`(tactic| (refine u9 F S (F.binds fun _ _ _ _ _ _ us hl=>by first | (obtain ⟨_,rfl⟩:=cb hl; rfl) | (obtain ⟨_,_,rfl⟩:=Zy hl; rfl) | (obtain ⟨_,_,_,rfl⟩:=Z3 hl; rfl) | (obtain ⟨_,_,_,_,_,rfl⟩:=Az hl; rfl) | (obtain ⟨_,_,_,_,_,_,rfl⟩:=Vj hl; rfl)) m fun qZ A outer s H xs Z φ hr hl hT=>?_; have hu:=hr.units))
set_option hygiene false in
local macro_rules | `(tactic| walk_at "p")=>`(tactic| simp only [ρ0,List.map_cons,List.map_nil,List.replicate,List.cons_append,List.nil_append])
local macro_rules | `(tactic| walk_at "o")=>`(tactic| first | exact Or.inl rfl | exact Or.inr rfl | exact Or.inr (Or.inl rfl) | exact Or.inr (Or.inr rfl))
local macro_rules | `(tactic| walk_at "f")=>`(tactic| exact ⟨rfl,rfl,rfl,by decide +kernel,rfl,by decide +kernel,by decide +kernel⟩)
local macro_rules | `(tactic| walk_at "c")=>`(tactic| exact ⟨rfl,by decide +kernel,by decide +kernel,by decide +kernel,by decide +kernel,by decide +kernel⟩)
local macro_rules | `(tactic| walk_at "m")=>`(tactic| exact ⟨by first | omega | (simp; omega),by repeat first | assumption | exact trivial | refine $(Lean.mkIdent `prs1) ?_ ?_⟩)
set_option hygiene false in
local macro_rules | `(tactic| walk_at "k")=>`(tactic| (delta z_V openEnds topFrom; rw [Fast.te14082659384304107361]; kernel_rfl))
def aA{a:Sort _}{p:a->Prop}(x:a)(h:p x):p x:=h
def aB{p:Prop}(h:p:=by decide):p:=h
def aD{p:Prop}(h:p:=by omega):p:=h
def aE{p:Prop}(h:p:=by simp):p:=h
def aF{p:Prop}(h:p:=by decide +kernel):p:=h
def aG{p:Prop}(h:p:=by walk_at "o"):p:=h
def aH{p:Prop}(h:p:=by exact rfl):p:=h
def aI{p:Prop}(h:p:=by simp only[zLa,List.length_singleton];omega):p:=h
set_option hygiene false in
local macro_rules | `(tactic| walk_at "2")=>`(tactic| first | refine zn (zp ⟨rfl,rfl,rfl,rfl,rfl,rfl,rfl,rfl,rfl,rfl,rfl,rfl,rfl,rfl,rfl,rfl,rfl,rfl,trivial,?_⟩) | refine zn (zp ⟨rfl,rfl,rfl,rfl,rfl,rfl,rfl,rfl,rfl,rfl,rfl,rfl,rfl,rfl,trivial,?_⟩) | refine zn (zp ⟨rfl,rfl,rfl,rfl,rfl,rfl,rfl,rfl,rfl,rfl,rfl,rfl,trivial,?_⟩) | refine zn (zp ⟨rfl,rfl,rfl,rfl,rfl,rfl,rfl,rfl,rfl,rfl,trivial,?_⟩))
set_option hygiene false in
local macro_rules | `(tactic| walk_at "3")=>`(tactic| (intro _ _ _ _ _ _ us hl; first | (obtain ⟨_,rfl⟩:=cb hl; rfl) | (obtain ⟨_,_,rfl⟩:=Zy hl; rfl) | (obtain ⟨_,_,_,rfl⟩:=Z3 hl; rfl) | (obtain ⟨_,_,_,_,rfl⟩:=z0a hl; rfl) | (obtain ⟨_,_,_,_,_,rfl⟩:=Az hl; rfl) | (obtain ⟨_,_,_,_,_,_,rfl⟩:=Vj hl; rfl)))
namespace ZZ
open PySem PySem.Spec PyProof.Rows
def ss(s:Stmt):Arguments:=match s with
 |.FunctionDef _ a _ _ _ _ _ _ _ _=>a
 |_=>{posonlyargs:=[],args:=[],vararg:=none,kwonlyargs:=[],kw_defaults:=[],kwarg:=none,defaults:=[]}
def yu(s:Stmt):List Stmt:=match s with
 |.FunctionDef _ _ b _ _ _ _ _ _ _=>b
 |_=>[]
def ze(s:Stmt):Scope:=match s with
 |.FunctionDef _ _ _ _ _ _ sc _ _ _=>sc
 |_=>{kind:=.function,names:=[],isGenerator:=false,isCoroutine:=false}
def wx(s:Stmt)(j:Nat):Stmt:=match s with
 |.ClassDef _ _ _ body _ _ _ _ _ _ _=>body.getD j (.Pass ⟨0,0,0,0⟩)
 |_=>.Pass ⟨0,0,0,0⟩
def top(i:Nat):Stmt:=PySem.Challenge.pw_toll_k50_paths_in_order.main.body.getD i (.Pass ⟨0,0,0,0⟩)
section
open PySem.W PySem.PyData
def zE(P:Params)(s:Str)(t:Nat)(v:Value):DictEntry:=⟨keyHash P s,.str s t,v⟩
def zG(n q:Str)(s:Stmt)(d c m:Value)(k:Nat):Obj:=⟨.type "function",none,.func (fnOf n q (ss s) (yu s) (ze s) d .none c m none (.ref k) .none),#[]⟩
def zF(n:Str)(s:Stmt)(m:Str)(i k:Nat):Obj:=⟨.type "function",none,.func (fnOf n n (ss s) (yu s) (ze s) .none .none .none (.str m i) none (.ref k) .none),#[]⟩
def zB(n:Str)(a b c:Nat)(d e:Int)(g i l:Nat)(m:Int)(p:Nat):Obj:=⟨.type "code",none,.fields #[.str n a,.str n b,.str "/claim/cut.py" c,.int d 0,.int e 0,.int 0 0,.int 0 0,.int 3 0,.ref g,.bool true,.int 181 0,.ref i,.none,.none,.none,.ref l,.int m 0,.int d 0,.str "/claim/cut.py" p],#[]⟩
def zC(n:Str)(a:Nat)(q:Str)(b c:Nat)(d e f:Int)(g:Nat)(h:Int)(i j k l:Nat)(m o:Int)(p:Nat):Obj:=⟨.type "code",none,.fields #[.str n a,.str q b,.str "/claim/cut.py" c,.int d 0,.int e 0,.int 0 0,.int 0 0,.int f 0,.ref g,.bool true,.int h 0,.ref i,.none,.ref j,.ref k,.ref l,.int m 0,.int o 0,.str "/claim/cut.py" p],#[]⟩
def z_t(x:Array Value):Obj:=⟨.type "tuple",none,.seq x 0,#[]⟩
def z_w(n:Str)(a:Nat)(d e:Int)(g m:Nat):Obj:=⟨.type "code",none,.fields #[.str n a,.str n (a+1),.str "/claim/cut.py" (a+2),.int d 0,.int e 0,.int 0 0,.int 0 0,.int 3 0,.ref g,.bool true,.int 181 0,.ref (g+1),.none,.none,.none,.ref (g+2),.int m 0,.int d 0,.str "/claim/cut.py" (m+1)],#[]⟩
def z_x(n:Str)(a:Nat)(d e:Int)(g m:Nat):Obj:=zC n a n (a+1) (a+2) d e 3 g 181 (g+1) (g+2) (g+3) (g+4) m d (m+1)
def z_a(n:Str)(i c:Nat):Obj:=zF n (top i) "law_toll_k50_paths_in_order" 431 c
def z_b(n:Str)(i c:Nat):Obj:=zF n (top i) "toll.paths" 249 c
def z_y(P:Params)(n:Str)(a r:Nat):=zE P n a (.ref r)
def zK0(P:Params):Frag:=(nat_lit 2,⟨.none,none,(.dict #[] 0),#[]⟩)::
(nat_lit 3,⟨(.type "dict"),none,(.dict #[zE P "__name__" 165 (.str "law_toll_k50_paths_in_order" 431),zE P "__doc__" 166 .none,zE P "__package__" 167 .none,zE P "__loader__" 168 (.builtin "__main__.__loader__#opaque"),zE P "__spec__" 169 .none,z_y P "__annotations__" 170 6,z_y P "__builtins__" 171 4,zE P "__file__" 173 (.str "/claim/cut.py" 172),zE P "__cached__" 174 .none,z_y P "TollError" 206 24,z_y P "NoFunction" 222 37,z_y P "function_of" 233 46,z_y P "line_laid" 241 51,z_y P "KINDS" 248 52,z_y P "MAKES" 263 53,z_y P "paths_of" 269 58,z_y P "first_path" 275 63,z_y P "ends_of" 287 70,z_y P "line_of" 293 75,z_y P "Path" 430 170,z_y P "_law_cell_at" 440 181,z_y P "_law_whole" 447 188,z_y P "_law_next" 454 195,z_y P "_law_name" 462 202,z_y P "_law_mark" 473 209,z_y P "_law_number" 480 216,z_y P "_law_grown_call" 486 221,z_y P "_law_grown_e" 492 226,z_y P "_law_grown_open" 498 231,z_y P "_law_grown_body" 518 238,z_y P "_law_grown_head" 534 245,z_y P "_law_grown" 540 250,z_y P "_law_sorting" 557 257,z_y P "_law_turning" 572 264,z_y P "_law_telling" 588 271,z_y P "_law_pairing" 602 278,z_y P "_law_piece" 608 283,z_y P "_law_ways" 616 290,z_y P "_law_deeds" 625 297,z_y P "_law_is_path" 631 302,z_y P "law" 637 307] 41),#[]⟩)::
(nat_lit 4,⟨.type "module",some 0,.plain,#[]⟩)::
(nat_lit 45,z_x "function_of" 225 7 2 40 231)::
(nat_lit 46,zF "function_of" (top 4) "toll.programs" 223 45)::
(nat_lit 50,z_w "line_laid" 236 13 3 47 239)::
(nat_lit 51,zF "line_laid" (top 6) "toll.sums" 234 50)::
(nat_lit 52,z_t #[.str "call" 242,.str "make" 243,.str "sum" 244,.str "let" 245,.str "less" 246,.str "open" 247])::
(nat_lit 53,⟨(.type "dict"),none,(.dict #[zE P "cons" 251 (.str "make" 252),zE P "node" 253 (.str "make" 254),zE P "add" 255 (.str "sum" 256),zE P "sub" 257 (.str "sum" 258)] 4),#[]⟩)::
(nat_lit 57,z_w "paths_of" 264 21 2 54 267)::
(nat_lit 58,z_b "paths_of" 10 57)::
(nat_lit 62,z_w "first_path" 270 25 1 59 273)::
(nat_lit 63,z_b "first_path" 11 62)::
(nat_lit 69,z_x "ends_of" 276 35 3 64 285)::
(nat_lit 70,z_b "ends_of" 12 69)::
(nat_lit 74,z_w "line_of" 288 54 3 71 291)::
(nat_lit 75,z_b "line_of" 13 74)::
(nat_lit 86,⟨(.type "code"),none,(.fields #[(.str "__init__" 306),(.str "Path.__init__" 307),(.str "/claim/cut.py" 308),(.int 70 0),(.int 1 0),(.int 0 0),(.int 0 0),(.int 3 0),(.ref 83),(.bool true),(.int 181 0),(.ref 84),.none,.none,.none,(.ref 85),(.int 309 0),(.int 70 0),(.str "/claim/cut.py" 310)]),#[]⟩)::
(nat_lit 87,zG "__init__" "Path.__init__" (wx (top 14) 0) .none .none (.str "toll.paths" 249) 86)::
(nat_lit 93,zC "twin" 312 "Path.twin" 313 314 78 1 3 88 181 89 90 91 92 317 78 318)::
(nat_lit 94,zG "twin" "Path.twin" (wx (top 14) 1) .none .none (.str "toll.paths" 249) 93)::
(nat_lit 100,zC "told" 320 "Path.told" 321 322 88 2 3 95 181 96 97 98 99 325 88 326)::
(nat_lit 101,zG "told" "Path.told" (wx (top 14) 2) .none .none (.str "toll.paths" 249) 100)::
(nat_lit 107,zC "step" 328 "Path.step" 329 330 91 2 3 102 181 103 104 105 106 333 91 334)::
(nat_lit 108,zG "step" "Path.step" (wx (top 14) 3) .none .none (.str "toll.paths" 249) 107)::
(nat_lit 114,zC "noughts" 336 "Path.noughts" 337 338 94 1 3 109 181 110 111 112 113 340 94 341)::
(nat_lit 115,zG "noughts" "Path.noughts" (wx (top 14) 4) .none .none (.str "toll.paths" 249) 114)::
(nat_lit 121,zC "bring" 343 "Path.bring" 344 345 97 3 3 116 181 117 118 119 120 349 97 350)::
(nat_lit 122,zG "bring" "Path.bring" (wx (top 14) 5) .none .none (.str "toll.paths" 249) 121)::
(nat_lit 126,⟨(.type "code"),none,(.fields #[(.str "bring_own" 352),(.str "Path.bring_own" 353),(.str "/claim/cut.py" 354),(.int 100 0),(.int 3 0),(.int 0 0),(.int 0 0),(.int 3 0),(.ref 123),(.bool true),(.int 181 0),(.ref 124),.none,.none,.none,(.ref 125),(.int 355 0),(.int 100 0),(.str "/claim/cut.py" 356)]),#[]⟩)::
(nat_lit 127,zG "bring_own" "Path.bring_own" (wx (top 14) 6) .none .none (.str "toll.paths" 249) 126)::
(nat_lit 133,zC "found_empty" 358 "Path.found_empty" 359 360 104 2 3 128 181 129 130 131 132 364 104 365)::
(nat_lit 134,zG "found_empty" "Path.found_empty" (wx (top 14) 7) .none .none (.str "toll.paths" 249) 133)::
(nat_lit 140,zC "found_full" 367 "Path.found_full" 368 369 109 4 3 135 181 136 137 138 139 375 109 376)::
(nat_lit 141,zG "found_full" "Path.found_full" (wx (top 14) 8) .none .none (.str "toll.paths" 249) 140)::
(nat_lit 147,zC "open_other" 378 "Path.open_other" 379 380 118 4 3 142 181 143 144 145 146 388 118 389)::
(nat_lit 148,zG "open_other" "Path.open_other" (wx (top 14) 9) .none .none (.str "toll.paths" 249) 147)::
(nat_lit 154,zC "open_list" 391 "Path.open_list" 392 393 123 3 3 149 181 150 151 152 153 398 123 399)::
(nat_lit 155,zG "open_list" "Path.open_list" (wx (top 14) 10) .none .none (.str "toll.paths" 249) 154)::
(nat_lit 161,zC "open_tree" 401 "Path.open_tree" 402 403 128 3 3 156 181 157 158 159 160 408 128 409)::
(nat_lit 162,zG "open_tree" "Path.open_tree" (wx (top 14) 11) .none .none (.str "toll.paths" 249) 161)::
(nat_lit 166,⟨(.type "code"),none,(.fields #[(.str "change" 411),(.str "Path.change" 412),(.str "/claim/cut.py" 413),(.int 135 0),(.int 2 0),(.int 0 0),(.int 0 0),(.int 3 0),(.ref 163),(.bool true),(.int 181 0),(.ref 164),.none,.none,.none,(.ref 165),(.int 414 0),(.int 135 0),(.str "/claim/cut.py" 415)]),#[]⟩)::
(nat_lit 167,zG "change" "Path.change" (wx (top 14) 12) .none .none (.str "toll.paths" 249) 166)::
(nat_lit 169,⟨(.type "dict"),none,(.dict #[zE P "__module__" 301 (.str "toll.paths" 249),zE P "__firstlineno__" 305 (.int 68 304),z_y P "__init__" 311 87,z_y P "twin" 319 94,z_y P "told" 327 101,z_y P "step" 335 108,z_y P "noughts" 342 115,z_y P "bring" 351 122,z_y P "bring_own" 357 127,z_y P "found_empty" 366 134,z_y P "found_full" 377 141,z_y P "open_other" 390 148,z_y P "open_list" 400 155,z_y P "open_tree" 410 162,z_y P "change" 416 167,z_y P "__static_attributes__" 423 168,z_y P "__dict__" 425 171,z_y P "__weakref__" 427 172,zE P "__doc__" 428 .none] 4),#[]⟩)::
(nat_lit 170,⟨(.type "type"),none,(.cls ⟨"Path",[(.type "object")],[(.ref 170),(.type "object")],169,"Path",true,[],[],false,none,false⟩),#[none,none,(some (.str "Path" 294)),(some (.str "Path" 302)),(some (.builtin "object.__new__")),(some (.bool true))]⟩)::
(nat_lit 180,z_x "_law_cell_at" 433 140 2 175 438)::
(nat_lit 181,z_a "_law_cell_at" 16 180)::
(nat_lit 187,z_x "_law_whole" 441 144 1 182 445)::
(nat_lit 188,z_a "_law_whole" 17 187)::
(nat_lit 194,z_x "_law_next" 448 146 1 189 452)::
(nat_lit 195,z_a "_law_next" 18 194)::
(nat_lit 201,z_x "_law_name" 455 150 2 196 460)::
(nat_lit 202,z_a "_law_name" 19 201)::
(nat_lit 208,z_x "_law_mark" 463 152 1 203 471)::
(nat_lit 209,z_a "_law_mark" 20 208)::
(nat_lit 215,z_x "_law_number" 474 161 1 210 478)::
(nat_lit 216,z_a "_law_number" 21 215)::
(nat_lit 220,z_w "_law_grown_call" 481 165 6 217 484)::
(nat_lit 221,z_a "_law_grown_call" 22 220)::
(nat_lit 225,z_w "_law_grown_e" 487 172 5 222 490)::
(nat_lit 226,z_a "_law_grown_e" 23 225)::
(nat_lit 230,z_w "_law_grown_open" 493 196 6 227 496)::
(nat_lit 231,z_a "_law_grown_open" 24 230)::
(nat_lit 237,z_x "_law_grown_body" 499 211 6 232 516)::
(nat_lit 238,z_a "_law_grown_body" 25 237)::
(nat_lit 244,z_x "_law_grown_head" 519 228 3 239 532)::
(nat_lit 245,z_a "_law_grown_head" 26 244)::
(nat_lit 249,z_w "_law_grown" 535 240 1 246 538)::
(nat_lit 250,z_a "_law_grown" 27 249)::
(nat_lit 256,z_x "_law_sorting" 541 248 6 251 555)::
(nat_lit 257,z_a "_law_sorting" 28 256)::
(nat_lit 263,z_x "_law_turning" 558 255 6 258 570)::
(nat_lit 264,z_a "_law_turning" 29 263)::
(nat_lit 270,z_x "_law_telling" 573 260 6 265 586)::
(nat_lit 271,z_a "_law_telling" 30 270)::
(nat_lit 277,z_x "_law_pairing" 589 266 6 272 600)::
(nat_lit 278,z_a "_law_pairing" 31 277)::
(nat_lit 282,z_w "_law_piece" 603 271 1 279 606)::
(nat_lit 283,z_a "_law_piece" 32 282)::
(nat_lit 289,z_x "_law_ways" 609 283 2 284 614)::
(nat_lit 290,z_a "_law_ways" 33 289)::
(nat_lit 296,z_x "_law_deeds" 617 293 1 291 623)::
(nat_lit 297,z_a "_law_deeds" 34 296)::
(nat_lit 301,z_w "_law_is_path" 626 304 3 298 629)::
(nat_lit 302,z_a "_law_is_path" 35 301)::
(nat_lit 306,z_w "law" 632 318 1 303 635)::
(nat_lit 307,z_a "law" 36 306)::[]
noncomputable def zK(P:Params):Frag:=(nat_lit 129,tabObj #[])::(nat_lit 150,tabObj #[])::(nat_lit 157,tabObj #[])::zK0 P
noncomputable def zA:List Addr:=129::150::157::2::3::4::45::46::50::51::52::53::57::58::62::63::69::70::74::75::86::87::93::94::100::101::107::108::114::115::121::122::126::127::133::134::140::141::147::148::154::155::161::162::166::167::169::170::180::181::187::188::194::195::201::202::208::209::215::216::220::221::225::226::230::231::237::238::244::245::249::250::256::257::263::264::270::271::277::278::282::283::289::290::296::297::301::302::306::307::[]
def zAK(P:Params):zA=(zK P).map (·.1):=by kernel_rfl
noncomputable def zq:Program:={PySem.Challenge.pw_toll_k50_paths_in_order with main:={PySem.Challenge.pw_toll_k50_paths_in_order.main with body:=[1,2,4,6,7,9,10,11,12,13,14,16,17,18,19,20,21,22,23,24,25,26,27,28,29,30,31,32,33,34,35,36].filterMap λi=>PySem.Challenge.pw_toll_k50_paths_in_order.main.body[i]?}}
abbrev zX(s:Shared):Bool:=xlAt zq [] s&&recOk (RowW.records PySem.Challenge.rw_toll_k50_paths_in_order.row.toRowW) s
abbrev z_O(s:Shared):=Fast.tw4187177175401517315 zq ["MAKES"] (Fast.tw5923862056798008813 PySem.Challenge.pw_toll_k50_paths_in_order.main.body) zX true s
abbrev z_G:=openGood zq ["MAKES"]
abbrev z_V{β:Type}(p:Shared->β)(b:β)(w:World):Prop:=Option.map p (openEnds Fast.tw14364793385576792824 PySem.Challenge.pw_toll_k50_paths_in_order w 4054)=some b
abbrev zP(w:World):Prop:=z_V (λs=>(z_O s,zA.map s.heap.get?)) (z_G,(zK w.params).map λp=>some p.2) w
theorem o_m{α β γ:Type}{X:Option α}{f:α->β}{g:α->γ}{a:β}{b:γ}(h:X.map f=some a)(k:X.map g=some b):X.map (λs=>(f s,g s))=some (a,b):=by cases X <;> simp_all
theorem z_0f(w:World):z_V (λs=>(z_O s).1) z_G.1 (w.withFollow "special-get-raises" false):=by walk_at "k"
theorem z_1f(w:World):z_V (λs=>(z_O s).2) z_G.2 (w.withFollow "special-get-raises" false):=by walk_at "k"
theorem z_4f(w:World):z_V (λs=>zA.map s.heap.get?) ((zK (w.withFollow "special-get-raises" false).params).map λp=>some p.2) (w.withFollow "special-get-raises" false):=by walk_at "k"
theorem hl0f(w:World):zP (w.withFollow "special-get-raises" false):=o_m (o_m (z_0f w) (z_1f w)) (z_4f w)
theorem z_0t(w:World):z_V (λs=>(z_O s).1) z_G.1 (w.withFollow "special-get-raises" true):=by walk_at "k"
theorem z_1t(w:World):z_V (λs=>(z_O s).2) z_G.2 (w.withFollow "special-get-raises" true):=by walk_at "k"
theorem z_4t(w:World):z_V (λs=>zA.map s.heap.get?) ((zK (w.withFollow "special-get-raises" true).params).map λp=>some p.2) (w.withFollow "special-get-raises" true):=by walk_at "k"
theorem hl0t(w:World):zP (w.withFollow "special-get-raises" true):=o_m (o_m (z_0t w) (z_1t w)) (z_4t w)
def hl1:LeftO PySem.Challenge.pw_toll_k50_paths_in_order zq ["MAKES"] zX (Hook.obs (kHook zK zA zAK)) (Hook.val (kHook zK zA zAK)) 4054:=by
 intro w;rw[Fast.te4187177175401517315,Fast.te5923862056798008813,Fast.te14364793385576792824];exact(byRow2 "special-get-raises" (P:=λw=>zP w) hl0f hl0t) w
def said:PySem.Challenge.rw_toll_k50_paths_in_order.wellSaid=true:=by kernel_rfl
def zD:DefRec:=match top 36 with|.FunctionDef n a b _ _ _ c _ _ p=>⟨n,a,b,c,p⟩|_=>⟨"",⟨[],[],none,[],[],none,[]⟩,[],⟨.function,[],false,false,[]⟩,⟨0,0,0,0⟩⟩
def opened(g:WalkO zq ["MAKES"] (XL zq []) (Hook.says (kHook zK zA zAK)) PySem.Challenge.rw_toll_k50_paths_in_order.row.toRowW zD [] (λf vs=>PySem.call f vs)):PySem.Challenge.rw_toll_k50_paths_in_order.Holds:=by
 refine holds_law said λa=>holds_open (q:=zq) (loose:=["MAKES"]) (Xt:=zX) (XP:=XL zq []) (d:=zD) (kwd:=[]) (Yf:=Hook.obs (kHook zK zA zAK)) (Ya:=Hook.val (kHook zK zA zAK)) (YP:=Hook.says (kHook zK zA zAK)) (N:=4054) hl1 (Hook.of (kHook zK zA zAK)) (Hook.keeps (kHook zK zA zAK)) (λs e=>xl_of s (zeL.mp e).1) XL.keeps (by kernel_rfl) (by kernel_rfl) (by kernel_rfl) (λs e=>recFacts_of (zeL.mp e).2) (by kernel_rfl) a (by kernel_rfl) ⟨rfl,rfl,rfl,rfl,rfl,by decide +kernel⟩ ?hw g
 case hw=>w_witness2
end
abbrev Key:=Sum Int Str
def Pj:Key->Value->Bool
 |.inl k,v=>Value.isInt k v
 |.inr x,v=>Value.isStrOf x v
def keyH(w:World):Key->Int
 |.inl k=>hashInt k
 |.inr x=>hashStr w x
def xb:∀{k:Key}{v:Value},Pj k v=true->(∃i t,k=Sum.inl i/\v=Value.int i t)\/(∃x t,k=Sum.inr x/\v=Value.str x t)
 |.inl i,v,h=>by
  obtain⟨t,e⟩:=Value.isInt_shape (k:=i) (v:=v) h;exact .inl ⟨i,t,rfl,e⟩
 |.inr x,v,h=>by
  obtain⟨t,e⟩:=Value.isStrOf_shape (x:=x) (v:=v) h;exact .inr ⟨x,t,rfl,e⟩
def Nu(i:Int)(t:Tok):Pj (.inl i) (.int i t)=true:=by simp[Pj,Value.isInt]
def Nt(x:Str)(t:Tok):Pj (.inr x) (.str x t)=true:=by simp[Pj,Value.isStrOf]
def z0g(a b:Int):decide ((Sum.inl a:Key)=Sum.inl b)=(a==b):=by
 by_cases e:a=b
 ·subst e;simp
 have h:¬ (Sum.inl a:Key)=Sum.inl b:=λq=>e (Sum.inl.inj q);rw[zaP h];exact(zaS.mpr e).symm
def z0d(a b:Str):decide ((Sum.inr a:Key)=Sum.inr b)=decide (a=b):=by
 by_cases e:a=b
 ·subst e;simp
 have h:¬ (Sum.inr a:Key)=Sum.inr b:=λq=>e (zdM q);rw[zaP h,zaP e]
def z0f(a:Int)(b:Str):decide ((Sum.inl a:Key)=Sum.inr b)=false:=zaP (λq=>nomatch q)
def z0e(a:Str)(b:Int):decide ((Sum.inr a:Key)=Sum.inl b)=false:=zaP (λq=>nomatch q)
def x4(prog:Program)(w:World):PySem.KeyKind prog w Key where
 is:=Pj
 hash:=keyH w
 inj:=λv a b l g=>by
  rcases xb l with⟨i,t,rfl,rfl⟩|⟨x,t,rfl,rfl⟩
  ·rcases xb g with⟨j,u,rfl,e⟩|⟨y,u,rfl,e⟩
   ·injection e with e1 _;rw[e1]
   exact nomatch e
  rcases xb g with⟨j,u,rfl,e⟩|⟨y,u,rfl,e⟩
  ·exact nomatch e
  injection e with e1 _;rw[e1]
 byValue:=λk v h=>by
  rcases xb h with⟨i,t,rfl,rfl⟩|⟨x,t,rfl,rfl⟩ <;> rfl
 pyHash:=λd h=>by
  rcases xb d with⟨i,t,rfl,rfl⟩|⟨x,t,rfl,rfl⟩
  ·exact wpAny_pyHash_int h
  exact wpAny_pyHash_str h
 eqBool:=λhu d h=>by
  rcases xb hu with⟨i,t,rfl,rfl⟩|⟨x,t,rfl,rfl⟩
  ·rcases xb d with⟨j,u,rfl,rfl⟩|⟨y,u,rfl,rfl⟩
   ·rw[z0g]at h;exact wpAny_eqBool_int h
   rw[z0f]at h;exact SeqAt.EqAt.int_str i t y u _ _ _ _ h
  rcases xb d with⟨j,u,rfl,rfl⟩|⟨y,u,rfl,rfl⟩
  ·rw[z0e]at h;exact SeqAt.EqAt.str_int x t j u _ _ _ _ h
  rw[z0d]at h;exact wpAny_eqBool_str h
 «strs»:=λk x t v h=>by
  rcases xb h with⟨i,u,rfl,e⟩|⟨y,u,rfl,e⟩
  ·exact nomatch e
  injection e with e1 _
  subst e1;cases v <;> rfl
def Ts(prog:Program)(w:World)(i:Int)(t:Tok):(x4 prog w).is (.inl i) (.int i t)=true:=Nu i t
def Tr(prog:Program)(w:World)(x:Str)(t:Tok):(x4 prog w).is (.inr x) (.str x t)=true:=Nt x t
inductive V where
 |non|bl (b:Bool)|int (i:Int)|str (x:Str)|byt (b:Array UInt8)|flt (b:UInt64)|ref (a:Addr)|ty (n:String)
 deriving DecidableEq
def RelV:V->Value->Prop
 |.non,u=>u=Value.none
 |.bl b,u=>u=Value.bool b
 |.int i,u=>∃t,u=Value.int i t
 |.str x,u=>∃t,u=Value.str x t
 |.byt b,u=>∃t,u=Value.bytes b t
 |.flt b,u=>∃t,u=Value.float b t
 |.ref a,u=>u=Value.ref a
 |.ty n,u=>u=Value.type n
abbrev Vals:List V->List Value->Prop:=Paired RelV
theorem Vals.length(r:Vals E us):E.length=us.length:=zfQ r
theorem Vals.get:∀{E:List V}{us:List Value}{i:Nat}{x:V},Vals E us->E[i]?=some x->∃u,us[i]?=some u/\RelV x u
 |_,_,_,_,.nil,e=>by simp at e
 |_,_,0,_,.cons r _,e=>by simp at e;subst e;exact⟨_,rfl,r⟩
 |_,_,i+1,x,.cons _ t,e=>by
  obtain⟨u,J,h2⟩:=Vals.get (i:=i) (x:=x) t (by simpa using e)
  exact⟨u,by simpa using J,h2⟩
theorem Vals.set(r:RelV x u):∀{E:List V}{us:List Value}(i:Nat),Vals E us->Vals (E.set i x) (us.set i u)
 |_,_,_,.nil=>.nil
 |_,_,0,.cons _ t=>.cons r t
 |_,_,i+1,.cons q t=>.cons q (Vals.set r i t)
theorem Vals.append:∀{E ys:List V}{us ws:List Value},Vals E us->Vals ys ws->Vals (E++ys) (us++ws)
 |_,_,_,_,.nil,s=>s
 |_,_,_,_,.cons r t,s=>.cons r (Vals.append t s)
theorem Vals.take:∀{E:List V}{us:List Value}(n:Nat),Vals E us->Vals (E.take n) (us.take n)
 |_,_,0,_=>.nil
 |_,_,_+1,.nil=>.nil
 |_,_,n+1,.cons r t=>.cons r (Vals.take n t)
theorem Vals.drop:∀{E:List V}{us:List Value}(n:Nat),Vals E us->Vals (E.drop n) (us.drop n)
 |_,_,0,r=>r
 |_,_,_+1,.nil=>.nil
 |_,_,n+1,.cons _ t=>Vals.drop n t
def RelO:Option V->Option Value->Prop
 |some v,some u=>RelV v u
 |none,none=>True
 |_,_=>False
def KV{κ:Type}:List (κ×V)->List (κ×Value)->Prop:=Paired λ(p:κ×V)(q:κ×Value)=>p.1=q.1/\RelV p.2 q.2
def kV:Key->V
 |.inl i=>.int i
 |.inr x=>.str x
inductive HO where
  |lst (E:List V)
  |tup (E:List V)
  |dK (kvs:List (Key×V))|dT (kvs:List (List Key×V))
  |set (S:Int->Bool) (n:Nat)
  |ins (C dx:Addr) (fs:List (Str×V))
  |own (x:Addr)
  |xd (fs:List (Str×V))
  |met (f x:Addr)
  |rng (lo hi:Int)
  |frz (o:Obj) (u:HO)
  |tbl (ps:Array Value)
  |ext (φ:Heap->Prop)
abbrev Hp:=Addr->Option HO
def upd(H:Hp)(a:Addr)(o:HO):Hp:=λb=>if b=a then some o else H b
def zm:upd H a o a=some o:=by unfold upd;rw[zaM rfl]
def zj(h:b≠a):upd H a o b=H b:=by unfold upd;rw[zaJ h]
def z2w{H:Hp}{o u:HO}(h:H a=some o)(h':H b=some u)(d:o≠u):a≠b:=by
 intro e;subst e;rw[h]at h';exact d (zaT h')
def zl{H:Hp}{o:HO}(h:H a=some o)(h':H b=none):a≠b:=by
 intro e;subst e;rw[h]at h';cases h'
section
variable(P:Program)(w:World)
def yy(H:Hp)(h:Heap)(a:Addr):HO->Prop
 |.lst E=>E.length<=sizeLine/\∃(its:List Value)(n:Nat),Vals E its/\h.get? a=some {cls:=.type "list",data:=.seq its.toArray n}
 |.tup E=>E.length<=sizeLine/\∃its:List Value,Vals E its/\IsTup h a its.toArray/\∃o,h.get? a=some o/\o.dict=none
 |.dK kvs=>kvs.length<=sizeLine/\(a==sysModules)=false/\∃vs,KV kvs vs/\h.DictOf (x4 P w) a vs
 |.dT kvs=>kvs.length<=sizeLine/\(a==sysModules)=false/\∃E:List (List Key×Addr×Value),
   Paired (λ(p:List Key×V)(q:List Key×Addr×Value)=>p.1=q.1/\H q.2.1=some (.tup (p.1.map kV))/\RelV p.2 q.2.2) kvs E /\
   ∃o es ep,h.get? a=some o/\o.ExactDict/\o.data=.dict es ep/\es.toList=E.map (entryOfKey (tupleKind (x4 P w)))/\(E.map (·.1)).Nodup
 |.set S n=>h.SetOf (intKind P w) a S n
 |.ins C dx fs=>H dx=some (.own a)/\fs.length<=1000/\dx≠a/\h.get? a=some (W.instObj C dx) /\
   ∃mA,h.Ns1 dx mA/\(∀f,RelO (fs.lookup f) (mA f))/\PySem.Within mA (fs.map (·.1))
 |.own _=>∃o,h.get? a=some o
 |.xd fs=>∃mA,h.Ns1 a mA/\∀f,RelO (fs.lookup f) (mA f)
 |.rng lo hi=>∃t u v,h.get? a=some {cls:=.type "range",data:=.fields #[.int lo t,.int hi u,.int 1 v]}
 |.frz o u=>h.get? a=some o/\yy H h a u
 | .tbl ps=>∃qs,h.get? a=some (W.tabObj qs)/\(qs=#[]\/∃(l c:Int)(q:Str)(u1 u2 u3:Tok)(c':Addr)(oc:Obj)(vs:Array Value)(t:Tok),ps=#[.int l u1,.int c u2,.str q u3]/\qs=#[.int l 0,.int c 0,.ref c'] /\
   H c'=some (.own a)/\h.get? c'=some oc/\oc.data=.fields vs/\vs[1]?=some (.str q t))
 |.met f x=>h.get? a=some (W.methodObj (.ref f) (.ref x))
 |.ext φ=>φ h/\(∃o,h.get? a=some o)/\∀J h2:Heap,φ J->(∀o,J.get? a=some o->h2.get? a=some o)->φ h2
def HOk(H:Hp)(h:Heap):Prop:=∀a o,H a=some o->yy P w H h a o
end
variable{P:Program}{w:World}{H H':Hp}{h h':Heap}{a:Addr}{o:HO}
theorem yy.lt(x:yy P w H h a o):a<h.objs.size:=by
 cases o with
 |lst E=>obtain⟨_,_,_,_,e⟩:=x;exact zae e
 |tup E=>obtain⟨_,_,_,p⟩:=x;exact p.1.lt
 |dK kvs=>obtain⟨_,_,_,_,o,_,_,e,_⟩:=x;exact zae e
 |dT kvs=>obtain⟨_,_,_,_,o,_,_,e,_⟩:=x;exact zae e
 |set S n=>obtain⟨o,_,_,_,e,_⟩:=x;exact zae e
 |ins C dx fs=>obtain⟨_,_,_,e,_⟩:=x;exact zae e
 |own y=>obtain⟨_,e⟩:=x;exact zae e
 |xd fs=>obtain⟨_,⟨_,_,_,e,_⟩,_⟩:=x;exact zae e
 |rng lo hi=>obtain⟨_,_,_,e⟩:=x;exact zae e
 |frz ob u=>obtain⟨e,_⟩:=x;exact zae e
 |tbl ps=>obtain⟨_,e,_⟩:=x;exact zae e
 |met f y=>exact zae (show h.get? a=some _ from x)
 |ext φ=>obtain⟨_,⟨_,e⟩,_⟩:=x;exact zae e
theorem Paired.mapP{α β:Type}{F G:α->β->Prop}:∀{l₁:List α}{l₂:List β},Paired F l₁ l₂->(∀a b,F a b->G a b)->Paired G l₁ l₂
 |_,_,.nil,_=>.nil
 |_,_,.cons r t,f=>.cons (f _ _ r) (Paired.mapP t f)
def yy.stay(x:yy P w H h a o)(k:∀ b u,(b=a\/H b=some (.own a))->h.get? b=some u->h'.get? b=some u)(ho:∀ b,H b=some (.own a)->H' b=some (.own a))(L:∀ b E,H b=some (.tup E)->H' b=some (.tup E)):yy P w H' h' a o:=by
 induction o with
 |lst E=>obtain⟨z,its,n,r,e⟩:=x;exact⟨z,its,n,r,k _ _ (.inl rfl) e⟩
 |tup E=>obtain⟨z,its,r,⟨ob,e,c⟩,g,M,R⟩:=x;exact⟨z,its,r,⟨ob,k _ _ (.inl rfl) e,c⟩,g,k _ _ (.inl rfl) M,R⟩
 |dK kvs=>obtain⟨z,y,vs,r,ob,es,ep,e,c⟩:=x;exact⟨z,y,vs,r,ob,es,ep,k _ _ (.inl rfl) e,c⟩
 |dT kvs =>
  obtain⟨z,y,E,r,ob,es,ep,e,c⟩:=x;exact⟨z,y,E,Paired.mapP r λp q z=>⟨z.1,L _ _ z.2.1,z.2.2⟩,ob,es,ep,k _ _ (.inl rfl) e,c⟩
 |set S n=>obtain⟨ob,es,ep,t,e,c⟩:=x;exact⟨ob,es,ep,t,k _ _ (.inl rfl) e,c⟩
 |ins C dx fs =>
  obtain⟨d,z,h1,e,mA,⟨g,es,ep,e2,c⟩,r⟩:=x;exact⟨ho _ d,z,h1,k _ _ (.inl rfl) e,mA,⟨g,es,ep,k _ _ (.inr d) e2,c⟩,r⟩
 |own y=>obtain⟨ob,e⟩:=x;exact⟨ob,k _ _ (.inl rfl) e⟩
 |xd fs=>obtain⟨mA,⟨g,es,ep,e,c⟩,r⟩:=x;exact⟨mA,⟨g,es,ep,k _ _ (.inl rfl) e,c⟩,r⟩
 |rng lo hi=>obtain⟨t,u,v,e⟩:=x;exact⟨t,u,v,k _ _ (.inl rfl) e⟩
 |frz ob u ih=>obtain⟨e,q⟩:=x;exact⟨k _ _ (.inl rfl) e,ih q⟩
 |tbl ps =>
  obtain⟨G,e,r⟩:=x;refine⟨G,k a _ (.inl rfl) e,r.imp id ?_⟩;rintro⟨l,c,q,D,B,j,V,I,vs,t,e1,e2,e3,Q,O,N⟩;exact⟨l,c,q,D,B,j,V,I,vs,t,e1,e2,ho _ e3,k _ _ (.inr e3) Q,O,N⟩
 |met f y =>
  have e:h.get? a=some (W.methodObj (.ref f) (.ref y)):=x;show h'.get? a=some (W.methodObj (.ref f) (.ref y));exact k a _ (.inl rfl) e
 |ext φ=>obtain⟨p,⟨o,e⟩,st⟩:=x;exact⟨st _ _ p λo q=>k _ _ (.inl rfl) q,⟨o,k _ _ (.inl rfl) e⟩,st⟩
theorem HOk.lt(x:HOk P w H h)(e:H a=some o):a<h.objs.size:=(x a o e).lt
def HOk.fresh(x:HOk P w H h)(e:h.objs.size<=a):H a=none:=by
 cases q:H a with
 |none=>rfl
 |some u=>exact absurd (zaU (x.lt q) e) (zcS _)
def HOk.kept(x:HOk P w H h)(k:∀ b u,h.get? b=some u->h'.get? b=some u):HOk P w H h':=λa o e =>
 (x a o e).stay (λb u _ q=>k b u q) aA λ_ _ q=>q
def HOk.laid(x:HOk P w H h)(k:∀ b u,h.get? b=some u->h'.get? b=some u)(j:h.objs.size<=a)(d:yy P w (upd H a o) h' a o):HOk P w (upd H a o) h':=λb u e=>by
 have g:=x.fresh j;by_cases hb:b=a
 ·subst hb;rw[zm]at e;cases e;exact d
 rw[zj hb]at e;exact(x b u e).stay (λc v _ q=>k c v q) (λc q=>by rw[zj (zl q g)];exact q) λc E q=>by rw[zj (zl q g)];exact q
def Rd(H:Hp)(a:Addr)(u:HO):Prop:=H a=some u\/∃o,H a=some (.frz o u)
def Rd.ok(r:Rd H a u)(x:HOk P w H h):yy P w H h a u:=by
 rcases r with r|⟨o,r⟩
 ·exact x a u r
 obtain⟨_,q⟩:=x a _ r;exact q
def Mut:Option HO->Prop
 |some (.lst _)=>True
 |some (.dK _)=>True
 |some (.dT _)=>True
 |some (.set _ _)=>True
 |some (.ins _ _ _)=>True
 |some (.ext _)=>True
 |_=>False
section
variable{x e:Addr}{o':HO}
def HOk.write(ok:HOk P w H h)(d:Mut (H x))(D:e=x\/H e=some (.own x))(k:∀ b u,b≠e->h.get? b=some u->h'.get? b=some u)(l:∃ u,h'.get? e=some u)(j:yy P w (upd H x o') h' x o'):HOk P w (upd H x o') h':=λb u q=>by
 have nown:∀c y,H c=some (.own y)->c≠x:=λc y r z=>by subst z;rw[r]at d;exact d
 have a:∀c E,H c=some (.tup E)->c≠x:=λc E r z=>by subst z;rw[r]at d;exact d
 by_cases hb:b=x
 ·subst hb;rw[zm]at q;cases q;exact j
 rw[zj hb]at q;by_cases hbe:b=e
 ·have B:H b=some (.own x):=by
   rcases D with z|z
   ·exact absurd (hbe.trans z) hb
   rw[hbe];exact z
  rw[q]at B;cases B;obtain⟨v,G⟩:=l;exact⟨v,by rw[hbe];exact G⟩
 refine(ok b u q).stay (λc v g r=>k c v ?_ r) (λc r=>by rw[zj (nown c b r)];exact r) λc E r=>by rw[zj (a c E r)];exact r
 rcases g with rfl|g
 ·exact hbe
 rintro rfl;rcases D with z|z
 ·exact nown c b g z
 rw[g]at z;cases z;exact hb rfl
end
structure Un(fs ex:List Addr)(H H':Hp)(h h':Heap):Prop where
 keep:∀b o,h.get? b=some o->H b=none->b∉fs->b∉ex->h'.get? b=some o
 slot:∀b o,h.get? b=some o->H b=none->b∈fs->b∉ex->∃sl,h'.get? b=some {o with slots:=sl}
 free:∀b o,h.get? b=some o->H b=none->b∉ex->H' b=none
 there:∀b o,h.get? b=some o->b∉ex->∃o',h'.get? b=some o'
 tups:∀b E,H b=some (.tup E)->H' b=some (.tup E)
 frzs:∀b o u,H b=some (.frz o u)->H' b=some (.frz o u)
 tbls:∀b ps,H b=some (.tbl ps)->∃more,H' b=some (.tbl (ps++more))
section
variable{fs ex:List Addr}{H1 H2:Hp}{J h2:Heap}{x e:Addr}
def Un.any(u:Un fs ex H H1 h J)(q:h.get? b=some ob)(n:H b=none)(a:b∉ex):∃sl,J.get? b=some {ob with slots:=sl}:=by
 by_cases hb:b∈fs
 ·exact u.slot b ob q n hb a
 exact⟨ob.slots,u.keep b ob q n hb a⟩
def Un.trans(a:Un fs ex H H1 h J)(b:Un fs ex H1 H2 J h2):Un fs ex H H2 h h2 where
 keep:=λc ob q n e d=>b.keep c ob (a.keep c ob q n e d) (a.free c ob q n d) e d
 slot:=λc ob q n e d=>by
  obtain⟨j,e1⟩:=a.slot c ob q n e d;obtain⟨g,e2⟩:=b.slot c _ e1 (a.free c ob q n d) e d;exact⟨g,e2⟩
 free:=λc ob q n d=>by
  obtain⟨o',e1⟩:=a.there c ob q d;exact b.free c o' e1 (a.free c ob q n d) d
 there:=λc ob q d=>by
  obtain⟨o',e1⟩:=a.there c ob q d;exact b.there c o' e1 d
 tups:=λc E q=>b.tups c E (a.tups c E q)
 frzs:=λc ob E q=>b.frzs c ob E (a.frzs c ob E q)
 tbls:=λc ps q=>by
  obtain⟨m1,e1⟩:=a.tbls c ps q;obtain⟨m2,e2⟩:=b.tbls c _ e1;exact⟨m1++m2,by rw[e2,Array.append_assoc]⟩
def Un.kept(k:∀ b u,h.get? b=some u->h'.get? b=some u):Un fs ex H H h h' :=
 ⟨λb ob q _ _ _=>k b ob q,λb ob q _ _ _=>⟨ob.slots,k b ob q⟩,λ_ _ _ n _=>n,λb ob q _=>⟨ob,k b ob q⟩,λ_ _ q=>q,λ_ _ _ q=>q,λ_ ps q=>⟨#[],by rw[q];simp⟩⟩
def Un.refl:Un fs ex H H h h:=Un.kept λ_ _ q=>q
def Un.laid(k:∀ b u,h.get? b=some u->h'.get? b=some u)(e:h.objs.size<=a)(d:H a=none):Un fs ex H (upd H a o) h h' where
 keep:=λb u q _ _ _=>k b u q
 slot:=λb u q _ _ _=>⟨u.slots,k b u q⟩
 free:=λb u q n _=>by rw[zj (zaY (zaU (zae q) e))];exact n
 there:=λb u q _=>⟨u,k b u q⟩
 tups:=λb E q=>by rw[zj (zl q d)];exact q
 frzs:=λb u E q=>by rw[zj (zl q d)];exact q
 tbls:=λb ps q=>⟨#[],by rw[zj (zl q d),q];simp⟩
def Un.write(a:Mut (H x))(y:e=x\/H e=some (.own x))(k:∀ b u,b≠e->h.get? b=some u->h'.get? b=some u)(g:∃ u,h'.get? e=some u):Un fs ex H (upd H x o) h h':=by
 have j:∀b,H b=none->b≠x:=λb n z=>by subst z;rw[n]at a;exact a
 have l:∀b,H b=none->b≠e:=λb n z=>by
  subst z;rcases y with r|r
  ·exact j b n r
  rw[n]at r;cases r
 have d:∀b u,H b=some u->¬ Mut (some u)->b≠x:=λb u q v z=>by subst z;rw[q]at a;exact v a
 refine⟨λb u q n _ _=>k b u (l b n) q,λb u q n _ _=>⟨u.slots,k b u (l b n) q⟩,λb u q n _=>by rw[zj (j b n)];exact n,λb u q _=>?_,
  λb E q=>by rw[zj (d b _ q λz=>z)];exact q,λb u E q=>by rw[zj (d b _ q λz=>z)];exact q,λb ps q=>⟨#[],by rw[zj (d b _ q λz=>z),q];simp⟩⟩
 by_cases hbe:b=e
 ·subst hbe;exact g
 exact⟨u,k b u hbe q⟩
end
def trk(h:Heap)(H:Hp):List Addr:=(List.range h.objs.size).filter λa=>(H a).isSome
def hidT(h:Heap)(H:Hp):Heap:=W.hideAll h (trk h H)
def M1(h:Heap)(H:Hp):(hidT h H).objs.size=h.objs.size:=W.hideAll_size _ _
def Je{o:Obj}(e:h.get? b=some o)(n:H b=none):(hidT h H).get? b=some o :=
 W.hideAll_get _ e λa=>by
  have q:(H b).isSome=true:=(zcA.mp a).2;rw[n]at q;simp at q
def Em{o:Obj}(e:(hidT h H).get? b=some o):h.get? b=some o/\H b=none:=by
 have a:h.get? b=some o:=W.of_hideAll (trk h H) e;refine⟨a,?_⟩;cases q:H b with
 |none=>rfl
 |some x =>
  have d:b∈trk h H:=zcA.mpr ⟨List.mem_range.mpr (zae a),by simp[q]⟩
  have z:(hidT h H).get? b=none:=W.hideAll_none (trk h H) d;rw[z]at e;cases e
def C6(g h:Heap)(L:Addr):List (Addr×Obj):=(List.range h.objs.size).filterMap λa=>if a=L\/(g.get? a).isSome=true then none else(h.get? a).map λo=>(a,o)
def rest(g h:Heap)(L d:Addr):List (Addr×Obj):=(C6 g h L).filter λp=>decide (p.1≠d)
structure Mod(K:W.Frag)(mg:Str->Option Value)(base:Heap):Prop where
 kin:K.In base
 glob:base.Ns mainGlobals mg
 blt:∃mb,base.Ns builtinsNs mb/\∀x:Str,x≠"__name__"->mb x=bootBuiltins x
 nolimit:base.NoLimit
structure Cx where
 prog:Program
 w:World
 K:W.Frag
 mg:Str->Option Value
 base:Heap
 A:Around
 N:List Str
 s₀:Shared
 H_:Hp
 env:Env
 outer:List Env
 stack:List Env
 ex:List Addr
 fn:Str->Bool
 calm:Bool
 pn:List (Addr×Obj)
 xe:Value->Shared->Prop
def frs(l:List Env):List Addr:=l.filterMap (·.frame)
abbrev Cx.fs(X:Cx):List Addr:=frs X.outer
def Vis(a:Scope)(x:Str):Prop:=a.names.lookup x=some .local\/a.names.lookup x=some .cell\/a.names.lookup x=some .free
def Loc(a:Scope)(x:Str):Prop:=a.names.lookup x=some .local\/a.names.lookup x=some .cell
def Look(env:Env)(h:Heap)(m:Str->Option Value)(x:Str)(u:Value):Prop :=
 (env.kindOf x=some .local/\m x=some u)\/((env.kindOf x=some .cell\/env.kindOf x=some .free)/\∃c,env.cells.lookup x=some c/\h.IsCell c (some u))
structure Cx.Ok(X:Cx):Prop where
 mod:Mod X.K X.mg X.base
 kind:X.env.scope.kind=.function
 glob:X.env.globals=mainGlobals
 blt:X.env.builtins=builtinsNs
 above:X.s₀.heap.objs.size<=X.env.locals
 inj:∀x y c,X.env.cells.lookup x=some c->X.env.cells.lookup y=some c->x=y
 has:∀x,(X.env.kindOf x=some .cell\/X.env.kindOf x=some .free)->∃c,X.env.cells.lookup x=some c
 cab:∀x c,X.fn x=true->X.env.cells.lookup x=some c->X.s₀.heap.objs.size<=c
 hd:X.calm=true->X.A.handled=none
 frames:X.A.frames=some X.stack
 stk:X.stack=X.outer\/(X.stack=X.env::X.outer/\X.env.frame=some X.env.locals)
 exf:∀b∈X.ex,b≠X.env.locals/\∀x c,X.env.cells.lookup x=some c->c≠b
 bs:∀b o,X.base.get? b=some o->X.s₀.heap.get? b=some o/\X.H_ b=none
 bsz:X.base.objs.size<=X.s₀.heap.objs.size
 noex:∀b o,X.base.get? b=some o->b∉X.ex
 exfs:∀b∈X.ex,b∉X.fs
 funs:X.s₀.heap.FunFrames X.base X.outer
 frf:∀b∈X.fs,X.H_ b=none
structure Inv(X:Cx)(pn:List (Addr×Obj))(Y:List (Option V))(H:Hp)(s:Shared):Prop where
 ok:X.Ok
 os:s.os=X.s₀.os
 bare:AllBare s.gens
 base:Un X.fs X.ex X.H_ H X.s₀.heap s.heap
 loc:∃m,s.heap.Ns X.env.locals m/\∀(i:Nat)(x:Str)(v:V),X.N[i]?=some x->Y[i]?=some (some v)->Vis X.env.scope x->∃u,RelV v u/\Look X.env s.heap m x u
 cell:∀x c,X.env.cells.lookup x=some c->∃v,s.heap.IsCell c v
 free:H X.env.locals=none
 freeC:∀x c,X.env.cells.lookup x=some c->H c=none
 pin:∀p∈X.pn++pn,s.heap.get? p.1=some p.2/\H p.1=none/\p.1≠X.env.locals/\p.1∉X.fs/\∀v,p.2.data≠.cell v
 hok:HOk X.prog X.w H s.heap
 len:Y.length=X.N.length
variable{X:Cx}{pn:List (Addr×Obj)}{Y:List (Option V)}{s:Shared}
def Cx.Ok.nofr(ok:X.Ok){o:Obj}(e:X.base.get? b=some o):b∉X.fs:=λa=>by
 have:=(ok.funs.mem a).1;rw[e]at this;cases this
theorem Inv.bs(I:Inv X pn Y H s):∀b o,X.base.get? b=some o->s.heap.get? b=some o/\H b=none:=λb o e =>
 ⟨I.base.keep b o (I.ok.bs b o e).1 (I.ok.bs b o e).2 (I.ok.nofr e) (I.ok.noex b o e),I.base.free b o (I.ok.bs b o e).1 (I.ok.bs b o e).2 (I.ok.noex b o e)⟩
def Inv.bk(I:Inv X pn Y H s):∀b o,X.base.get? b=some o->s.heap.get? b=some o:=λb o e=>(I.bs b o e).1
theorem Inv.mod(I:Inv X pn Y H s):Mod X.K X.mg X.base:=I.ok.mod
def Inv.kIn(I:Inv X pn Y H s):X.K.In s.heap:=I.ok.mod.kin.keeps I.bk
theorem Inv.lt(I:Inv X pn Y H s):X.env.locals<s.heap.objs.size:=let ⟨_,hn,_⟩:=I.loc;hn.lt
def Inv.sz(I:Inv X pn Y H s):X.s₀.heap.objs.size<=s.heap.objs.size:=zak I.ok.above (zfX I.lt)
def Inv.nofs(I:Inv X pn Y H s)(h:s.heap.objs.size<=a):a∉X.fs:=λd=>by
 obtain⟨_,o,ho,_⟩:=I.ok.funs.mem d;exact absurd (zaU (zae ho) (zak I.sz h)) (zcS _)
def Inv.cne(I:Inv X pn Y H s):∀x c,X.env.cells.lookup x=some c->c≠X.env.locals:=λx c e z=>by
 obtain⟨v,o,ho,hd⟩:=I.cell x c e;obtain⟨m,⟨o',es,ep,a,d,_⟩,_⟩:=I.loc;rw[z,a]at ho;cases ho;rw[d]at hd;cases hd
theorem Inv.funs(I:Inv X pn Y H s):s.heap.FunFrames X.base X.outer:=by
 have all:∀(l:List Env),(∀b∈frs l,b∈X.fs)->X.s₀.heap.FunFrames X.base l->s.heap.FunFrames X.base l:=by
  intro l
  induction l with
  |nil=>intro _ _;trivial
  |cons env r ih =>
   intro j hl;obtain⟨q,⟨L,o,a,k,ho,hd⟩,hr⟩:=hl;have g:L∈X.fs:=j L (by unfold frs;rw[zbL,a];exact zao)
   obtain⟨u,e⟩:=I.base.slot L o ho (I.ok.frf L g) g λz=>I.ok.exfs L z g;exact⟨q,⟨L,_,a,k,e,hd⟩,ih (λb d=>j b (by unfold frs;rw[zbL,a];exact zal _ d)) hr⟩
 exact all X.outer aA I.ok.funs
theorem Inv.stack(I:Inv X pn Y H s):s.heap.FunFrames X.base X.stack:=by
 rcases I.ok.stk with e|⟨e,hf⟩
 ·rw[e];exact I.funs
 rw[e];obtain⟨m,a,_⟩:=I.loc;refine .cons (by rw[I.ok.kind];decide) hf a ?_ I.funs
 exact Heap.get?_none_of_le (zak I.ok.bsz I.ok.above)
def Inv.stkSub(I:Inv X pn Y H s):∀b∈frs X.stack,b∈X.env.locals::X.fs:=λb a=>by
 rcases I.ok.stk with e|⟨e,hf⟩
 ·rw[e]at a;exact zal _ a
 rw[e]at a;unfold frs at a;rw[zbL,hf]at a;exact a
def Inv.stkFree(I:Inv X pn Y H s):∀b∈frs X.stack,H b=none:=λb a=>by
 rcases zam.mp (I.stkSub b a) with e|a
 ·rw[e];exact I.free
 obtain⟨_,o,ho,_⟩:=I.ok.funs.mem a;exact I.base.free b o ho (I.ok.frf b a) λz=>I.ok.exfs b z a
def Inv.step{t':Nat}{d':Drawn}{ch:List Addr}(I:Inv X pn Y H s)(j:∀ b∈ch,(b∈X.ex\/X.s₀.heap.objs.size<=b)/\b≠X.env.locals/\(∀ x c,X.env.cells.lookup x=some c->c≠b)/\∀ p∈X.pn++pn,p.1≠b)(keep:∀ b o,b≠X.env.locals->b∉X.fs->b∉ch->s.heap.get? b=some o->H b=none->h'.get? b=some o)(slot:∀ b o,b≠X.env.locals->b∈X.fs->b∉ch->s.heap.get? b=some o->H b=none->∃ L,h'.get? b=some {o with slots:=L})(free:∀ b o,b∉ch->s.heap.get? b=some o->H b=none->H' b=none)(there:∀ b o,b∉ch->s.heap.get? b=some o->∃ o',h'.get? b=some o')(tups:∀ b E,H b=some (.tup E)->H' b=some (.tup E))(frzs:∀ b o u,H b=some (.frz o u)->H' b=some (.frz o u))(tbls:∀ b ps,H b=some (.tbl ps)->∃ more,H' b=some (.tbl (ps++more)))(ns:∀ m,s.heap.Ns X.env.locals m->h'.Ns X.env.locals m)(M:HOk X.prog X.w H' h')(V:AllBare g') :
  Inv X pn Y H' {s with heap:=h',gens:=g',drawn:=d',toks:=t'}:=by
 have G:∀b o,X.s₀.heap.get? b=some o->b≠X.env.locals:=λb o e=>zaY (zaU (zae e) I.ok.above);have B:∀b o,X.s₀.heap.get? b=some o->b∉X.ex->b∉ch:=λb o e a D=>by
  rcases(j b D).1 with z|z
  ·exact a z
  exact absurd (zaU (zae e) z) (zcS _)
 have y:∀x c,X.env.cells.lookup x=some c->∀v,s.heap.IsCell c v->h'.IsCell c v:=λx c e v Zh=>by
  obtain⟨o,ho,hd⟩:=Zh;have g:c∉ch:=λz=>(j c z).2.2.1 x c e rfl;by_cases hc:c∈X.fs
  ·obtain⟨L,q⟩:=slot c o (I.cne x c e) hc g ho (I.freeC x c e);exact⟨_,q,hd⟩
  exact⟨o,keep c o (I.cne x c e) hc g ho (I.freeC x c e),hd⟩
 refine⟨I.ok,I.os,V,⟨λb o e n D a=>?_,λb o e n D a=>?_,λb o e n a=>?_,λb o e a=>?_,λb E e=>tups b E (I.base.tups b E e),λb o E e=>frzs b o E (I.base.frzs b o E e),λb ps e=>?_⟩,?_,λx c e=>?_,?_,λx c e=>?_,λp Q=>?_,M,I.len⟩
 ·exact keep b o (G b o e) D (B b o e a) (I.base.keep b o e n D a) (I.base.free b o e n a)
 ·obtain⟨L,e1⟩:=I.base.slot b o e n D a;obtain⟨h1,e2⟩:=slot b _ (G b o e) D (B b o e a) e1 (I.base.free b o e n a);exact⟨h1,e2⟩
 ·obtain⟨o',e1⟩:=I.base.there b o e a;exact free b o' (B b o e a) e1 (I.base.free b o e n a)
 ·obtain⟨o',e1⟩:=I.base.there b o e a;exact there b o' (B b o e a) e1
 ·obtain⟨m1,e1⟩:=I.base.tbls b ps e;obtain⟨m2,e2⟩:=tbls b _ e1;exact⟨m1++m2,by rw[e2,Array.append_assoc]⟩
 ·obtain⟨m,R,hl⟩:=I.loc;refine⟨m,ns m R,λi x v e1 e2 e3=>?_⟩;obtain⟨u,r,l⟩:=hl i x v e1 e2 e3;refine⟨u,r,?_⟩;rcases l with l|⟨k,c,e,z⟩
  ·exact .inl l
  exact .inr ⟨k,c,e,y x c e _ z⟩
 ·obtain⟨v,z⟩:=I.cell x c e;exact⟨v,y x c e v z⟩
 ·obtain⟨m,⟨o,_,_,ho,_⟩,_⟩:=I.loc;exact free _ o (λz=>(j _ z).2.1 rfl) ho I.free
 ·obtain⟨v,o,ho,hd⟩:=I.cell x c e;exact free c o (λz=>(j c z).2.2.1 x c e rfl) ho (I.freeC x c e)
 obtain⟨e,n,O,N,d⟩:=I.pin p Q;have g:p.1∉ch:=λz=>(j p.1 z).2.2.2 p Q rfl;exact⟨keep p.1 p.2 O N g e n,free p.1 p.2 g e n,O,N,d⟩
def Inv.un{t':Nat}(I:Inv X pn Y H s)(u:Un X.fs [] H H' s.heap h')(d:HOk X.prog X.w H' h'):Inv X pn Y H' {s with heap:=h',toks:=t'}:=by
 obtain⟨m,⟨o,es,ep,ho,r⟩,_⟩:=id I.loc;obtain⟨x,v⟩:=u.any ho I.free aE
 exact I.step (g':=s.gens) (d':=s.drawn) (ch:=[]) (λ_ z=>nomatch z) (λb o _ g _ e n=>u.keep b o e n g aE) (λb o _ g _ e n=>u.slot b o e n g aE) (λb o _ e n=>u.free b o e n aE) (λb o _ e=>u.there b o e aE) u.tups u.frzs u.tbls (λm' q=>by
  obtain⟨o',j,k,a,l⟩:=q;rw[ho]at a;cases a;exact⟨_,j,k,v,l⟩) d I.bare
def Inv.call{t':Nat}{d':Drawn}(I:Inv X pn Y H s)(u:Un (frs X.stack) ch H H' s.heap h')(j:HOk X.prog X.w H' h')(B:AllBare g')(g:∀ b∈ch,(b∈X.ex\/X.s₀.heap.objs.size<=b)/\b≠X.env.locals/\(∀ x c,X.env.cells.lookup x=some c->c≠b)/\∀ p∈X.pn++pn,p.1≠b) :
  Inv X pn Y H' {s with heap:=h',gens:=g',drawn:=d',toks:=t'}:=by
 obtain⟨m,⟨o,es,ep,ho,r⟩,_⟩:=id I.loc;obtain⟨G,k⟩:=u.any ho I.free λz=>(g _ z).2.1 rfl;exact I.step (ch:=ch) g (λb o k D a e n=>u.keep b o e n (λz=>(zam.mp (I.stkSub b z)).elim k D) a) (λb o _ _ a e n=>u.any e n a) (λb o a e n=>u.free b o e n a) (λb o a e=>u.there b o e a) u.tups u.frzs u.tbls (λm' y=>by
  obtain⟨o',l,q,d,v⟩:=y;rw[ho]at d;cases d;exact⟨_,l,q,k,v⟩) j B
def Inv.turned{t':Nat}{it:Addr}(I:Inv X pn Y H s)(k:∀ b o,b≠it->s.heap.get? b=some o->h'.get? b=some o)(j:H it=none)(g:it≠X.env.locals)(J:it∈X.ex\/X.s₀.heap.objs.size<=it)(h2:∀ x c,X.env.cells.lookup x=some c->c≠it)(B:∀ p∈X.pn++pn,p.1≠it):Inv X pn Y H {s with heap:=h',toks:=t'}:=by
 have d:∀b u,H b=some u->b≠it:=λb u e z=>by rw[z,j]at e;cases e
 refine I.step (g':=s.gens) (d':=s.drawn) (ch:=[it]) (λb y=>?_) (λb o _ _ a e _=>k b o (λz=>a (by simp[z])) e) (λb o _ _ a e _=>⟨o.slots,k b o (λz=>a (by simp[z])) e⟩) (λ_ _ _ _ n=>n)
  (λb o a e=>⟨o,k b o (λz=>a (by simp[z])) e⟩) (λ_ _ e=>e) (λ_ _ _ e=>e) (λb ps e=>⟨#[],by rw[e];simp⟩) (λm l=>?_) (λb u e=>?_) I.bare
 ·have e:b=it:=by simpa using y
  subst e;exact⟨J,g,h2,B⟩
 ·obtain⟨o,es,ep,ho,r⟩:=l;exact⟨o,es,ep,k _ o (Ne.symm g) ho,r⟩
 refine(I.hok b u e).stay (λc v a q=>k c v ?_ q) aA λ_ _ q=>q;rcases a with z|z
 ·rw[z];exact d b u e
 exact d c _ z
def Inv.tok(I:Inv X pn Y H s)(t:Nat):Inv X pn Y H {s with toks:=t}:=I.un (h':=s.heap) (t':=t) Un.refl I.hok
theorem Inv.kept(I:Inv X pn Y H s)(k:∀ b u,s.heap.get? b=some u->h'.get? b=some u):Inv X pn Y H {s with heap:=h',toks:=t'}:=I.un (Un.kept k) (I.hok.kept k)
theorem Inv.laid(I:Inv X pn Y H s)(k:∀ b u,s.heap.get? b=some u->h'.get? b=some u)(e:s.heap.objs.size<=a)(d:yy X.prog X.w (upd H a o) h' a o) :
  Inv X pn Y (upd H a o) {s with heap:=h',toks:=t'}:=I.un (Un.laid k e (I.hok.fresh e)) (I.hok.laid k e d)
theorem Inv.write(I:Inv X pn Y H s)(g:Mut (H x))(j:e=x\/H e=some (.own x))(k:∀ b u,b≠e->s.heap.get? b=some u->h'.get? b=some u)(a:∃ u,h'.get? e=some u)(d:yy X.prog X.w (upd H x o) h' x o):Inv X pn Y (upd H x o) {s with heap:=h',toks:=t'}:=I.un (Un.write g j k a) (I.hok.write g j k a d)
def Inv.weak(I:Inv X pn Y H s)(hl:σ'.length=Y.length)(w:∀ (i:Nat) v,σ'[i]?=some (some v)->Y[i]?=some (some v)):Inv X pn σ' H s :=
 ⟨I.ok,I.os,I.bare,I.base,let ⟨m,hn,hl'⟩:=I.loc;⟨m,hn,λi x v e1 e2 e3=>hl' i x v e1 (w i v e2) e3⟩,I.cell,I.free,I.freeC,I.pin,I.hok,hl.trans I.len⟩
def Inv.pins_of(I:Inv X pn Y H s)(h:∀ p∈pins',s.heap.get? p.1=some p.2/\H p.1=none/\p.1≠X.env.locals/\p.1∉X.fs/\∀ v,p.2.data≠.cell v):Inv X pins' Y H s :=
 ⟨I.ok,I.os,I.bare,I.base,I.loc,I.cell,I.free,I.freeC,λp a=>(zas.mp a).elim (λz=>I.pin p (zaI _ z)) (h p),I.hok,I.len⟩
def Rx{N:List Str}(d:N.Nodup){i j:Nat}{x:Str}(a:N[i]?=some x)(b:N[j]?=some x):i=j:=by
 obtain⟨J,e1⟩:=zag.mp a;obtain⟨h2,e2⟩:=zag.mp b;exact(zeN d).mp (e1.trans e2.symm)
def Wz(I:Inv X pn Y H s)(hN:X.N.Nodup)(hi:X.N[i]?=some x)(D:Loc X.env.scope x)(r:RelV v u)(h:∀ s',Inv X pn (Y.set i (some v)) H s'->(∃ a,Heap.SameBut a s.heap s'.heap/\(a=X.env.locals\/X.env.cells.lookup x=some a))->Q () s')(ds:X.fn x=true\/X.env.scope.names.lookup x=some .local:=by first|exact .inl rfl|exact .inr rfl|assumption):wpAny M A (storeName X.env x u) Q xs s:=by
 obtain⟨m,hn,hl⟩:=id I.loc;have L:(X.env.scope.kind==.class || (X.env.scope.kind==.module&&X.env.locals != X.env.globals))=false:=by rw[I.ok.kind];rfl
 have B:i<Y.length:=by rw[I.len];exact(zag.mp hi).1
 have cne:=I.cne;have R:∀{a:Addr}{h':Heap}{t':Nat},Heap.SameBut a s.heap h'->X.s₀.heap.objs.size<=a->H a=none->(∀p∈X.pn++pn,p.1≠a)->(a=X.env.locals\/X.env.cells.lookup x=some a) ->
   (∃m,h'.Ns X.env.locals m/\∀(j:Nat)(y:Str)(G:V),X.N[j]?=some y->(Y.set i (some v))[j]?=some (some G)->Vis X.env.scope y->∃u,RelV G u/\Look X.env h' m y u)->(∀y c,X.env.cells.lookup y=some c->∃w,h'.IsCell c w)->Q () {s with heap:=h',toks:=t'}:=λ{a h' t'} g ab ds hp ha lc cl=>by
  have k:∀b o,X.s₀.heap.get? b=some o->b≠a:=λb o e=>zaY (zaU (zae e) ab);refine h _ ⟨I.ok,I.os,I.bare,⟨λb o e n hb D=>(g.2 b (k b o e)).trans (I.base.keep b o e n hb D),λb o e n hb D=>?_,I.base.free,λb o e D=>?_,I.base.tups,I.base.frzs,I.base.tbls⟩,lc,cl,I.free,I.freeC,λp q=>?_,λb ob e=>?_,by simpa using I.len⟩ ⟨_,g,ha⟩
  ·obtain⟨sl,e1⟩:=I.base.slot b o e n hb D;exact⟨sl,(g.2 b (k b o e)).trans e1⟩
  ·obtain⟨o',e1⟩:=I.base.there b o e D;exact⟨o',(g.2 b (k b o e)).trans e1⟩
  ·obtain⟨e,n,ne,nf,d⟩:=I.pin p q;exact⟨(g.2 p.1 (hp p q)).trans e,n,ne,nf,d⟩
  refine(I.hok b ob e).stay (λc W l q=>(g.2 c ?_).trans q) aA λ_ _ q=>q;rintro rfl;rcases l with rfl|l
  ·rw[ds]at e;cases e
  rw[ds]at l;cases l
 rcases D with hk|hk
 ·refine wpAny_storeName_local hk hn (λh' a3 g=>R g I.ok.above I.free (λp q=>(I.pin p q).2.2.1) (.inl rfl) ⟨_,a3,λj y G e1 e2 e3=>?_⟩ λy c e=>?_) L
  ·by_cases hj:j=i
   ·subst hj;rw[hi]at e1;cases e1;rw[zaL B]at e2;cases e2;exact⟨u,r,.inl ⟨hk,by simp⟩⟩
   rw[zaC (Ne.symm hj)]at e2;obtain⟨u',r',q⟩:=hl j y G e1 e2 e3;refine⟨u',r',?_⟩;rcases q with⟨k,e⟩|⟨k,c,e,z⟩
   ·refine .inl ⟨k,?_⟩;have:y≠x:=λe=>hj (Rx hN e1 (e▸hi));simp[this,e]
   exact .inr ⟨k,c,e,z.sameBut g (cne y c e)⟩
  obtain⟨W,z⟩:=I.cell y c e;exact⟨W,z.sameBut g (cne y c e)⟩
 have a4:X.fn x=true:=by
  rcases ds with z|z
  ·exact z
  rw[z]at hk;cases hk
 obtain⟨c,l⟩:=I.ok.has x (.inl hk);obtain⟨W,z⟩:=I.cell x c l;obtain⟨oc,a0,h1⟩:=id z;refine wpAny_storeName_cell I.ok.kind hk l z (λh' O g=>R g (I.ok.cab x c a4 l) (I.freeC x c l) (λp q e=>?_) (.inr l) ⟨m,hn.sameBut g (Ne.symm (cne x c l)),λj y G e1 e2 e3=>?_⟩ λy c' e=>?_)
 ·obtain⟨e',_,_,_,d⟩:=I.pin p q;rw[e,a0]at e';exact d W (by rw[<- zaT e'];exact h1)
 ·by_cases hj:j=i
  ·subst hj;rw[hi]at e1;cases e1;rw[zaL B]at e2;cases e2;exact⟨u,r,.inr ⟨.inl hk,c,l,O⟩⟩
  rw[zaC (Ne.symm hj)]at e2;obtain⟨u',r',q⟩:=hl j y G e1 e2 e3;refine⟨u',r',?_⟩;rcases q with q|⟨k,c',e,z'⟩
  ·exact .inl q
  refine .inr ⟨k,c',e,z'.sameBut g ?_⟩;rintro rfl;exact hj (Rx hN e1 (I.ok.inj _ _ _ e l▸hi))
 by_cases hcc:c'=c
 ·subst hcc;exact⟨_,O⟩
 obtain⟨w2,z2⟩:=I.cell y c' e;exact⟨w2,z2.sameBut g hcc⟩
def Rg(I:Inv X pn Y H s)(e:X.N.Nodup)(hi:X.N[i]?=some x)(a:Loc X.env.scope x)(r:RelV v u)(h:∀ s',Inv X pn (Y.set i (some v)) H s'->Q () s')(d:X.fn x=true\/X.env.scope.names.lookup x=some .local:=by first|exact .inl rfl|exact .inr rfl|assumption):wpAny M A (storeName X.env x u) Q xs s :=
 Wz I e hi a r (λs' g _=>h s' g) d
def Inv.call'(I:Inv X pn Y H s)(ho:s'.os=s.os)(u:Un (frs X.stack) ch H H' s.heap s'.heap)(a:HOk X.prog X.w H' s'.heap)(g:AllBare s'.gens)(d:∀ b∈ch,(b∈X.ex\/X.s₀.heap.objs.size<=b)/\b≠X.env.locals/\(∀ x c,X.env.cells.lookup x=some c->c≠b)/\∀ p∈X.pn++pn,p.1≠b):Inv X pn Y H' s':=by
 obtain⟨h',g',d',t',o'⟩:=s';have e:o'=s.os:=ho;subst e;exact I.call (g':=g') (t':=t') (d':=d') u a g d
abbrev XK:=Value->Option Addr->Hp->Prop
abbrev St:=List (Option V)
abbrev VK:=V->Hp->Prop
abbrev TE:=St->Hp->VK->Prop
abbrev TT:=St->Hp->(Bool->Hp->Prop)->Prop
abbrev TA:=St->Hp->(List V->Hp->Prop)->Prop
structure Ends where
 nx:St->Hp->Prop
 rt:VK
 bk:St->Hp->Prop:=λ_ _=>False
 ct:St->Hp->Prop:=λ_ _=>False
abbrev TS:=Ends->St->Hp->Prop
def EP(X:Cx)(pn:List (Addr×Obj))(Y:St)(Q:VK)(u:Value)(s':Shared):Prop:=∃v H',Inv X pn Y H' s'/\RelV v u/\Q v H'
def TP(X:Cx)(pn:List (Addr×Obj))(Y:St)(Q:Bool->Hp->Prop)(b:Bool)(s':Shared):Prop:=∃H',Inv X pn Y H' s'/\Q b H'
def AP(X:Cx)(pn:List (Addr×Obj))(Y:St)(Q:List V->Hp->Prop)(us:List Value)(s':Shared):Prop:=∃vs H',Inv X pn Y H' s'/\Vals vs us/\Q vs H'
def SP(X:Cx)(pn:List (Addr×Obj))(D:Ends)(f:Flow)(s':Shared):Prop :=
 match f with
 |.next=>∃σ' H',Inv X pn σ' H' s'/\D.nx σ' H'
 |.brk=>∃σ' H',Inv X pn σ' H' s'/\D.bk σ' H'
 |.cont=>∃σ' H',Inv X pn σ' H' s'/\D.ct σ' H'
 |.ret u=>∃v σ' H',Inv X pn σ' H' s'/\RelV v u/\D.rt v H'
def PE(X:Cx)(e:Expr)(t:TE):Prop :=
 ∀(pn:List (Addr×Obj))(s:Shared)(Y:St)(H:Hp)(Q:VK),Inv X pn Y H s->t Y H Q->wpAny (model X.prog X.w) X.A (eval e X.env) (EP X pn Y Q) X.xe s
def PT(X:Cx)(e:Expr)(t:TT):Prop :=
 ∀(pn:List (Addr×Obj))(s:Shared)(Y:St)(H:Hp)(Q:Bool->Hp->Prop),Inv X pn Y H s->t Y H Q->wpAny (model X.prog X.w) X.A (isTrue e X.env (eval e X.env)) (TP X pn Y Q) X.xe s
def PW(X:Cx)(e:Expr)(t:TT):Prop :=
 ∀(whole:Sem Value)(pn:List (Addr×Obj))(s:Shared)(Y:St)(H:Hp)(Q:Bool->Hp->Prop),Inv X pn Y H s->t Y H Q->wpAny (model X.prog X.w) X.A (isTrue e X.env whole) (TP X pn Y Q) X.xe s
def PW.pt(h:PW X e t):PT X e t:=h _
def PA(X:Cx)(es:List Expr)(t:TA):Prop :=
 ∀(pos:Pos)(pn:List (Addr×Obj))(s:Shared)(Y:St)(H:Hp)(Q:List V->Hp->Prop),Inv X pn Y H s->t Y H Q->wpAny (model X.prog X.w) X.A (spliced (backTo pos (starEach es X.env))) (AP X pn Y Q) X.xe s
def PS(X:Cx)(st:Stmt)(t:TS):Prop :=
 ∀(pn:List (Addr×Obj))(s:Shared)(Y:St)(H:Hp)(D:Ends),Inv X pn Y H s->t D Y H->wpAny (model X.prog X.w) X.A (exec st X.env) (SP X pn D) X.xe s
def PSs(X:Cx)(st:List Stmt)(t:TS):Prop :=
 ∀(pn:List (Addr×Obj))(s:Shared)(Y:St)(H:Hp)(D:Ends),Inv X pn Y H s->t D Y H->wpAny (model X.prog X.w) X.A (execs st X.env) (SP X pn D) X.xe s
def thn{α:Type}{t:Sem α}{Q d:α->Shared->Prop}{xs:Value->Shared->Prop}(h:wpAny M A t Q xs s)(e:∀ a s,Q a s->d a s):wpAny M A t d xs s:=wpAny_mono h e λ_ _ x=>x
def tVar(i:Nat):TE:=λY H Q=>∃v,Y[i]?=some (some v)/\Q v H
def tC(v:V):TE:=λ_ H Q=>Q v H
abbrev D_(x:Str):Prop:=(x==("__debug__" : Str))=false
def vi{pos:Pos}(B:X.N[i]?=some x)(q:Vis X.env.scope x)(hd:D_ x:=by decide)(j:(x==("__classdict__" : Str))=false:=by decide):PE X (.Name x pos) (tVar i):=by
 intro pn s Y H Q I h;obtain⟨v,e,h⟩:=h;obtain⟨m,y,hl⟩:=I.loc;obtain⟨u,r,l⟩:=hl i x v B e q;have g:EP X pn Y Q u s:=⟨v,H,I,r,h⟩;rcases l with⟨d,z⟩|⟨d,c,k,a⟩
 ·exact wpAny_Name (wpAny_loadName_local I.ok.kind d y z g) hd
 rcases d with d|d
 ·exact wpAny_Name (wpAny_loadName_cell I.ok.kind d k a g) hd
 exact wpAny_Name (wpAny_loadName_free I.ok.kind d k a g j) hd
def N3 {i j pos}:PE X (.Constant (.int i) j pos) (tC (.int i)):=λ_ _ _ H _ I h=>wpAny_Constant_int ⟨.int i,H,I.tok _,⟨_,rfl⟩,h⟩
def z2r {b j pos}:PE X (.Constant (.bool b) j pos) (tC (.bl b)):=λ_ _ _ H _ I h=>Constant_bool ⟨.bl b,H,I,rfl,h⟩
def Hy {j pos}:PE X (.Constant .none j pos) (tC .non):=λ_ _ _ H _ I h=>Constant_none ⟨.non,H,I,rfl,h⟩
def A5 {x j pos}:PE X (.Constant (.str x) j pos) (tC (.str x)):=λ_ _ _ H _ I h=>Calls.Constant_str ⟨.str x,H,I.tok _,⟨_,rfl⟩,h⟩
def Gl(X:Cx)(x:Str):Prop:=X.env.kindOf x=some .globalImplicit
def Tv{Y:St}{pos:Pos}(I:Inv X pn Y H s)(d:Gl X x)(a:X.mg x=some u)(h:Q u s)(hd:D_ x:=by decide):wpAny (model X.prog X.w) X.A (eval (.Name x pos) X.env) Q xs s :=
 Calls.Name_function_global I.ok.kind d (Calls.loadGlobal_global (by rw[I.ok.glob];exact I.mod.glob.keeps I.bk) a h) hd
def Yz{Y:St}{pos:Pos}(I:Inv X pn Y H s)(g:Gl X x)(e:X.mg x=none)(a:bootBuiltins x=some u)(h:Q u s)(d:x≠"__name__":=by decide)(hd:D_ x:=by decide):wpAny (model X.prog X.w) X.A (eval (.Name x pos) X.env) Q xs s:=by
 obtain⟨j,J,h2⟩:=I.mod.blt;exact Calls.Name_function_global I.ok.kind g (Calls.loadGlobal_builtin (by rw[I.ok.glob];exact I.mod.glob.keeps I.bk) e (by rw[I.ok.blt];exact J.keeps I.bk) ((h2 x d).trans a) h) hd
def Tl{pos:Pos}(d:Gl X x)(a:X.mg x=some u)(r:RelV v u)(hd:D_ x:=by decide):PE X (.Name x pos) (tC v) :=
 λ_ _ _ H _ I h=>Tv I d a ⟨v,H,I,r,h⟩ hd
def Ea{pos:Pos}(g:Gl X x)(e:X.mg x=none)(a:bootBuiltins x=some u)(r:RelV v u)(d:x≠"__name__":=by decide)(hd:D_ x:=by decide):PE X (.Name x pos) (tC v) :=
 λ_ _ _ H _ I h=>Yz I g e a ⟨v,H,I,r,h⟩ d hd
section
variable{a b:Expr}{ta tb:TE}{pos:Pos}
variable{tA tB':TT}{rest:List Expr}
def tAnd(t u:TT):TT:=λY H Q=>t Y H λc H1=>if c=true then u Y H1 Q else Q false H1
def tOr(t u:TT):TT:=λY H Q=>t Y H λc H1=>if c=true then Q true H1 else u Y H1 Q
def tNot(t:TT):TT:=λY H Q=>t Y H λc H1=>Q (!c) H1
def Fy(d:PT X a tA):PW X (.BoolOp .And [a] pos) tA:=by
 intro g pn s Y H Q I h;refine isTrue_and (thn (d pn s Y H Q I h) λc j e=>?_);cases c with
 |true=>exact isTrue_and_nil e
 |false=>exact e
def Bm(d:PT X a tA):PW X (.BoolOp .Or [a] pos) tA:=by
 intro g pn s Y H Q I h;refine isTrue_or (thn (d pn s Y H Q I h) λc j e=>?_);cases c with
 |false=>exact isTrue_or_nil e
 |true=>exact e
def Bn(l:PT X a tA)(k:PW X (.BoolOp .And (b::rest) pos) tB'):PW X (.BoolOp .And (a::b::rest) pos) (tAnd tA tB'):=by
 intro g pn s Y H Q I h;refine isTrue_and (thn (l pn s Y H _ I h) λc j Zh=>?_);obtain⟨H1,e,d⟩:=Zh;cases c with
 |true=>exact k g pn j Y H1 Q e d
 |false=>exact⟨H1,e,d⟩
def z2n(l:PT X a tA)(k:PW X (.BoolOp .Or (b::rest) pos) tB'):PW X (.BoolOp .Or (a::b::rest) pos) (tOr tA tB'):=by
 intro g pn s Y H Q I h;refine isTrue_or (thn (l pn s Y H _ I h) λc j Zh=>?_);obtain⟨H1,e,d⟩:=Zh;cases c with
 |true=>exact⟨H1,e,d⟩
 |false=>exact k g pn j Y H1 Q e d
def Bq(d:PT X a tA):PT X (.UnaryOp .Not a pos) (tNot tA):=by
 intro pn s Y H Q I h;exact isTrue_not (d pn s Y H (λc H1=>Q (!c) H1) I h)
def z2c(ta tb:TE):TE:=λY H Q=>ta Y H λx H1=>∃c,x=.bl c/\if c=true then tb Y H1 Q else Q (.bl false) H1
def z1w(ta:TE):TE:=λY H Q=>ta Y H λx H1=>∃c,x=.bl c/\Q (.bl (!c)) H1
def A6 {op} (h:PE X a t):PE X (.BoolOp op [a] pos) t:=λpn s Y H Q I d=>BoolOp_one (h pn s Y H Q I d)
def A9(k:PE X a ta)(j:PE X (.BoolOp .And (b::rest) pos) tb):PE X (.BoolOp .And (a::b::rest) pos) (z2c ta tb):=by
 intro pn s Y H Q I h;refine BoolOp_and (thn (k pn s Y H _ I h) λv g Zh=>?_);obtain⟨x,H1,e,r1,d⟩:=Zh;obtain⟨c,rfl,d⟩:=d;cases r1;refine zeG ?_;cases c with
 |true=>exact j pn g Y H1 Q e d
 |false=>exact⟨.bl false,H1,e,rfl,d⟩
def A7(e:PE X a ta):PE X (.UnaryOp .Not a pos) (z1w ta):=by
 intro pn s Y H Q I h;refine UnaryOp_ (thn (e pn s Y H _ I h) λv j Zh=>?_);obtain⟨x,H1,g,r1,d⟩:=Zh;obtain⟨c,rfl,d⟩:=d;cases r1;exact not_of (zeG ⟨.bl (!c),H1,g,rfl,d⟩)
def tIf(t:TT)(ta tb:TE):TE:=λY H Q=>t Y H λc H1=>if c=true then ta Y H1 Q else tb Y H1 Q
def Kk(k:PT X c tA)(q:PE X a ta)(l:PE X b tb):PE X (.IfExp c a b pos) (tIf tA ta tb):=by
 intro pn s Y H Q I h;refine wpAny_IfExp (thn (k pn s Y H _ I h) λd e Zh=>?_);obtain⟨H1,j,g⟩:=Zh;cases d with
 |true=>exact q pn e Y H1 Q j g
 |false=>exact l pn e Y H1 Q j g
end
def SqL(K:W.Frag)(H:Hp)(a:Addr)(E:List V):Prop :=
 Rd H a (.lst E) \/
  ∃(o:Obj)(its:Array Value)(n:Nat),K.lookup a=some o/\o.cls=.type "list"/\o.dict=none/\o.data=.seq its n/\its.size<=sizeLine/\Vals E its.toList
def SqT(K:W.Frag)(H:Hp)(a:Addr)(E:List V):Prop :=
 Rd H a (.tup E) \/
  ∃(o:Obj)(its:Array Value)(n:Nat),K.lookup a=some o/\o.cls=.type "tuple"/\o.data=.seq its n/\its.size<=sizeLine/\Vals E its.toList
def absV:Value->Option V
 |.none=>some .non
 |.bool b=>some (.bl b)
 |.int i _=>some (.int i)
 |.str x _=>some (.str x)
 |.bytes b _=>some (.byt b)
 |.float b _=>some (.flt b)
 |.ref a=>some (.ref a)
 |.type n=>some (.ty n)
 |_=>none
def RelV.abs(r:RelV x u):absV u=some x:=by
 cases x with
 |non=>cases r;rfl
 |bl _=>cases r;rfl
 |int _=>obtain⟨t,rfl⟩:=r;rfl
 |str _=>obtain⟨t,rfl⟩:=r;rfl
 |byt _=>obtain⟨t,rfl⟩:=r;rfl
 |flt _=>obtain⟨t,rfl⟩:=r;rfl
 |ref _=>cases r;rfl
 |ty _=>cases r;rfl
theorem RelV.inj(r:RelV x u)(q:RelV y u):x=y:=zaT (r.abs.symm.trans q.abs)
theorem Vals.inj:∀{E ys:List V}{us:List Value},Vals E us->Vals ys us->E=ys
 |_,_,_,.nil,.nil=>rfl
 |_,_,_,.cons r t,.cons r' t'=>by rw[r.inj r',Vals.inj t t']
variable{Y:St}{E ys:List V}
def SqL.of{K:W.Frag}(h:H a=some (.lst E)):SqL K H a E:=.inl (.inl h)
def SqT.of{K:W.Frag}(h:H a=some (.tup E)):SqT K H a E:=.inl (.inl h)
def Inv.list(I:Inv X pn Y H s)(h:SqL X.K H a E):∃its:List Value,Vals E its/\PlainL s.heap a its.toArray/\E.length<=sizeLine:=by
 rcases h with h|⟨o,its,n,hk,hc,hd,hs,hz,r⟩
 ·obtain⟨z,its,n,r,e⟩:=h.ok I.hok;exact⟨its,r,⟨_,n,e,rfl,rfl,rfl⟩,z⟩
 refine⟨its.toList,r,⟨o,n,I.kIn a o hk,hc,hd,by simpa using hs⟩,?_⟩
 have e:=r.length;simp only[zcQ]at e;omega
def Inv.tuple(I:Inv X pn Y H s)(h:SqT X.K H a E):∃its:List Value,Vals E its/\IsTup s.heap a its.toArray/\E.length<=sizeLine:=by
 rcases h with h|⟨o,its,n,hk,hc,hs,hz,r⟩
 ·obtain⟨z,its,r,p⟩:=h.ok I.hok;exact⟨its,r,p.1,z⟩
 refine⟨its.toList,r,⟨o,I.kIn a o hk,hc,n,by simpa using hs⟩,?_⟩
 have e:=r.length;simp only[zcQ]at e;omega
def Inv.list_inj(I:Inv X pn Y H s)(h:SqL X.K H a E)(h':SqL X.K H a ys):E=ys:=by
 obtain⟨its,r,⟨o,n,e,_,_,d⟩,_⟩:=I.list h;obtain⟨its',j,⟨o',k,g,_,_,d'⟩,_⟩:=I.list h';rw[e]at g;cases g;rw[d]at d'
 injection d' with d1 _
 have:its=its':=by simpa using zbZ Array.toList d1
 subst this;exact r.inj j
def Inv.tuple_inj(I:Inv X pn Y H s)(h:SqT X.K H a E)(h':SqT X.K H a ys):E=ys:=by
 obtain⟨its,r,⟨o,e,_,n,d⟩,_⟩:=I.tuple h;obtain⟨its',j,⟨o',g,_,k,d'⟩,_⟩:=I.tuple h';rw[e]at g;cases g;rw[d]at d'
 injection d' with d1 _
 have:its=its':=by simpa using zbZ Array.toList d1
 subst this;exact r.inj j
abbrev Cx.wish(X:Cx)(xs:Value->Shared->Prop):Cx:={X with xe:=xs}
abbrev Cx.nox(X:Cx):Cx:=X.wish λ_ _=>False
theorem Cx.Ok.wish{X:Cx}(ok:X.Ok)(xs:Value->Shared->Prop):(X.wish xs).Ok :=
 ⟨ok.mod,ok.kind,ok.glob,ok.blt,ok.above,ok.inj,ok.has,ok.cab,ok.hd,ok.frames,ok.stk,ok.exf,ok.bs,ok.bsz,ok.noex,ok.exfs,ok.funs,ok.frf⟩
def Cx.Ok.unwish{X:Cx}{xs:Value->Shared->Prop}(ok:(X.wish xs).Ok):X.Ok :=
 ⟨ok.mod,ok.kind,ok.glob,ok.blt,ok.above,ok.inj,ok.has,ok.cab,ok.hd,ok.frames,ok.stk,ok.exf,ok.bs,ok.bsz,ok.noex,ok.exfs,ok.funs,ok.frf⟩
variable{xs:Value->Shared->Prop}
theorem Inv.wish(I:Inv X pn Y H s)(xs:Value->Shared->Prop):Inv (X.wish xs) pn Y H s:=⟨I.ok.wish xs,I.os,I.bare,I.base,I.loc,I.cell,I.free,I.freeC,I.pin,I.hok,I.len⟩
theorem Inv.unwish(I:Inv (X.wish xs) pn Y H s):Inv X pn Y H s:=⟨I.ok.unwish,I.os,I.bare,I.base,I.loc,I.cell,I.free,I.freeC,I.pin,I.hok,I.len⟩
theorem SP.unwish{D:Ends}(h:SP (X.wish xs) pn D f s'):SP X pn D f s':=by
 cases f with
 |next=>obtain⟨σ',H',I,q⟩:=h;exact⟨σ',H',I.unwish,q⟩
 |brk=>obtain⟨σ',H',I,q⟩:=h;exact⟨σ',H',I.unwish,q⟩
 |cont=>obtain⟨σ',H',I,q⟩:=h;exact⟨σ',H',I.unwish,q⟩
 |ret u=>obtain⟨v,σ',H',I,r,q⟩:=h;exact⟨v,σ',H',I.unwish,r,q⟩
theorem PSs.nox{st:List Stmt}{t:TS}(h:PSs X.nox st t):PSs X st t:=λpn s Y H D I a =>
 wpAny_mono (h pn s Y H D (I.wish _) a) (λ_ _ q=>q.unwish) λ_ _ z=>False.elim z
section
variable{st:Stmt}{rest:List Stmt}{t u:TS}{e:Expr}{te:TE}{pos:Pos}
def z1x:TS:=λD Y H=>D.nx Y H
def tSeq(t u:TS):TS:=λD Y H=>t {D with nx:=u D} Y H
def bh:PSs X [] z1x:=λ_ _ Y H _ I h=>wpAny_execs_nil ⟨Y,H,I,h⟩
def wc(J:PS X st t)(h2:PSs X rest u):PSs X (st::rest) (tSeq t u):=by
 intro pn s Y H D I h;refine wpAny_execs_cons (thn (J pn s Y H {D with nx:=u D} I h) λf a q=>?_);cases f with
 |next =>
  obtain⟨σ',H',d,q⟩:=q;exact h2 pn a σ' H' D d q
 |ret v=>exact q
 |brk=>exact q
 |cont=>exact q
def sj(J:PS X st t):PSs X [st] t:=by
 intro pn s Y H D I h;refine wpAny_execs_cons (thn (J pn s Y H D I h) λf a q=>?_);cases f with
 |next=>exact wpAny_execs_nil q
 |ret v=>exact q
 |brk=>exact q
 |cont=>exact q
def Inv.quiet(I:Inv X pn Y H s):interactive X.env=false:=by simp[interactive,I.ok.kind]
def Lr(te:TE):TS:=λD Y H=>te Y H λ_ H1=>D.nx Y H1
def gk(g:PE X e te)(d:swapsWith e none pos.line X.env=pure false:=by rfl):PS X (.Expr e pos) (Lr te):=by
 intro pn s Y H D I h;exact wpAny_Expr_any (thn (g pn s Y H _ I h) λv k ⟨x,H1,j,r1,a⟩=>⟨Y,H1,j,a⟩) I.quiet d
def tRet(te:TE):TS:=λD Y H=>te Y H D.rt
def j9(d:PE X e te):PS X (.Return (some e) pos) (tRet te):=by
 intro pn s Y H D I h;exact wpAny_Return_some (thn (d pn s Y H _ I h) λv j ⟨x,H1,g,r1,a⟩=>⟨x,Y,H1,g,r1,a⟩)
def tIfS(c:TT)(t u:TS):TS:=λD Y H=>c Y H λb H1=>if b=true then t D Y H1 else u D Y H1
def Ov{a b:List Stmt}{tc:TT}(k:PT X c tc)(q:PSs X a t)(l:PSs X b u):PS X (.If c a b pos) (tIfS tc t u):=by
 intro pn s Y H D I h;refine wpAny_If (thn (k pn s Y H _ I h) λd e Zh=>?_);obtain⟨H1,j,g⟩:=Zh;cases d with
 |true=>exact q pn e Y H1 D j g
 |false=>exact l pn e Y H1 D j g
def Cq:TS:=λ_ _ _=>False
def Kb:PS X st Cq:=λ_ _ _ _ _ _ h=>h.elim
end
abbrev TG:=V->St->Hp->(St->Hp->Prop)->Prop
abbrev TGs:=List V->St->Hp->(St->Hp->Prop)->Prop
def PG(X:Cx)(a:Expr)(t:TG):Prop :=
 ∀(pn:List (Addr×Obj))(s:Shared)(Y:St)(H:Hp)(v:V)(u:Value)(Q:St->Hp->Prop),Inv X pn Y H s->RelV v u->t v Y H Q ->
  wpAny (model X.prog X.w) X.A (assign a X.env u) (λ_ s'=>∃σ' H',Inv X pn σ' H' s'/\Q σ' H') X.xe s
def PGs(X:Cx)(ts:List Expr)(t:TGs):Prop :=
 ∀(pn:List (Addr×Obj))(s:Shared)(Y:St)(H:Hp)(vs:List V)(us:List Value)(Q:St->Hp->Prop),Inv X pn Y H s->Vals vs us->t vs Y H Q ->
  wpAny (model X.prog X.w) X.A (assignInOrder ((assignEach ts X.env).map (·.2)) us) (λ_ s'=>∃σ' H',Inv X pn σ' H' s'/\Q σ' H') X.xe s
section
variable{pos:Pos}
def sn(i:Nat):TG:=λv Y H Q=>Q (Y.set i (some v)) H
def zw(e:X.N.Nodup)(hi:X.N[i]?=some x)(a:Loc X.env.scope x)(d:X.fn x=true\/X.env.scope.names.lookup x=some .local:=by first|exact .inl rfl|exact .inr rfl|assumption):PG X (.Name x pos) (sn i):=by
 intro pn s Y H v u Q I r h;exact wpAny_assign_Name (Rg I e hi a r (λs' g=>⟨_,H,g,h⟩) d)
def gNil:TGs:=λvs Y H Q=>vs=[]/\Q Y H
def jg(t:TG)(u:TGs):TGs:=λvs Y H Q=>∃v r,vs=v::r/\t v Y H λσ' H'=>u r σ' H' Q
def wj:PGs X [] gNil:=by
 intro pn s Y H vs us Q I r h;obtain⟨e,h⟩:=h;subst e;cases r;exact assignInOrder_nil ⟨Y,H,I,h⟩
def y7(J:PG X e t)(h2:PGs X es u)(j:(assignEach (e::es) X.env).map (·.2)=assign e X.env::(assignEach es X.env).map (·.2):=by rfl):PGs X (e::es) (jg t u):=by
 intro pn s Y H vs us Q I r h;obtain⟨v,l,e1,h⟩:=h;subst e1;cases r with
 |cons r rr =>
  rw[j];refine assignInOrder_cons (thn (J pn s Y H _ _ _ I r h) λ_ d Zh=>?_);obtain⟨a,H1,k,g⟩:=Zh;exact h2 pn d a H1 _ _ Q k rr g
def gTup(K:W.Frag)(n:Nat)(t:TGs):TG:=λv Y H Q=>∃a E,v=.ref a/\SqT K H a E/\E.length=n/\t E Y H Q
def Bz(z:X.calm=true)(h:PGs X es t)(y:(assignEach es X.env).length=n:=by rfl)(g:(assignEach es X.env).findIdx? (·.1)=none:=by rfl):PG X (.Tuple es k pos) (gTup X.K n t):=by
 intro pn s Y H v u Q I r d;obtain⟨a,E,e1,x,hl,d⟩:=d;subst e1;cases r;obtain⟨its,j,q,D⟩:=I.tuple x;refine assign_Tuple_tuple (I.ok.hd z) q (by simp[y,<- hl,j.length]) g λh' l=>?_
 have B:Inv X pn Y H {s with heap:=h'}:=I.kept (t':=s.toks) λb o e=>l b o (zaY (zae e)) e;exact h pn _ Y H E _ Q B (by simpa using j) d
def tAsg(te:TE)(g:TG):TS:=λD Y H=>te Y H λx H1=>g x Y H1 D.nx
def Bs{tg e:Expr}{te:TE}(r:PE X e te)(l:PG X tg g)(k:swapsWithSole [tg] e pos.line X.env=pure false:=by rfl)(j:swappedStores [tg] e X.env=pure none:=by rfl)(J:(assignEach [tg] X.env).map (·.2)=[assign tg X.env]:=by rfl):PS X (.Assign [tg] e pos) (tAsg te g):=by
 intro pn s Y H D I h;refine wpAny_Assign_stores (thn (r pn s Y H _ I h) λv a Zh=>?_) k j;obtain⟨x,H1,u,r1,d⟩:=Zh;rw[J];exact thn (l pn a Y H1 x v _ u r1 d) λ_ s2 q=>q
def d9{i:Nat}{x:Str}{te:TE}(l:X.N.Nodup)(hi:X.N[i]?=some x)(d:Loc X.env.scope x)(k:PE X e te)(g:swapsWith e (some (.Name x pos')) pos.line X.env=pure false:=by rfl)(j:X.fn x=true\/X.env.scope.names.lookup x=some .local:=by first|exact .inl rfl|exact .inr rfl|assumption) :
  PS X (.Assign [.Name x pos'] e pos) (tAsg te (sn i)):=by
 intro pn s Y H D I h;refine wpAny_Assign_Name (thn (k pn s Y H _ I h) λv u Zh=>?_) g;obtain⟨y,H1,r,r1,a⟩:=Zh;exact Rg r l hi d r1 (λs2 q=>⟨_,H1,q,a⟩) j
end
structure It where
 go:Nat->Hp->Prop
 yld:Nat->Hp->V->Hp->Prop
 stop:Nat->Hp->Prop
def FpOk(X:Cx)(pn:List (Addr×Obj))(H:Hp)(b:Addr):Prop :=
 H b=none/\b≠X.env.locals/\b∉X.fs/\(b∈X.ex\/X.s₀.heap.objs.size<=b)/\(∀x c,X.env.cells.lookup x=some c->c≠b)/\∀p∈X.pn++pn,p.1≠b
def Inv.fpOk(I:Inv X pn Y H s)(a:s.heap.objs.size<=b)(g:H' b=none):FpOk X pn H' b:=by
 refine⟨g,zeR (zaU I.lt a),I.nofs a,.inr (zak I.sz a),λx c e z=>?_,λp d z=>?_⟩
 ·obtain⟨v,q⟩:=I.cell x c e;exact absurd (zaU q.lt (by rw[z];exact a)) (zcS _)
 exact absurd (zaU (zae (I.pin p d).1) (by rw[z];exact a)) (zcS _)
structure Turn(P:Program)(w:World)(K:W.Frag)(tg:Expr)(h1:It)(fp:List Addr)(it:Addr)(tn:Nat->Heap->Prop):Prop where
 mem:it∈fp
 obj:∀i h,tn i h->∀b∈fp,∃o,h.get? b=some o/\∀v,o.data≠.cell v
 keep:∀i h h',tn i h->(∀b∈fp,∀o,h.get? b=some o->h'.get? b=some o)->tn i h'
 item:∀(X:Cx),X.prog=P->X.w=w->X.K=K->X.calm=true->∀(i:Nat)(pn:List (Addr×Obj))(s:Shared)(Y:St)(H:Hp)(xs:Value->Shared->Prop),Inv X pn Y H s->(∀b∈fp,FpOk X pn H b)->tn i s.heap->h1.go i H ->
  wpAny (model P w) X.A (pyNext (.ref it)) (λr s1=>∃u,r=some u /\
   wpAny (model P w) X.A (letOwnedTupleGo tg (.ref it) u) (λ_ s2=>∃x H',Inv X pn Y H' s2/\RelV x u/\h1.yld i H x H'/\tn (i+1) s2.heap/\∀b∈fp,H' b=none) xs s1) xs s
 done:∀(X:Cx),X.prog=P->X.w=w->X.K=K->X.calm=true->∀(i:Nat)(pn:List (Addr×Obj))(s:Shared)(Y:St)(H:Hp)(xs:Value->Shared->Prop),Inv X pn Y H s->(∀b∈fp,FpOk X pn H b)->tn i s.heap->h1.stop i H ->
  wpAny (model P w) X.A (pyNext (.ref it)) (λr s1=>r=none/\Inv X pn Y H s1) xs s
 self:∀(A:Around)(i:Nat)(s:Shared)(Q:Value->Shared->Prop)(xs:Value->Shared->Prop),tn i s.heap->Q (.ref it) s->wpAny (model P w) A (pyIter (.ref it)) Q xs s
abbrev TI:=St->Hp->(It->Hp->Prop)->Prop
def PIE(X:Cx)(pn:List (Addr×Obj))(Y:St)(tg:Expr)(R:It->Hp->Prop)(a:Value)(s2:Shared):Prop :=
 ∃(it:Addr)(fp:List Addr)(tn:Nat->Heap->Prop)(h1:It)(H':Hp),a=.ref it/\Inv X pn Y H' s2/\Turn X.prog X.w X.K tg h1 fp it tn/\tn 0 s2.heap/\(∀b∈fp,FpOk X pn H' b)/\R h1 H'
def PI(X:Cx)(tg iter:Expr)(a:TI):Prop :=
 ∀(pn:List (Addr×Obj))(s:Shared)(Y:St)(H:Hp)(R:It->Hp->Prop),Inv X pn Y H s->a Y H R ->
  wpAny (model X.prog X.w) X.A (eval iter X.env) (λv d=>wpAny (model X.prog X.w) X.A (pyIter v) (PIE X pn Y tg R) X.xe d) X.xe s
def Jh{tg:Expr}{o:Obj}(ho:s.heap.get? it=some o)(e:o.cls=.type n)(hd:o.data=.fields vs)(d:["enumerate","zip","dict_itemiterator","dict_reverseitemiterator","odict_iterator","itertools.zip_longest","itertools.pairwise"].contains n=false)(a:Q () s):wpAny M A (letOwnedTupleGo tg (.ref it) u) Q xs s:=by
 unfold letOwnedTupleGo;cases tg <;> first
  |exact zab a
  | (cases u <;> first
    |exact zab a
    | (refine zaa (wpAny_load ho ?_)
       rw[e,hd];show wpAny M A (if (["enumerate","zip","dict_itemiterator","dict_reverseitemiterator","odict_iterator","itertools.zip_longest","itertools.pairwise"].contains n&&vs[0]?==some (rawInt _))=true then _ else _) Q xs s
       rw[zaJ (by intro h;rw[d,Bool.false_and]at h;cases h)]
       exact zab a))
def Itl(K:W.Frag)(a:Addr):It :=
 ⟨λi H=>∃E x,SqL K H a E/\E[i]?=some x,λi H x H'=>H'=H/\∀E,SqL K H a E->E[i]?=some x,λi H=>∃E,SqL K H a E/\E.length<=i⟩
def Itt(K:W.Frag)(a:Addr):It :=
 ⟨λi H=>∃E x,SqT K H a E/\E[i]?=some x,λi H x H'=>H'=H/\∀E,SqT K H a E->E[i]?=some x,λi H=>∃E,SqT K H a E/\E.length<=i⟩
def Itr(lo:Int)(n:Nat):It:=⟨λi _=>i<n,λi H x H'=>H'=H/\x=.int (lo+i),λi _=>n<=i⟩
def O4{P:Program}{w:World}{K:W.Frag}{tg:Expr}(a it:Addr):Turn P w K tg (Itl K a) [it] it (λi h=>h.IsListIter it a i) where
 mem:=by simp
 obj:=λi h st b g=>by
  have e:b=it:=by simpa using g
  subst e;obtain⟨o,e,c,d⟩:=st;exact⟨o,e,λv z=>by rw[d]at z;cases z⟩
 keep:=λi h h' st k=>st.at λo e=>k it aE o e
 item:=by
  intro X G B h1 R i pn s Y H xs I q st D;subst G B h1;obtain⟨E,x,l,y⟩:=D;obtain⟨its,r,p,hz⟩:=I.list l;obtain⟨u,hu,ds⟩:=r.get y;obtain⟨Q,O,f2,N,M,L⟩:=q it aE
  refine wpAny_pyNext_list_item st p.isList (x:=u) (by simpa using hu) λh' j V=>?_
  have I1:Inv X pn Y H {s with heap:=h'}:=I.turned (t':=s.toks) (λb o g e=>(V.2 b g).trans e) Q O N M L;obtain⟨o,e,c,d⟩:=id j;exact⟨u,rfl,Jh (s:={s with heap:=h'}) e c d aB ⟨x,H,I1,ds,⟨rfl,λys hy=>by rw[I.list_inj hy l];exact y⟩,j,λb g=>(q b g).1⟩⟩
 done:=by
  intro X G B h1 R i pn s Y H xs I q st D;subst G B h1;obtain⟨E,l,y⟩:=D;obtain⟨its,r,p,hz⟩:=I.list l;obtain⟨Q,O,f2,N,M,L⟩:=q it aE
  have hl:=r.length;exact wpAny_pyNext_list_end (I.ok.hd R) st p.isList (by simp;omega) λh' eb=>⟨rfl,I.turned (t':=s.toks) (λb o g e=>eb b o g e) Q O N M L⟩
 self:=λ_ _ _ _ _ st h=>wpAny_pyIter_listiter st h
def P1{P:Program}{w:World}{K:W.Frag}{tg:Expr}(a it:Addr):Turn P w K tg (Itt K a) [it] it (λi h=>h.IsTupleIter it a i) where
 mem:=by simp
 obj:=λi h st b g=>by
  have e:b=it:=by simpa using g
  subst e;obtain⟨o,e,c,d⟩:=st;exact⟨o,e,λv z=>by rw[d]at z;cases z⟩
 keep:=λi h h' st k=>st.at λo e=>k it aE o e
 item:=by
  intro X G B h1 R i pn s Y H xs I q st D;subst G B h1;obtain⟨E,x,l,y⟩:=D;obtain⟨its,r,p,hz⟩:=I.tuple l;obtain⟨u,hu,ds⟩:=r.get y;obtain⟨Q,O,f2,N,M,L⟩:=q it aE
  refine wpAny_pyNext_tuple_item st (show s.heap.IsTuple a its.toArray from p) (x:=u) (by simpa using hu) λh' j V=>?_
  have I1:Inv X pn Y H {s with heap:=h'}:=I.turned (t':=s.toks) (λb o g e=>(V.2 b g).trans e) Q O N M L;obtain⟨o,e,c,d⟩:=id j;exact⟨u,rfl,Jh (s:={s with heap:=h'}) e c d aB ⟨x,H,I1,ds,⟨rfl,λys hy=>by rw[I.tuple_inj hy l];exact y⟩,j,λb g=>(q b g).1⟩⟩
 done:=by
  intro X G B h1 R i pn s Y H xs I q st D;subst G B h1;obtain⟨E,l,y⟩:=D;obtain⟨its,r,p,hz⟩:=I.tuple l;obtain⟨Q,O,f2,N,M,L⟩:=q it aE
  have hl:=r.length;exact wpAny_pyNext_tuple_end (I.ok.hd R) st (show s.heap.IsTuple a its.toArray from p) (by simp;omega) λh' eb=>⟨rfl,I.turned (t':=s.toks) (λb o g e=>eb b o g e) Q O N M L⟩
 self:=λ_ _ _ _ _ st h=>wpAny_pyIter_tupleiter st h
def P2{P:Program}{w:World}{K:W.Frag}{tg:Expr}(it:Addr)(lo:Int)(n:Nat):Turn P w K tg (Itr lo n) [it] it (λi h=>IsRangeIter h it (lo+(i:Nat)*1) ((n:Int)-(i:Nat)) 1) where
 mem:=by simp
 obj:=λi h st b a=>by
  have e:b=it:=by simpa using a
  subst e;exact⟨_,st,λv z=>by
   have h1:Data.fields _=Data.cell v:=z;cases h1⟩
 keep:=λi h h' st k=>k it aE _ st
 item:=by
  intro X r j u q i pn s Y H xs I g st l;subst r j u;obtain⟨G,D,M,B,y,x⟩:=g it aE
  have W:=Walks.range (prog:=X.prog) (w:=X.w) (I.ok.hd q) it lo 1 n;refine W.item i s _ _ l st λv h' tk L d kk=>?_;obtain⟨t,rfl⟩:=L;have O:Inv X pn Y H {s with heap:=h',toks:=tk}:=I.turned (λb o a e=>kk b o (by simpa using a) e) G D B y x
  refine⟨_,rfl,Jh (s:={s with heap:=h',toks:=tk}) (n:="range_iterator") d rfl rfl aB ⟨.int (lo+i),H,O,⟨t,?_⟩,⟨rfl,rfl⟩,d,λb a=>(g b a).1⟩⟩
  rw[Int.mul_one]
 done:=by
  intro X r j u q i pn s Y H xs I g st l;subst r j u;obtain⟨G,D,M,B,y,x⟩:=g it aE
  exact wpAny_pyNext_range_end (I.ok.hd q) st (by have:n<=i:=l;omega) λh' N=>⟨rfl,I.turned (t':=s.toks) (λb o a e=>N b o a e) G D B y x⟩
 self:=λ_ _ _ _ _ st h=>wpAny_pyIter_rangeiter st h
section
variable{tg:Expr}
def K5{H:Hp}{R:It->Hp->Prop}{xs:Value->Shared->Prop}{lo hi:Int}{tk:Nat}(I:Inv X pn Y H s)(J:-(2 ^ 62)<=lo)(h2:lo<2 ^ 62)(j:-(2 ^ 62)<=hi)(g:hi<2 ^ 62)(q:R (Itr lo (hi-lo).toNat) H):wpAny (model X.prog X.w) X.A (pyIter (.ref s.heap.objs.size)) (PIE X pn Y tg R) xs {s with heap:=s.heap.push {cls:=.type "range",data:=.fields #[.int lo t,.int hi u,.int 1 v]},toks:=tk}:=by
 refine wpAny_pyIter_range (IsRange.new ..) (small_one J h2 j g) ?_;have a:Inv X pn Y H {s with heap:=s.heap.push {cls:=.type "range",data:=.fields #[.int lo t,.int hi u,.int 1 v]},toks:=tk}:=I.kept λb o e=>zac _ e;refine⟨(s.heap.push {cls:=.type "range",data:=.fields #[.int lo t,.int hi u,.int 1 v]}).objs.size,[(s.heap.push {cls:=.type "range",data:=.fields #[.int lo t,.int hi u,.int 1 v]}).objs.size],_,_,H,rfl,
  a.kept (t':=tk) λb o e=>zac _ e,P2 _ lo (hi-lo).toNat,?_,λb d=>?_,q⟩
 ·have e1:lo+((0:Nat):Int)*1=lo:=by simp
  have e2:(((hi-lo).toNat:Nat):Int)-((0:Nat):Int)=Builtin.Range.rangeSize lo hi 1:=by rw[rangeSize_one];split <;> omega
  show IsRangeIter _ _ (lo+((0:Nat):Int)*1) ((((hi-lo).toNat:Nat):Int)-((0:Nat):Int)) 1;rw[e1,e2];exact zad _ rfl
 have e:b=(s.heap.push {cls:=.type "range",data:=.fields #[.int lo t,.int hi u,.int 1 v]}).objs.size:=by simpa using d
 subst e;exact a.fpOk (zaj _) (a.hok.fresh (zaj _))
def z3f(ta:TA):TI:=λY H R=>ta Y H λvs H1=>∃j:Int,vs=[.int j]/\-(2 ^ 62)<=j/\j<2 ^ 62/\R (Itr 0 j.toNat) H1
def N0{a:Expr}{ta:TA}{p pos:Pos}(u:Gl X "range")(l:X.mg "range" = none)(v:PA X [a] ta)(k:starEach [a] X.env=[(false,eval a X.env)]:=by rfl):PI X tg (.Call (.Name "range" p) [a] [] pos) (z3f ta):=by
 intro pn s Y H R I h;refine Call_ (Yz I u l boot_range (zdI (thn (v pos pn s Y H _ I h) λus y Zh=>?_) k rfl));obtain⟨vs,H1,x,r1,d⟩:=Zh;obtain⟨j,e,d,g,q⟩:=d;subst e;cases r1 with
 |cons r rr =>
  cases rr
  obtain⟨t,rfl⟩:=r;exact call_range_1 (K5 x aD aD d g (by simpa using q))
def tFor(d:TI)(g:TG)(tb:TS):TS:=λD Y H=>d Y H λh1 H1=>∃W:Nat->Nat->St->Hp->Prop,(∃m,W 0 m Y H1)/\∀i m Y H,W i m Y H ->
 (h1.stop i H/\D.nx Y H)\/(h1.go i H/\∃N:St->Hp->Prop,(∀σ' H',N σ' H'->∃m',m'<m/\W (i+1) m' σ' H')/\∀x H',h1.yld i H x H'->g x Y H' λa H2=>tb {D with nx:=N,ct:=N,bk:=D.nx} a H2)
def V6(fp:List Addr)(h:Heap):List (Addr×Obj):=fp.filterMap λb=>(h.get? b).map λo=>(b,o)
def k7{o:Obj}(a:b∈fp)(e:h.get? b=some o):(b,o)∈V6 fp h:=List.mem_filterMap.mpr ⟨b,a,by rw[e];rfl⟩
def N8(a:p∈V6 fp h):p.1∈fp/\h.get? p.1=some p.2:=by
 obtain⟨b,d,e⟩:=List.mem_filterMap.mp a;cases q:h.get? b with
 |none=>rw[q]at e;cases e
 |some o =>
  rw[q]at e;have g:(b,o)=p:=zaT e;subst g;exact⟨d,q⟩
def Inv.pinned(I:Inv X pn Y H s)(k:∀ b∈fp,FpOk X pn H b)(ho:∀ b∈fp,∃ o,s.heap.get? b=some o/\∀ v,o.data≠.cell v):Inv X (pn++V6 fp s.heap) Y H s :=
 I.pins_of λp j=>(zas.mp j).elim (λz=>I.pin p (zaE _ z)) λz=>by
  obtain⟨a,e⟩:=N8 z;obtain⟨r,q,l,_⟩:=k p.1 a;obtain⟨o,g,d⟩:=ho p.1 a;rw[e]at g;cases g;exact⟨e,r,q,l,d⟩
def Inv.unpinned(I:Inv X (pn++pl) Y H s):Inv X pn Y H s:=I.pins_of λp a=>I.pin p (zaE _ (zaI _ a))
def Ow{wi:TI}{tb:TS}{pos:Pos}(R:PassesOwn (model X.prog X.w) X.A X.env X.xe)(hc:X.calm=true)(hi:PI X tg iter wi)(hg:PG X tg g)(l:PSs X body tb)(hs:∀ x,foldedSetIterable iter X.env x=pure x:=by intro _;rfl):PS X (.For tg iter body [] pos) (tFor wi g tb):=by
 intro pn s Y H D I h;refine wpAny_For (thn (hi pn s Y H _ I h) λv s1 J=>thn J λa7 s2 h2=>?_) hs;obtain⟨it,fp,tn,h1,H2,e,I2,T,a3,f2,W,⟨m0,w0⟩,L⟩:=h2;subst e;have k:∀{H':Hp},(∀b∈fp,H' b=none)->∀b∈fp,FpOk X pn H' b:=λhn b l=>⟨hn b l,(f2 b l).2⟩;refine codeAny_forLoop_any (λn s'=>∃i σ' H',Inv X pn σ' H' s'/\tn i s'.heap/\(∀b∈fp,H' b=none)/\W i n σ' H') ?_ m0 ⟨0,Y,H2,I2,a3,λb l=>(f2 b l).1,w0⟩;rintro n s3 ⟨i,j,ds,I3,O,V,w3⟩;rcases L i n j ds w3 with⟨M,qn⟩|⟨go,N,hN,step⟩
 ·refine zeX R (thn (T.done X rfl rfl rfl hc i pn s3 j ds X.xe I3 (k V) O M) λr s4 ⟨hr,I4⟩=>?_);subst hr;exact wpAny_execs_nil ⟨j,ds,I4,qn⟩
 refine zeX R (thn (T.item X rfl rfl rfl hc i pn s3 j ds X.xe I3 (k V) O go) λr s4 Zh=>?_);obtain⟨u,hr,h4⟩:=Zh;subst hr;refine zeX R (thn h4 λ_ s5 Zh=>?_);obtain⟨x,H5,I5,r5,y5,G,a4⟩:=Zh;have a6:=I5.pinned (k a4) (T.obj _ _ G);refine zeX R (thn (hg _ s5 j H5 x u _ a6 r5 (step x H5 y5)) λ_ s6 Zh=>?_);obtain⟨a0,H6,I6,q6⟩:=Zh;refine zeX R (thn (l _ s6 a0 H6 _ I6 q6) λf s7 B=>?_);have q:∀{a:St}{z:Hp},Inv X (pn++V6 fp s5.heap) a z s7->N a z->∃m,m<n/\∃i σ' H',Inv X pn σ' H' s7/\tn i s7.heap/\(∀b∈fp,H' b=none)/\W i m σ' H':=λ{a z} y Q=>by
  obtain⟨m',hm,w7⟩:=hN a z Q;refine⟨m',hm,i+1,a,z,y.unpinned,T.keep _ _ _ G λb l o e=>(y.pin (b,o) (zaE _ (zaE _ (k7 l e)))).1,λb l=>?_,w7⟩;obtain⟨o,e,d⟩:=T.obj _ _ G b l;exact(y.pin (b,o) (zaE _ (zaE _ (k7 l e)))).2.1
 cases f with
 |next=>obtain⟨a,z,y,Q⟩:=B;exact q y Q
 |cont=>obtain⟨a,z,y,Q⟩:=B;exact q y Q
 |brk=>obtain⟨a,z,y,B⟩:=B;exact⟨a,z,y.unpinned,B⟩
 |ret v=>obtain⟨x7,a,z,y,r7,B⟩:=B;exact⟨x7,a,z,y.unpinned,r7,B⟩
end
abbrev R2:=V->V->Hp->VK->Prop
def OpR(X:Cx)(f:Value->Value->Sem Value)(r:R2):Prop :=
 ∀(pn:List (Addr×Obj))(s:Shared)(Y:St)(H:Hp)(x y:V)(v u:Value)(Q:VK),Inv X pn Y H s->RelV x v->RelV y u->r x y H Q ->
  wpAny (model X.prog X.w) X.A (f v u) (EP X pn Y Q) X.xe s
def UnR(X:Cx)(f:Value->Sem Value)(r:V->Hp->VK->Prop):Prop :=
 ∀(pn:List (Addr×Obj))(s:Shared)(Y:St)(H:Hp)(x:V)(v:Value)(Q:VK),Inv X pn Y H s->RelV x v->r x H Q ->
  wpAny (model X.prog X.w) X.A (f v) (EP X pn Y Q) X.xe s
def qu(X:Cx)(f:Value)(r:List V->Hp->VK->Prop):Prop :=
 ∀(pn:List (Addr×Obj))(s:Shared)(Y:St)(H:Hp)(E:List V)(us:List Value)(Q:VK),Inv X pn Y H s->Vals E us->r E H Q ->
  wpAny (model X.prog X.w) X.A (call f us) (EP X pn Y Q) X.xe s
def TruR(X:Cx)(r:V->Hp->(Bool->Hp->Prop)->Prop):Prop :=
 ∀(pn:List (Addr×Obj))(s:Shared)(Y:St)(H:Hp)(x:V)(v:Value)(Q:Bool->Hp->Prop),Inv X pn Y H s->RelV x v->r x H Q ->
  wpAny (model X.prog X.w) X.A (truthy v) (TP X pn Y Q) X.xe s
def tOp(r:R2)(ta tb:TE):TE:=λY H Q=>ta Y H λx H1=>tb Y H1 λy H2=>r x y H2 Q
def tUn(r:V->Hp->VK->Prop)(ta:TE):TE:=λY H Q=>ta Y H λx H1=>r x H1 Q
def rI(C:Int->Int->Prop)(g:Int->Int->V):R2:=λx y H Q=>∃i j,x=.int i/\y=.int j/\C i j/\Q (g i j) H
def rI0(g:Int->Int->V):R2:=λx y H Q=>∃i j,x=.int i/\y=.int j/\Q (g i j) H
def rU(g:Int->V):V->Hp->VK->Prop:=λx H Q=>∃i,x=.int i/\Q (g i) H
section
variable{a b:Expr}{ta tb:TE}{pos:Pos}
def binT(r:PE X a ta)(q:PE X b tb){H:Hp}{R:V->V->Hp->Prop}(I:Inv X pn Y H s)(h:ta Y H λx H1=>tb Y H1 λy H2=>R x y H2){Q:Value->Shared->Prop}{f:Value->Value->Sem Value}(l:∀ v u s2 x y H2,Inv X pn Y H2 s2->RelV x v->RelV y u->R x y H2->wpAny (model X.prog X.w) X.A (f v u) Q X.xe s2) :
  wpAny (model X.prog X.w) X.A (eval a X.env) (λv e=>wpAny (model X.prog X.w) X.A (eval b X.env) (λu d=>wpAny (model X.prog X.w) X.A (f v u) Q X.xe d) X.xe e) X.xe s:=by
 refine thn (r pn s Y H _ I h) λv g Zh=>?_;obtain⟨x,H1,B,r1,k⟩:=Zh;refine thn (q pn g Y H1 _ B k) λu s2 Zh=>?_;obtain⟨y,H2,z,r2,j⟩:=Zh;exact l v u s2 x y H2 z r1 r2 j
def Ki(ho:OpR X (binaryOp op) r)(j:PE X a ta)(g:PE X b tb):PE X (.BinOp a op b pos) (tOp r ta tb):=by
 intro pn s Y H Q I h;exact wpAny_BinOp (binT j g I h λv u s2 x y H2 k e d q=>ho pn s2 Y H2 x y v u Q k e d q)
def z2q{r:V->Hp->VK->Prop}(ho:UnR X (unaryOp op) r)(g:PE X a ta):PE X (.UnaryOp op a pos) (tUn r ta):=by
 intro pn s Y H Q I h;exact UnaryOp_ (thn (g pn s Y H _ I h) λv d ⟨x,H1,j,r1,e⟩=>ho pn d Y H1 x v Q j r1 e)
def opI{f:Value->Value->Sem Value}{C:Int->Int->Prop}{g:Int->Int->Int}(a:∀ (i j:Int) (t u:Tok) (s:Shared) (Q:Value->Shared->Prop) (xs:Value->Shared->Prop),C i j->Q (.int (g i j) s.toks) {s with toks:=s.toks+1}->wpAny (model X.prog X.w) X.A (f (.int i t) (.int j u)) Q xs s) :
  OpR X f (rI C λi j=>.int (g i j)):=by
 intro pn s Y H x y v u Q I e d h;obtain⟨i,j,rfl,rfl,k,q⟩:=h;obtain⟨t,rfl⟩:=e;obtain⟨t',rfl⟩:=d;exact a i j t t' s _ _ k ⟨.int (g i j),H,I.tok _,⟨_,rfl⟩,q⟩
def opI0{f:Value->Value->Sem Value}{g:Int->Int->Int}(a:∀ (i j:Int) (t u:Tok) (s:Shared) (Q:Value->Shared->Prop) (xs:Value->Shared->Prop),Q (.int (g i j) s.toks) {s with toks:=s.toks+1}->wpAny (model X.prog X.w) X.A (f (.int i t) (.int j u)) Q xs s) :
  OpR X f (rI0 λi j=>.int (g i j)):=by
 intro pn s Y H x y v u Q I e d h;obtain⟨i,j,rfl,rfl,q⟩:=h;obtain⟨t,rfl⟩:=e;obtain⟨t',rfl⟩:=d;exact a i j t t' s _ _ ⟨.int (g i j),H,I.tok _,⟨_,rfl⟩,q⟩
def opB0{f:Value->Value->Sem Value}{g:Int->Int->Bool}(a:∀ (i j:Int) (t u:Tok) (s:Shared) (Q:Value->Shared->Prop) (xs:Value->Shared->Prop),Q (.bool (g i j)) s->wpAny (model X.prog X.w) X.A (f (.int i t) (.int j u)) Q xs s) :
  OpR X f (rI0 λi j=>.bl (g i j)):=by
 intro pn s Y H x y v u Q I e d h;obtain⟨i,j,rfl,rfl,q⟩:=h;obtain⟨t,rfl⟩:=e;obtain⟨t',rfl⟩:=d;exact a i j t t' s _ _ ⟨.bl (g i j),H,I,rfl,q⟩
def CPow(i j:Int):Prop:=0<=j/\j<=1000000/\i.natAbs<2 ^ 64
def Aj:OpR X (binaryOp .Add) (rI0 λi j=>.int (i+j)):=opI0 λ_ _ _ _ _ _ _ q=>add_int q
def Ac:OpR X (binaryOp .Sub) (rI0 λi j=>.int (i-j)):=opI0 λ_ _ _ _ _ _ _ q=>sub_int q
def Ef:OpR X (binaryOp .Mod) (rI (λ_ j=>j≠0) λi j=>.int (i.fmod j)):=opI λ_ _ _ _ _ _ _ a q=>mod_int' a q
def Ae:OpR X (binaryOp .Pow) (rI CPow λi j=>.int (i ^ j.toNat)):=opI λ_ _ _ _ _ _ _ a q=>pow_int_small a.1 a.2.1 a.2.2 q
def unI{f:Value->Sem Value}{g:Int->Int}(a:∀ (i:Int) (t:Tok) (s:Shared) (Q:Value->Shared->Prop) (xs:Value->Shared->Prop),Q (.int (g i) s.toks) {s with toks:=s.toks+1}->wpAny (model X.prog X.w) X.A (f (.int i t)) Q xs s) :
  UnR X f (rU λi=>.int (g i)):=by
 intro pn s Y H x v Q I d h;obtain⟨i,rfl,q⟩:=h;obtain⟨t,rfl⟩:=d;exact a i t s _ _ ⟨.int (g i),H,I.tok _,⟨_,rfl⟩,q⟩
def Cg:UnR X (unaryOp .USub) (rU λi=>.int (-i)):=unI λ_ _ _ _ _ q=>neg_int q
def Mc(I:Inv X pn Y H s)(q:Q (.bl k) H)(e:k=k'):EP X pn Y Q (.bool k') s:=by
 subst e;exact⟨.bl k,H,I,rfl,q⟩
def z2s:OpR X (compareOp .Lt) (rI0 λi j=>.bl (decide (i<j))):=opB0 λ_ _ _ _ _ _ _ q=>lt_int q
def z2t:OpR X (compareOp .Gt) (rI0 λi j=>.bl (decide (j<i))):=opB0 λ_ _ _ _ _ _ _ q=>gt_int q
def z2u:OpR X (compareOp .GtE) (rI0 λi j=>.bl (decide (j<=i))):=opB0 λ_ _ _ _ _ _ _ q=>ge_int q
def Vc:OpR X (compareOp .In) (λx y H Q=>∃i j,x=.str i/\y=.str j/\Q (.bl (!(Builtin.Str.occurrences j i 0 j.length 1).isEmpty)) H):=by
 intro pn s Y H x y v u Q I d a h;obtain⟨i,j,rfl,rfl,q⟩:=h;obtain⟨t,rfl⟩:=d;obtain⟨t',rfl⟩:=a;exact in_str (Mc I q rfl)
def Ah:OpR X (compareOp .Is) (λx y H Q=>y=.non/\Q (.bl (decide (x=.non))) H):=by
 intro pn s Y H x y v u Q I a d h;obtain⟨rfl,q⟩:=h;cases d;refine is_none_gen (Mc I q ?_);cases x <;> first
  |(cases a;rfl)
  |(obtain⟨t,rfl⟩:=a;rfl)
def Ed:OpR X (compareOp .IsNot) (λx y H Q=>y=.non/\Q (.bl (!decide (x=.non))) H):=by
 intro pn s Y H x y v u Q I a d h;obtain⟨rfl,q⟩:=h;cases d;refine isnot_none_gen (Mc I q ?_);cases x <;> first
  |(cases a;rfl)
  |(obtain⟨t,rfl⟩:=a;rfl)
def OpR.or(h:OpR X f r)(h':OpR X f r'):OpR X f (λx y H Q=>r x y H Q\/r' x y H Q):=by
 intro pn s Y H x y v u Q I d a q;rcases q with q|q
 ·exact h pn s Y H x y v u Q I d a q
 exact h' pn s Y H x y v u Q I d a q
def kq(b:Expr)(h:op≠.In:=by decide)(h2:op≠.NotIn:=by decide):behindInMarks op b=false:=by
 have e1:(op==CmpOp.In)=false:=by cases op <;> first|rfl|exact absurd rfl h
 have e2:(op==CmpOp.NotIn)=false:=by cases op <;> first|rfl|exact absurd rfl h2
 cases b <;> simp[behindInMarks,e1,e2]
def E9(ho:OpR X (compareOp op) r)(k:PE X a ta)(j:PE X b tb)(g:behindInMarks op b=false):PE X (.Compare a [op] [b] pos) (tOp r ta tb):=by
 intro pn s Y H Q I h;exact wpAny_Compare1 (binT k j I h λv u s2 x y H2 l e d q=>ho pn s2 Y H2 x y v u Q l e d q) g
def z1u(t:TE):TT:=λY H Q=>t Y H λx H'=>∃k,x=.bl k/\Q k H'
def Tg(ho:OpR X (compareOp op) r)(G:PE X a ta)(D:PE X b tb)(B:behindInMarks op b=false):PT X (.Compare a [op] [b] pos) (z1u (tOp r ta tb)):=by
 intro pn s Y H Q I h;refine wpAny_isTrue_Compare1 (thn (G pn s Y H _ I h) λv d ⟨x,H1,M,r1,q⟩=>thn (D pn d Y H1 _ M q) λu s2 ⟨y,H2,L,r2,l⟩ =>
  thn (ho pn s2 Y H2 x y v u _ L r1 r2 l) λc O ⟨z,N,h1,g,k,e,j⟩=>?_) B
 subst e;cases g;exact zeG ⟨N,h1,j⟩
def TruV(K:W.Frag)(x:V)(H:Hp)(k:Bool):Prop :=
 match x with
 |.non=>k=false
 |.bl b=>k=b
 |.int i=>k=(i != 0)
 |.str y=>y.length<=sizeLine/\k=((y.length:Int) != 0)
 |.byt y=>y.size<=sizeLine/\k=((y.size:Int) != 0)
 |.ref p=>(∃E,SqL K H p E/\k=!E.isEmpty)\/(∃E,SqT K H p E/\k=!E.isEmpty)\/∃kvs,H p=some (.dK kvs)/\k=!kvs.isEmpty
 |_=>False
def Pm{κ:Type}{kvs:List (κ×V)}{vs:List (κ×Value)}(r:KV kvs vs):(!vs.isEmpty)=!kvs.isEmpty:=by
 cases r <;> rfl
def X3{E:List V}{its:List Value}(r:Vals E its):(!its.toArray.isEmpty)=!E.isEmpty:=by
 cases r <;> simp
def Yv:(sizeLine:Nat)<2 ^ 63:=by rw[zaV];decide
def Cj:TruR X (λx H Q=>∃k,TruV X.K x H k/\Q k H):=by
 intro pn s Y H x v Q I g h;obtain⟨k,e,q⟩:=h;have hl:=Yv;have u:sizeLine=16777216:=zaV;cases x with
 |non =>
  cases g
  have a:k=false:=e;subst a;exact truthy_none ⟨H,I,q⟩
 |bl b =>
  cases g
  have a:k=b:=e;subst a;exact zeG ⟨H,I,q⟩
 |int i =>
  obtain⟨t,rfl⟩:=g;have a:k=(i != 0):=e;subst a;exact PySem.P.truthy_int ⟨H,I,q⟩
 |str y =>
  obtain⟨t,rfl⟩:=g;obtain⟨hy,a⟩:y.length<=sizeLine/\k=((y.length:Int) != 0):=e;subst a;exact PySem.P.truthy_str aD ⟨H,I.tok _,q⟩
 |byt y =>
  obtain⟨t,rfl⟩:=g;obtain⟨hy,a⟩:y.size<=sizeLine/\k=((y.size:Int) != 0):=e;subst a;exact W.truthy_bytes aD ⟨H,I.tok _,q⟩
 |ref p =>
  cases g
  have a:(∃E,SqL X.K H p E/\k=!E.isEmpty)\/(∃E,SqT X.K H p E/\k=!E.isEmpty)\/∃kvs,H p=some (.dK kvs)/\k=!kvs.isEmpty:=e;rcases a with⟨E,j,a⟩|⟨E,j,a⟩|⟨kvs,j,a⟩
  ·subst a;obtain⟨its,r,pl,l⟩:=I.list j;have d:=r.length;exact wpAny_truthy_list pl.isList (by simp only[zap];omega) ⟨H,I.tok _,by rw[X3 r];exact q⟩
  ·subst a;obtain⟨its,r,pl,l⟩:=I.tuple j;have d:=r.length;exact truthy_tuple pl (by simp only[zap];omega) ⟨H,I.tok _,by rw[X3 r];exact q⟩
  subst a;obtain⟨l,hS,vs,r,m⟩:kvs.length<=sizeLine/\(p==sysModules)=false/\∃vs,KV kvs vs/\s.heap.DictOf (x4 X.prog X.w) p vs:=I.hok p _ j;have d:kvs.length=vs.length:=zfQ r;exact wpAny_truthy_dict hS m aD ⟨H,I.tok _,by rw[Pm r];exact q⟩
 |_=>exact(show False from e).elim
def Ka(j:PE X a ta)(g:∀ whole,isTrue a X.env whole=(do let v <- whole;standAt a.pos;holding [v] (truthy v))) :
  PT X a (λY H Q=>ta Y H λx H'=>∃k,TruV X.K x H' k/\Q k H'):=by
 intro pn s Y H Q I h;exact isTrue_plain (thn (j pn s Y H _ I h) λv d ⟨x,H1,l,r1,e⟩=>Cj pn d Y H1 x v Q l r1 e) (g _)
def Pe:OpR X (binaryOp .Add) (λx y H Q=>∃i j,x=.str i/\y=.str j/\i.length+j.length<=sizeLine/\Q (.str (i++j)) H):=by
 intro pn s Y H x y v u Q I d a h;obtain⟨i,j,rfl,rfl,e,q⟩:=h;obtain⟨t,rfl⟩:=d;obtain⟨t',rfl⟩:=a;exact add_str (λt' tk=>⟨.str (i++j),H,I.tok _,⟨_,rfl⟩,q⟩) e
def Zu{x:V}{us:List Value}(r:Vals [x] us):∃u,us=[u]/\RelV x u:=by
 cases r with
 |cons r1 r2=>cases r2;exact⟨_,rfl,r1⟩
def Cf(r:Vals [x,y] us):∃u w',us=[u,w']/\RelV x u/\RelV y w':=by
 cases r with
 |cons r1 r2 =>
  cases r2 with
  |cons r3 r4=>cases r4;exact⟨_,_,rfl,r1,r3⟩
def L6:qu X (.type "int") (λE H Q=>(∃i,E=[.int i]/\Q (.int i) H)\/∃k,E=[.bl k]/\Q (.int (if k then 1 else 0)) H):=by
 intro pn s Y H E us Q I r h;rcases h with⟨i,rfl,q⟩|⟨k,rfl,q⟩
 ·obtain⟨u,rfl,t,rfl⟩:=Zu r;exact call_int_int ⟨.int i,H,I,⟨_,rfl⟩,q⟩
 obtain⟨u,rfl,r1⟩:=Zu r;cases r1;exact call_int_bool ⟨.int (if k then 1 else 0),H,I.tok _,⟨_,rfl⟩,q⟩
end
structure ObjM(h:Heap)(x dx C:Addr)(mA:Str->Option Value):Prop where
 obj:h.get? x=some (W.instObj C dx)
 ns:h.Ns1 dx mA
 ne:dx≠x
def Nd{h:Heap}{mA:Str->Option Value}(n:h.Ns1 dx mA):∃od,h.get? dx=some od/\∀name,W.lookIn name od=some (mA name):=by
 obtain⟨o,es,ep,ho,hd,k,_,j⟩:=n;refine⟨o,ho,λname=>?_⟩;have e:=j name;unfold nsFind findBy at e;rw[<- Array.find?_toList]at e;unfold W.lookIn;rw[hd]
 dsimp only
 split
 ·rename_i y q;rw[q]at e;exact zbZ some e
 rename_i q;rw[q]at e;have a:es.toList.any (·.refKey)=false:=by
  rw[List.any_eq_false];intro y g;obtain⟨z,t,d⟩:=k y (Array.mem_toList_iff.mp g);simp[DictEntry.refKey,d]
 have a':¬ es.toList.any (·.refKey)=true:=by rw[a];exact zbE
 rw[zaJ a'];exact zbZ some e
def ObjM.look(I:ObjM h x dx C mA):∃od,W.InstAt h x (W.instObj C dx) C (some od)/\∀name,W.lookIn name od=some (mA name) :=
 let ⟨od,ho,hl⟩:=Nd I.ns
 ⟨od,⟨I.obj,rfl,rfl,ho⟩,hl⟩
variable{prog:Program}{A:Around}{K:W.Frag}{x dx C f:Addr}{mA:Str->Option Value}{name:Str}{v:Value}
def Dd(X:K.In s.heap)(I:ObjM s.heap x dx C mA)(g:W.plainGet K C name=true)(e:W.hasDictIn K C=true)(j:W.findIn K (.ref C) name=some none)(d:mA name=some v)(a:W.handedIn v=true)(h:Q v {s with toks:=s.toks+1}) :
  wpAny (model prog w) A (getAttr (.ref x) name expr) Q xs s:=by
 obtain⟨k,h1,hl⟩:=I.look;exact W.get_value X h1 (W.plainGet_of g).1 (W.findObj_own e j rfl (by rw[hl,d])) a h
def Jj(X:K.In s.heap)(I:ObjM s.heap x dx C mA)(a:W.plainGet K C name=true)(j:W.findIn K (.ref C) name=some (some (.ref f)))(g:W.isFn K (.ref f)=true)(e:mA name=none)(h:Q (.ref f,[.ref x]) s) :
  wpAny (model prog w) A (getMethod (.ref x) name pl) Q xs s:=by
 obtain⟨d,h1,hl⟩:=I.look;exact W.method_fn X h1 (W.plainGet_of a).1 (W.plainGet_of a).2 j (zeH.mp g) (by show(W.lookIn name d).map (·.isSome)=some false;rw[hl,e];rfl) h
def Fh(X:K.In s.heap)(I:ObjM s.heap x dx C mA)(z:W.findIn K (.ref C) "__setattr__" = some (some (.builtin "object.__setattr__")))(B:W.plainOver K C=true)(u:W.takerIn K C name=some none)(D:W.hasDictIn K C=true)(q:PySem.Within mA ns)(hsz:ns.length<=sizeLine)(h:∀ h',ObjM h' x dx C (λy=>if y=name then some v else mA y)->Heap.SameBut dx s.heap h'->Q () {s with heap:=h',toks:=s.toks+2}) :
  wpAny (model prog w) A (setAttr (.ref x) name v) Q xs s:=by
 obtain⟨N,h1,hl⟩:=I.look;refine W.set_plain X h1 z (W.osa_open (s:={s with toks:=s.toks+1}) (r:=none) X h1 B u λb=>?_);obtain⟨R,G,j⟩:=W.any_some D;have l:s.heap.get? x=some ⟨.ref C,some dx,.plain,#[]⟩:=I.obj;refine zaa (zab (zaa (zaa (wpAny_loadPart l (zaa (W.Looks.here (s:={s with toks:=s.toks+1}) (W.looks_clsIn X G) ?_))))));rw[j];refine zab (a:=some dx) (zaa (zab (zaa ?_)));refine wpAny_nsSet1 (s:={s with toks:=s.toks+1}) I.ns λh' e d=>?_;obtain⟨O,L,M,g,hdD,k⟩:=e.count (PySem.Within.cons name v q);refine zaa (wpAny_lookBehind g (by rw[hdD];exact pastItsLine_dict (zak k (by rw[zLc];omega))) ?_)
 exact zab (h _ ⟨(d.2 _ (Ne.symm I.ne)).trans I.obj,e,I.ne⟩ d)
def Kw(X:K.In s.heap)(e:W.makesIn K C=true)(hi:W.findIn K (.ref C) "__init__" = some (some (.ref f)))(j:W.typeIn K (.ref f)=some (.type "function"))(h:codeAny (model prog w) (A.under (.builtin "type.__call__" ⟨.ref C::vs,kw⟩)) (.call (.ref f) ⟨.ref (s.heap.objs.size+1)::vs,kw⟩) (W.InitBack (s.heap.objs.size+1) R)
   {s with heap:=(s.heap.push W.emptyDict).push (W.instObj C s.heap.objs.size)}) :
  codeAny (model prog w) A (.call (.ref C) ⟨vs,kw⟩) R s:=by
 obtain⟨l,g,d,t,k⟩:=s;exact W.make_core (W.makes_of X e) (W.looks_findIn X hi) (λa=>W.bind_fn X a j) (.inl rfl) h
def putF(f:Str)(v:V):List (Str×V)->List (Str×V)
 |[]=>[(f,v)]
 |(g,x)::r=>if g=f then(g,v)::r else(g,x)::putF f v r
theorem br(f g:Str)(v:V):∀fs:List (Str×V),(putF f v fs).lookup g=if g=f then some v else fs.lookup g
 |[]=>by
  show List.lookup g [(f,v)]=_;by_cases h:g=f
  ·have a:(g==f)=true:=zeH.mpr h;simp only[List.lookup,a,zaM h]
  have a:(g==f)=false:=zaS.mpr h;simp only[List.lookup,a,zaJ h]
 |(k,x)::r=>by
  have d:=br f g v r;rw[show putF f v ((k,x)::r)=(if k=f then(k,v)::r else(k,x)::putF f v r) from rfl]
  by_cases hk:k=f
  ·rw[zaM hk];by_cases h:g=k
   ·have a:(g==k)=true:=zeH.mpr h;simp only[List.lookup,a,zaM (h.trans hk)]
   have a:(g==k)=false:=zaS.mpr h;simp only[List.lookup,a,zaJ (λe:g=f=>h (e.trans hk.symm))]
  rw[zaJ hk];by_cases h:g=k
  ·have a:(g==k)=true:=zeH.mpr h;simp only[List.lookup,a,zaJ (λe:g=f=>hk (h.symm.trans e))]
  have a:(g==k)=false:=zaS.mpr h;simp only[List.lookup,a];exact d
theorem Z5(f:Str)(v:V):∀fs:List (Str×V),f∈(putF f v fs).map (·.1)/\∀g,g∈fs.map (·.1)->g∈(putF f v fs).map (·.1)
 |[]=>⟨by simp[putF],λg h=>by simp at h⟩
 |(k,x)::r=>by
  obtain⟨d,a⟩:=Z5 f v r;rw[show putF f v ((k,x)::r)=(if k=f then(k,v)::r else(k,x)::putF f v r) from rfl]
  by_cases hk:k=f
  ·rw[zaM hk];subst hk;exact⟨by simp,λg h=>by simpa using h⟩
  rw[zaJ hk];refine⟨?_,λg h=>?_⟩
  ·rw[zaG];exact zal _ d
  rw[zaG]at h ⊢;rcases zam.mp h with e|e
  ·exact zam.mpr (.inl e)
  exact zal _ (a g e)
theorem Z0(f:Str)(v:V):∀fs:List (Str×V),(putF f v fs).length<=fs.length+1
 |[]=>by simp[putF]
 |(k,x)::r=>by
  have a:=Z0 f v r;rw[show putF f v ((k,x)::r)=(if k=f then(k,v)::r else(k,x)::putF f v r) from rfl]
  by_cases hk:k=f
  ·rw[zaM hk,zLc,zLc];omega
  rw[zaJ hk,zLc,zLc];omega
def RelO.some_of{v:V}{o:Option Value}(r:RelO (some v) o):∃u,o=some u/\RelV v u:=by
 cases o with
 |none=>exact(show False from r).elim
 |some u=>exact⟨u,rfl,r⟩
def RelO.none_of{o:Option Value}(r:RelO none o):o=none:=by
 cases o with
 |none=>rfl
 |some u=>exact(show False from r).elim
def M3{v:V}(r:RelV v u):W.handedIn u=true:=by
 cases v with
 |non=>cases (show u=Value.none from r);rfl
 |bl b=>cases (show u=Value.bool b from r);rfl
 |int i=>obtain⟨t,e⟩:=(show ∃t,u=Value.int i t from r);cases e;rfl
 |str x=>obtain⟨t,e⟩:=(show ∃t,u=Value.str x t from r);cases e;rfl
 |byt b=>obtain⟨t,e⟩:=(show ∃t,u=Value.bytes b t from r);cases e;rfl
 |flt b=>obtain⟨t,e⟩:=(show ∃t,u=Value.float b t from r);cases e;rfl
 |ref a=>cases (show u=Value.ref a from r);rfl
 |ty n=>cases (show u=Value.type n from r);rfl
variable{fs:List (Str×V)}
def W3(g:HOk P w H h)(e:H a=some (.ins C dx fs)):∃mA,ObjM h a dx C mA/\(∀f,RelO (fs.lookup f) (mA f))/\PySem.Within mA (fs.map (·.1))/\fs.length<=1000/\H dx=some (.own a):=by
 obtain⟨d,z,j,ob,mA,n,r,q⟩:=(show yy P w H h a (.ins C dx fs) from g a _ e);exact⟨mA,⟨ob,n,j⟩,r,q,z,d⟩
structure Cls(K:W.Frag)(C:Addr):Prop where
 pg:W.plainGet K C Str.empty=true
 hd:W.hasDictIn K C=true
 po:W.plainOver K C=true
 sa:W.findIn K (.ref C) "__setattr__" = some (some (.builtin "object.__setattr__"))
def Cls.get{K:W.Frag}{C:Addr}(c:Cls K C)(f:Str):W.plainGet K C f=true:=c.pg
def jy(K:W.Frag)(C:Addr)(f:Str):Prop:=W.findIn K (.ref C) f=some none
def jy.taker{K:W.Frag}{C:Addr}{f:Str}(n:jy K C f):W.takerIn K C f=some none:=by
 unfold W.takerIn;rw[show W.findIn K (.ref C) f=some none from n];rfl
structure Con(K:W.Frag)(C:Addr)(f:Str)(v:V)(u:Value):Prop where
 at_:W.findIn K (.ref C) f=some (some u)
 rel:RelV v u
 get:W.specialIn K u "__get__" = some none
 cp:W.copiedNames.contains f=false
structure Meth(K:W.Frag)(C:Addr)(m:Str)(f:Addr):Prop where
 at_:W.findIn K (.ref C) m=some (some (.ref f))
 fn:W.isFn K (.ref f)=true
 kp:W.keepIn K (.ref f)=true
variable{f:Str}{v:V}
def X4(I:Inv X pn Y H s)(e:H a=some (.ins C dx fs))(c:Cls X.K C)(n:jy X.K C f)(l:fs.lookup f=some v)(h:∀ u s',Inv X pn Y H s'->RelV v u->Q u s'):wpAny (model X.prog X.w) A (getAttr (.ref a) f b) Q xs s:=by
 obtain⟨mA,O,r,_,_,_⟩:=W3 I.hok e;obtain⟨u,hu,d⟩:=RelO.some_of (v:=v) (o:=mA f) (by rw[<- l];exact r f)
 exact Dd I.kIn O (c.get f) c.hd n hu (M3 d) (h u _ (I.tok _) d)
def gy(I:Inv X pn Y H s)(e:H a=some (.ins C dx fs))(c:Cls X.K C)(k:Meth X.K C m g)(l:fs.lookup m=none)(h:Q (.ref g,[.ref a]) s):wpAny (model X.prog X.w) A (getMethod (.ref a) m pl) Q xs s:=by
 obtain⟨mA,O,r,_,_,_⟩:=W3 I.hok e;have d:mA m=none:=RelO.none_of (by rw[<- l];exact r m)
 exact Jj I.kIn O (c.get m) k.at_ k.fn d h
def Yk(I:Inv X pn Y H s)(e:H a=some (.ins C dx fs))(c:Cls X.K C)(n:jy X.K C f)(hl:fs.length<1000)(k:RelV y u)(h:∀ s',Inv X pn Y (upd H a (.ins C dx (putF f y fs))) s'->Q () s'):wpAny (model X.prog X.w) A (setAttr (.ref a) f u) Q xs s:=by
 obtain⟨mA,O,r,d,_,ho⟩:=W3 I.hok e;have l:(fs.map (·.1)).length<=sizeLine:=by rw[zLm,zaV];omega
 refine Fh I.kIn O c.sa c.po n.taker c.hd d l λh' O' j=>h _ ?_;have hd:∃o,h'.get? dx=some o:=let ⟨o,_,_,e',_⟩:=O'.ns;⟨o,e'⟩
 refine I.write (x:=a) (e:=dx) (by rw[e];exact zdA) (.inr ho) (λb q B z=>(j.2 b B).trans z) hd ?_
 refine⟨by rw[zj O.ne];exact ho,?_,O.ne,O'.obj,_,O'.ns,λg=>?_,λg v=>?_⟩
 ·have:=Z0 f y fs;omega
 ·show RelO ((putF f y fs).lookup g) (if g=f then some u else mA g)
  rw[br];by_cases q:g=f
  ·rw[zaM q,zaM q];exact k
  rw[zaJ q,zaJ q];exact r g
 by_cases q:g=f
 ·rw[q];exact(Z5 f y fs).1
 refine(Z5 f y fs).2 g (d g λz=>v ?_);show(if g=f then some u else mA g)=none
 rw[zaJ q];exact z
def Inv.made(I:Inv X pn Y H s):Inv X pn Y (upd (upd H s.heap.objs.size (.own (s.heap.objs.size+1))) (s.heap.objs.size+1) (.ins C s.heap.objs.size []))
  {s with heap:=(s.heap.push W.emptyDict).push (W.instObj C s.heap.objs.size)}:=by
 have e1:(s.heap.push W.emptyDict).get? s.heap.objs.size=some W.emptyDict:=zad s.heap rfl;have e2:((s.heap.push W.emptyDict).push (W.instObj C s.heap.objs.size)).get? (s.heap.objs.size+1)=some (W.instObj C s.heap.objs.size):=by
  have:=zad (s.heap.push W.emptyDict) (o:=W.instObj C s.heap.objs.size) rfl
  rwa [zcT]at this
 have e3:(s.heap.push W.emptyDict).Ns s.heap.objs.size (λ_=>none):=⟨W.emptyDict,#[],_,e1,rfl,(λe j=>absurd j aE),λ_=>rfl⟩
 have k:=I.laid (a:=s.heap.objs.size) (o:=.own (s.heap.objs.size+1)) (h':=s.heap.push W.emptyDict) (t':=s.toks) (λb u q=>zac _ q) (zaj _) ⟨_,e1⟩;refine k.laid (a:=s.heap.objs.size+1) (o:=.ins C s.heap.objs.size []) (t':=s.toks) (λb u q=>zac _ q) (Nat.le_of_eq (zcT _ _)) ?_;have d:s.heap.objs.size≠s.heap.objs.size+1:=zaY (zdY _);refine⟨by rw[zj d,zm],zbG _,d,e2,λ_=>none,(Heap.Ns1.of_empty e3).at λo q=>zac _ q,λ_=>zdA,λy g=>absurd rfl g⟩
def C3{pos:Pos}(d:attributeBase e f env (eval e env)=eval e env)(h:wpAny (model prog w) A (eval e env) (λo a=>wpAny (model prog w) A (getAttr o f true) Q xs a) xs s):wpAny (model prog w) A (eval (.Attribute e f pos) env) Q xs s :=
 Attribute_any_ h (by rw[arm_eval_Attribute,d])
def tFld(K:W.Frag)(ta:TE)(f:Str):TE:=λY H Q=>ta Y H λx H1=>∃a C dx fs v,x=.ref a/\H1 a=some (.ins C dx fs)/\Cls K C/\jy K C f/\fs.lookup f=some v/\Q v H1
def sFld(K:W.Frag)(ta tv:TE)(f:Str):TS:=λD Y H=>tv Y H λy H1=>ta Y H1 λx H2=>∃a C dx fs,x=.ref a/\H2 a=some (.ins C dx fs)/\Cls K C/\jy K C f/\fs.length<1000 /\
 D.nx Y (upd H2 a (.ins C dx (putF f y fs)))
def InOp(X:Cx)(op:Operator)(a:V->V->Hp->VK->Prop):Prop :=
 ∀(pn:List (Addr×Obj))(s:Shared)(Y:St)(H:Hp)(x y:V)(u v:Value)(Q:VK),Inv X pn Y H s->RelV x u->RelV y v->a x y H Q->wpAny (model X.prog X.w) X.A (inplaceOp op u v) (EP X pn Y Q) X.xe s
def Fl(K:W.Frag)(ta tv:TE)(e:V->V->Hp->VK->Prop)(f:Str):TS:=λD Y H=>ta Y H λx H1=>∃a C dx fs v,x=.ref a/\H1 a=some (.ins C dx fs)/\Cls K C/\jy K C f/\fs.lookup f=some v /\
 tv Y H1 λy H2=>e v y H2 λz d=>∃dx' fs',d a=some (.ins C dx' fs')/\fs'.length<1000/\D.nx Y (upd d a (.ins C dx' (putF f z fs')))
section
variable{o e value:Expr}{pos pos' tpos:Pos}{ta tv:TE}
def V7(j:PE X e ta)(k:attributeBase e f X.env (eval e X.env)=eval e X.env):PE X (.Attribute e f pos) (tFld X.K ta f):=by
 intro pn s Y H Q I h;refine C3 k (thn (j pn s Y H _ I h) λu D Zh=>?_);obtain⟨x,H1,z,d,a,C,dx,fs,v,ex,r,c,n,l,q⟩:=Zh;subst ex;obtain rfl:u=Value.ref a:=d;exact X4 z r c n l λB s2 y g=>⟨v,H1,y,g,q⟩
def Hw(z:PE X o ta)(r:PE X value tv)(v:swapsWith value (some (.Attribute o f pos')) pos.line X.env=pure false):PS X (.Assign [.Attribute o f pos'] value pos) (sFld X.K ta tv f):=by
 intro pn s Y H D I h;refine plainObj_wpAny_Assign_Attribute (thn (r pn s Y H _ I h) λu d ⟨y,H1,L,e,q⟩=>thn (z pn d Y H1 _ L q) λk s2 Zh=>?_) v;obtain⟨x,H2,h1,g,a,C,dx,fs,ex,B,c,n,l,j⟩:=Zh;subst ex;obtain rfl:k=Value.ref a:=g;exact Yk h1 B c n l e λM G=>⟨Y,_,G,j⟩
def Ox{g:V->V->Hp->VK->Prop}(R:PE X o ta)(Q:PE X value tv)(d:InOp X op g):PS X (.AugAssign (.Attribute o f tpos) op value pos) (Fl X.K ta tv g f):=by
 intro pn s Y H D I h;refine wpAny_AugAssign_AttributeAny (thn (R pn s Y H _ I h) λN s1 Zh=>?_);obtain⟨x,H1,I1,G,a,C,dx,fs,v,ex,ds,c,n,l,q⟩:=Zh;subst ex;obtain rfl:N=Value.ref a:=G;refine X4 I1 ds c n l λu s2 I2 h1=>thn (Q pn s2 Y H1 _ I2 q) λj k ⟨y,H2,I3,B,M⟩=>thn (d pn k Y H2 v y u j _ I3 h1 B M) λw4 s4 Zh=>?_;obtain⟨z,H3,I4,r,a0,W,e,O,L⟩:=Zh;exact Yk I4 e c n O r λs5 I5=>⟨Y,_,I5,L⟩
def rAdd:V->V->Hp->VK->Prop:=λx y H Q=>∃i j,x=.int i/\y=.int j/\Q (.int (i+j)) H
def Ge:InOp X .Add rAdd:=by
 rintro pn s Y H x y u v Q I d a ⟨i,j,rfl,rfl,q⟩;obtain⟨t,rfl⟩:=(show ∃t,u=Value.int i t from d);obtain⟨t',rfl⟩:=(show ∃t',v=Value.int j t' from a);exact PyProof.Rows.iadd_int ⟨.int (i+j),H,I.tok _,⟨_,rfl⟩,q⟩
end
variable{Q:Value->Shared->Prop}{c:Value}{b:Bool}
inductive TyOf(K:W.Frag)(H:Hp):V->Value->Prop where
 |non:TyOf K H .non (.type "NoneType")
 |bl (x:Bool):TyOf K H (.bl x) (.type "bool")
 |int (i:Int):TyOf K H (.int i) (.type "int")
 |str (x:Str):TyOf K H (.str x) (.type "str")
 |flt (x:UInt64):TyOf K H (.flt x) (.type "float")
 |lst {a:Addr} {E:List V} (e:H a=some (.lst E)):TyOf K H (.ref a) (.type "list")
 |frz {a:Addr} {o:Obj} {E:List V} (e:H a=some (.frz o (.lst E))):TyOf K H (.ref a) (.type "list")
 |tup {a:Addr} {E:List V} (e:H a=some (.tup E)):TyOf K H (.ref a) (.type "tuple")
 |dK {a:Addr} {kvs:List (Key×V)} (e:H a=some (.dK kvs)):TyOf K H (.ref a) (.type "dict")
 |dT {a:Addr} {kvs:List (List Key×V)} (e:H a=some (.dT kvs)):TyOf K H (.ref a) (.type "dict")
 |ins {a C dx:Addr} {fs:List (Str×V)} (e:H a=some (.ins C dx fs)) (cl:Cls K C) (ha:W.findIn K (.ref C) "__class__" = some (some (.builtin "object.__class__")))
   (hn:W.specialIn K (.builtin "object.__class__") "__get__" = some (some (.builtin "getset_descriptor.__get__"))) (htk:W.takesIn K (.builtin "object.__class__")=some true)
   (hm:W.mroIn K C (.type "object")=some true):TyOf K H (.ref a) (.ref C)
def sy{x:V}(I:Inv X pn Y H s)(d:RelV x u)(ty:TyOf X.K H x t)(e:W.kitOne X.K t c=some b)(h:∀ tk,Q (.bool b) {s with toks:=tk}) :
  wpAny (model X.prog X.w) A (call (.builtin "isinstance") [u,c]) Q xs s:=by
 cases ty with
 |non=>cases (show u=Value.none from d);exact zeE W.kitx_none I.kIn zdA e nofun h
 |bl y=>cases (show u=Value.bool y from d);exact zeE W.kitx_bool I.kIn zdA e nofun h
 |int i=>obtain⟨t,q⟩:=(show ∃t,u=Value.int i t from d);cases q;exact zeE W.kitx_int I.kIn zdA e nofun h
 |str y=>obtain⟨t,q⟩:=(show ∃t,u=Value.str y t from d);cases q;exact zeE W.kitx_str I.kIn zdA e nofun h
 |flt y=>obtain⟨t,q⟩:=(show ∃t,u=Value.float y t from d);cases q;exact zeE W.kitx_float I.kIn zdA e nofun h
 |@lst a E ea =>
  cases (show u=Value.ref a from d)
  obtain⟨_,_,n,_,J⟩:=(show yy X.prog X.w H s.heap a (.lst E) from I.hok a _ ea);exact zeE W.kitx_list I.kIn ⟨_,J,rfl⟩ e nofun h
 |@frz a ob E ea =>
  cases (show u=Value.ref a from d)
  obtain⟨_,_,_,n,_,J⟩:=(show yy X.prog X.w H s.heap a (.frz ob (.lst E)) from I.hok a _ ea);exact zeE W.kitx_list I.kIn ⟨_,J,rfl⟩ e nofun h
 |@tup a E ea =>
  cases (show u=Value.ref a from d)
  obtain⟨_,_,_,p⟩:=(show yy X.prog X.w H s.heap a (.tup E) from I.hok a _ ea);obtain⟨o,J,h2,_⟩:=p.1;exact zeE W.kitx_tuple I.kIn ⟨o,J,h2⟩ e nofun h
 |@dK a kvs ea =>
  cases (show u=Value.ref a from d)
  obtain⟨_,_,vs,_,p⟩:=(show yy X.prog X.w H s.heap a (.dK kvs) from I.hok a _ ea);obtain⟨o,es,ep,J,h2,_⟩:=p;exact zeE W.kitx_dict I.kIn ⟨o,J,h2.1⟩ e nofun h
 |@dT a kvs ea =>
  cases (show u=Value.ref a from d)
  obtain⟨_,_,E,_,o,es,ep,J,h2,_⟩:=(show yy X.prog X.w H s.heap a (.dT kvs) from I.hok a _ ea);exact zeE W.kitx_dict I.kIn ⟨o,J,h2.1⟩ e nofun h
 |@ins a C dx fs ea cl ha hn htk hm =>
  cases (show u=Value.ref a from d)
  obtain⟨mA,O,_⟩:=W3 I.hok ea;obtain⟨g,h1,_⟩:=O.look;exact zeE (W.kitx_own (cl.get _) cl.hd ha hn htk hm) I.kIn h1 e nofun h
structure Room(k:Nat)(A:Around):Prop where
 hd:A.handled=none
 dp:A.depth+3*k+5<recursionLimit
 un:A.units+16*k+200<cLine
def Room.mono{j k:Nat}{A:Around}(r:Room k A)(h:j<=k):Room j A:=⟨r.hd,by have:=r.dp;omega,by have:=r.un;omega⟩
theorem Room.d{k k2:Nat}{A:Around}(h:Room k2 A)(e:k<=k2:=by omega):Room k A:=h.mono e
theorem Room.e{k a:Nat}{A:Around}(h:Room a A)(e:Nat.ble k a=true):Room k A:=h.mono (zaB e)
theorem Room.deeper{k:Nat}{A:Around}(r:Room (k+1) A)(env:Env):Room k (A.deeper env) :=
 ⟨r.hd,by have:=r.dp;show A.depth+1+3*k+5<_;omega,by have:=r.un;show A.units+3+16*k+200<_;omega⟩
def Pg{A:Around}{us:List Value}{a:List (Str×Value)}:(A.under (.builtin "type.__call__" ⟨.ref C::us,a⟩)).depth=A.depth+1:=by
 first|rfl|simp[Around.under,Code.weight,Code.isCreation,Code.isGuard,Code.isCaller,Code.frames,Code.isFrame,guardIds]
def Pf{A:Around}{us:List Value}{a:List (Str×Value)}:(A.under (.builtin "type.__call__" ⟨.ref C::us,a⟩)).units=A.units+1:=by
 first|rfl|simp[Around.under,Code.cUnits,Code.frames,Code.isFrame]
def Room.make{k:Nat}{A:Around}(r:Room (k+1) A)(C:Addr)(us:List Value)(a:List (Str×Value)):Room k (A.under (.builtin "type.__call__" ⟨.ref C::us,a⟩)) :=
 ⟨r.hd,by have:=r.dp;rw[Pg];omega,by have:=r.un;rw[Pf];omega⟩
theorem Room.depth{k:Nat}{A:Around}(r:Room k A):A.depth<recursionLimit:=by have:=r.dp;omega
theorem Room.units{k:Nat}{A:Around}(r:Room k A):A.units+64<cLine:=by have:=r.un;omega
def tNil:TA:=λ_ H Q=>Q [] H
def P4(ta:TE)(a:TA):TA:=λY H Q=>ta Y H λx H1=>a Y H1 λE H2=>Q (x::E) H2
section
variable{e:Expr}{es:List Expr}{te:TE}{t:TA}{pos:Pos}
def uv:PA X [] tNil:=λ_ _ _ _ H Q I h=>Calls.spliced_nil ⟨[],H,I,.nil,h⟩
abbrev S_(X:Cx)(e:Expr)(es:List Expr):Prop:=starEach (e::es) X.env=(false,eval e X.env)::starEach es X.env
abbrev B_(X:Cx)(es:List Expr)(p:Pos):Prop:=(backTo p (starEach es X.env)).any (·.1)=false
def yr(k:PE X e te)(hr:PA X es t)(j:S_ X e es:=by rfl):PA X (e::es) (P4 te t):=by
 intro pos pn s Y H Q I h;rw[j];show wpAny _ _ (spliced ((false,eval e X.env)::backTo pos (starEach es X.env))) _ _ s;refine Calls.spliced_cons (thn (k pn s Y H _ I h) λu a Zh=>?_);obtain⟨x,H1,q,r1,g⟩:=Zh;exact thn (hr pos pn a Y H1 _ q g) λus s2 ⟨E,H2,l,r2,d⟩=>⟨x::E,H2,l,.cons r1 r2,d⟩
def tTup(t:TA):TE:=λY H Q=>t Y H λE H1=>E.length<=sizeLine/\∀p,H1 p=none->Q (.ref p) (upd H1 p (.tup E))
def tLst(t:TA):TE:=λY H Q=>t Y H λE H1=>E.length<=sizeLine/\∀p,H1 p=none->Q (.ref p) (upd H1 p (.lst E))
def N2 {x1} (h:PA X es t):PE X (.Tuple es x1 pos) (tTup t):=by
 intro pn s Y H Q I g;refine wpAny_Tuple_spliced (thn (h pos pn s Y H _ I g) λus a ⟨E,H1,d,r,z,q⟩=>⟨by rw[<- r.length];exact z,?_⟩)
 have j:H1 a.heap.objs.size=none:=d.hok.fresh (zaj _);refine⟨.ref a.heap.objs.size,upd H1 a.heap.objs.size (.tup E),d.laid (t':=a.toks) (λb u e=>zac _ e) (zaj _) ?_,rfl,q _ j⟩;exact⟨z,us,r,⟨_,zad _ rfl,rfl,_,rfl⟩,_,zad _ rfl,rfl⟩
def Ru(h:PA X es t):PE X (.List es pos) (tLst t):=by
 intro pn s Y H Q I g;refine wpAny_List_spliced (thn (h pos pn s Y H _ I g) λus a ⟨E,H1,d,r,z,q⟩=>⟨by rw[<- r.length];exact z,?_⟩)
 have j:H1 a.heap.objs.size=none:=d.hok.fresh (zaj _);refine⟨.ref a.heap.objs.size,upd H1 a.heap.objs.size (.lst E),d.laid (t':=a.toks) (λb u e=>zac _ e) (zaj _) ?_,rfl,q _ j⟩;exact⟨z,us,0,r,zad _ rfl⟩
end
abbrev Sp:=List V->Hp->VK->XK->Prop
abbrev CXT:=List Env->Hp->Shared->XK->Value->Shared->Prop
structure Env0(P:Program)(w:World)(K:W.Frag)(mg:Str->Option Value)(base:Heap)(A:Around)(outer:List Env)(s:Shared)(H:Hp):Prop where
 frames:A.frames=some outer
 mod:Mod K mg base
 bs:∀b o,base.get? b=some o->s.heap.get? b=some o/\H b=none
 bsz:base.objs.size<=s.heap.objs.size
 funs:s.heap.FunFrames base outer
 frf:∀b∈frs outer,H b=none
 hok:HOk P w H s.heap
 bare:AllBare s.gens
def CE(outer:List Env)(P:Program)(w:World)(H:Hp)(s:Shared)(Q:VK)(u:Value)(s':Shared):Prop :=
 ∃v H',s'.os=s.os/\AllBare s'.gens/\Un (frs outer) [] H H' s.heap s'.heap/\HOk P w H' s'.heap/\RelV v u/\Q v H'
def CR(CX:CXT)(outer:List Env)(P:Program)(w:World)(H:Hp)(s:Shared)(Q:VK)(xs:XK)(r:Result)(s':Shared):Prop :=
 match r with
 |.ok (.ret u)=>CE outer P w H s Q u s'
 |.ok _=>False
 |.error e=>CX outer H s xs e s'
structure FnOk(P:Program)(w:World)(K:W.Frag)(mg:Str->Option Value)(base:Heap)(CX:CXT)(k:Nat)(f:Addr)(fd:FuncData)(ps:List Str)(sp:Sp):Prop where
 len:∀vs H Q xs,sp vs H Q xs->vs.length=ps.length
 run:∀(A:Around)(outer:List Env)(s:Shared)(H:Hp)(args:Args)(us:List Value)(vs:List V)(Q:VK)(xs:XK),Room k A->Env0 P w K mg base A outer s H->BindsTo s fd args (ps.zip us)->Vals vs us->sp vs H Q xs ->
  codeAny (model P w) A (.call (.ref f) args) (CR CX outer P w H s Q xs) s
def Env0.make{P:Program}{w:World}{K:W.Frag}{mg:Str->Option Value}{base:Heap}{A:Around}{outer:List Env}{s:Shared}{H:Hp}(e:Env0 P w K mg base A outer s H)(C:Addr)(us:List Value)(a:List (Str×Value)) :
  Env0 P w K mg base (A.under (.builtin "type.__call__" ⟨.ref C::us,a⟩)) outer s H:=⟨by first|exact e.frames|(simpa [Around.under,Code.envs,Code.isFrame,pushEnvs] using e.frames),e.mod,e.bs,e.bsz,e.funs,e.frf,e.hok,e.bare⟩
variable{s':Shared}
def Inv.env0(I:Inv X pn Y H s):Env0 X.prog X.w X.K X.mg X.base X.A X.stack s H :=
 ⟨I.ok.frames,I.ok.mod,I.bs,zak I.ok.bsz I.sz,I.stack,I.stkFree,I.hok,I.bare⟩
def Inv.after{Q:VK}(I:Inv X pn Y H s)(h:CE X.stack X.prog X.w H s Q u s'):EP X pn Y Q u s':=by
 obtain⟨v,H',os,a,un,j,r,q⟩:=h;obtain⟨k,g,d,t,e⟩:=s';obtain rfl:e=s.os:=os;exact⟨v,H',I.call (h':=k) (g':=g) (d':=d) (t':=t) (ch:=[]) un j a (λb z=>absurd z aE),r,q⟩
def Cz(sp:Sp)(dvs:List V)(xs:XK)(t:TA):TE:=λY H Q=>t Y H λvs H1=>sp (vs++dvs) H1 Q xs
def F7(C:Addr)(m:Str)(sp:Sp)(dvs:List V)(xs:XK)(ta:TE)(t:TA):TE:=λY H Q=>ta Y H λx H1=>∃a dx fs,x=.ref a/\H1 a=some (.ins C dx fs)/\fs.lookup m=none /\
 t Y H1 λvs H2=>sp (x::(vs++dvs)) H2 Q xs
def z1y(C:Addr)(sp:Sp)(dvs:List V)(xs:XK)(t:TA):TE:=λY H Q=>t Y H λvs H1=>∀x dx,H1 x=none->H1 dx=none->dx≠x ->
 sp (.ref x::(vs++dvs)) (upd (upd H1 dx (.own x)) x (.ins C dx [])) (λv H2=>v=.non/\Q (.ref x) H2) xs
def wq(K:W.Frag)(fd:FuncData)(ps:List Str)(Z:List Value):Prop :=
 ∀(s:Shared)(us:List Value),K.In s.heap->(us++Z).length=ps.length->BindsTo s fd ⟨us,[]⟩ (ps.zip (us++Z))
def wq.all{K:W.Frag}{fd:FuncData}{ps:List Str}(h:∀ us:List Value,us.length=ps.length->bindArgs fd ⟨us,[]⟩=pure (ps.zip us)):wq K fd ps []:=λs us _ hl=>by
 rw[zaK]at hl ⊢;exact .of_eq (h us hl)
def Zs(CX:CXT)(X:Cx)(xs:XK):Prop:=∀(pn:List (Addr×Obj))(Y:St)(H:Hp)(s:Shared)(e:Value)(s':Shared),Inv X pn Y H s->CX X.stack H s xs e s'->X.xe e s'
section
variable{CX:CXT}{k:Nat}{f:Addr}{fd:FuncData}{ps:List Str}{sp:Sp}{dvs:List V}{Z:List Value}{xs:XK}{x m:Str}{p pos apos:Pos}{e o:Expr}{es:List Expr}{ta:TE}{t:TA}
def Og{Q:VK}(F:FnOk X.prog X.w X.K X.mg X.base CX k f fd ps sp)(hr:Room k X.A)(g:wq X.K fd ps Z)(hd:Vals dvs Z)(d:Zs CX X xs)(I:Inv X pn Y H s)(r:Vals vs us)(h:sp (vs++dvs) H Q xs):wpAny (model X.prog X.w) X.A (call (.ref f) us) (EP X pn Y Q) X.xe s:=by
 have r2:Vals (vs++dvs) (us++Z):=r.append hd;have hl:(us++Z).length=ps.length:=by rw[<- r2.length];exact F.len _ _ _ _ h
 refine wpAny_call (zeS (F.run X.A X.stack s H ⟨us,[]⟩ (us++Z) (vs++dvs) Q xs hr I.env0 (g s us I.kIn hl) r2 h) λr s' a=>?_);cases r with
 |error e=>exact d pn Y H s e s' I a
 |ok fl =>
  cases fl with
  |ret u=>exact I.after a
  |next=>exact False.elim a
  |brk=>exact False.elim a
  |cont=>exact False.elim a
def gl(F:FnOk X.prog X.w X.K X.mg X.base CX k f fd ps sp)(hr:Room k X.A)(v:Gl X x)(l:X.mg x=some (.ref f))(u:W.keepIn X.K (.ref f)=true)(z:wq X.K fd ps Z)(hd:Vals dvs Z)(j:Zs CX X xs)(B:PA X (e::es) t)(d:D_ x:=by decide)(y:S_ X e es:=by rfl)(a:B_ X es pos:=by rfl) :
  PE X (.Call (.Name x p) (e::es) [] pos) (Cz sp dvs xs t):=by
 intro pn s Y H Q I h;refine zdB (Tv I v l ?_ d);refine W.callWith_K (h₀:=X.base) I.ok.mod.kin u (thn (B pos pn s Y H _ I h) λus D ⟨vs,H1,g,r,q⟩=>⟨g.kIn,?_⟩) y a;exact Og F hr z hd j g r q
def Tj{pl:Sem Bool}(M:PE X o ta)(c:Cls X.K C)(v:Meth X.K C m f)(F:FnOk X.prog X.w X.K X.mg X.base CX k f fd ps sp)(hr:Room k X.A)(N:wq X.K fd ps Z)(hd:Vals dvs Z)(h1:Zs CX X xs)(O:PA X (e::es) t)(d:S_ X e es:=by rfl)(g:B_ X es pos:=by rfl)(L:eval (.Call (.Attribute o m apos) (e::es) [] pos) X.env=(do
   let j <- eval o X.env
   standAt apos.atName
   let (f,first) <- holding [j] (getMethod j m pl)
   callWith pos f first (backTo pos (starEach (e::es) X.env)) (backToKw pos (keywordEach [] X.env))):=by rfl) :
  PE X (.Call (.Attribute o m apos) (e::es) [] pos) (F7 C m sp dvs xs ta t):=by
 intro pn s Y H Q I h;refine W.methodCall_KW (pl:=pl) (thn (M pn s Y H _ I h) λu B Zh=>?_) L;obtain⟨x,H1,z,D,a,dx,fs,ex,R,l,q⟩:=Zh;subst ex;obtain rfl:u=Value.ref a:=D;refine gy z R c v l ?_;refine W.callWith_K (first:=[.ref a]) (h₀:=X.base) I.ok.mod.kin v.kp (thn (O pos pn B Y H1 _ z q) λus s2 ⟨vs,H2,y,r,G⟩=>⟨y.kIn,?_⟩) d g
 exact Og (us:=.ref a::us) (vs:=.ref a::vs) F hr N hd h1 y (.cons rfl r) G
def Xo{pl:Sem Bool}(y:PE X o ta)(c:Cls X.K C)(g:Meth X.K C m f)(F:FnOk X.prog X.w X.K X.mg X.base CX k f fd ps sp)(hr:Room k X.A)(z:wq X.K fd ps Z)(hd:Vals dvs Z)(r:Zs CX X xs)(v:eval (.Call (.Attribute o m apos) [] [] pos) X.env=(do
   let e <- eval o X.env
   standAt apos.atName
   let (f,first) <- holding [e] (getMethod e m pl)
   callWith pos f first (backTo pos (starEach [] X.env)) (backToKw pos (keywordEach [] X.env))):=by rfl) :
  PE X (.Call (.Attribute o m apos) [] [] pos) (F7 C m sp dvs xs ta tNil):=by
 intro pn s Y H Q I h;refine W.methodCall_KW (pl:=pl) (thn (y pn s Y H _ I h) λu D Zh=>?_) v;obtain⟨x,H1,d,j,a,dx,fs,ex,B,l,q⟩:=Zh;subst ex;obtain rfl:u=Value.ref a:=j;refine gy d B c g l ?_;exact W.callWith_K0 (first:=[.ref a]) d.kIn g.kp (Og (us:=[.ref a]) (vs:=[.ref a]) F hr z hd r d (.cons rfl .nil) q)
structure Mk(K:W.Frag)(C f:Addr):Prop where
 makes:W.makesIn K C=true
 init:W.findIn K (.ref C) "__init__" = some (some (.ref f))
 fn:W.isFn K (.ref f)=true
 kp:W.keepIn K (.ref C)=true
def Lz{Q:VK}(M:Mk X.K C f)(F:FnOk X.prog X.w X.K X.mg X.base CX k f fd ps sp)(hr:Room (k+1) X.A)(y:wq X.K fd ps Z)(hd:Vals dvs Z)(q:Zs CX X xs)(I:Inv X pn Y H s)(r:Vals vs us)(h:∀ x dx,H x=none->H dx=none->dx≠x->sp (.ref x::(vs++dvs)) (upd (upd H dx (.own x)) x (.ins C dx [])) (λv H2=>v=.non/\Q (.ref x) H2) xs) :
  wpAny (model X.prog X.w) X.A (call (.ref C) us) (EP X pn Y Q) X.xe s:=by
 have g:=h (s.heap.objs.size+1) s.heap.objs.size (I.hok.fresh (zcJ _)) (I.hok.fresh (zaj _)) (zaY (zdY _));have d:=Inv.made (C:=C) I;have r2:Vals (V.ref (s.heap.objs.size+1)::(vs++dvs)) (Value.ref (s.heap.objs.size+1)::(us++Z)):=.cons rfl (r.append hd);have hl:(Value.ref (s.heap.objs.size+1)::us++Z).length=ps.length:=by
  have e:=r2.length;rw[F.len _ _ _ _ g]at e;exact e.symm
 refine wpAny_call (Kw (f:=f) I.kIn M.makes M.init (zeH.mp M.fn) (zeS (F.run _ X.stack _ _ ⟨Value.ref (s.heap.objs.size+1)::us,[]⟩ (Value.ref (s.heap.objs.size+1)::(us++Z)) _ _ xs (hr.make C us [])
  (d.env0.make C us []) (y _ (Value.ref (s.heap.objs.size+1)::us) d.kIn hl) r2 g) λr s' a=>?_))
 cases r with
 |error e=>exact q pn Y _ _ e s' d a
 |ok fl =>
  cases fl with
  |ret u =>
   obtain⟨v,H',B,j,z,l⟩:=d.after a;subst z;exact⟨j,⟨V.ref (s.heap.objs.size+1),H',B,rfl,l⟩⟩
  |next=>exact False.elim a
  |brk=>exact False.elim a
  |cont=>exact False.elim a
def Kj(M:Mk X.K C f)(F:FnOk X.prog X.w X.K X.mg X.base CX k f fd ps sp)(hr:Room (k+1) X.A)(g:Gl X x)(e:X.mg x=some (.ref C))(j:wq X.K fd ps Z)(hd:Vals dvs Z)(d:Zs CX X xs)(a:D_ x:=by decide):PE X (.Call (.Name x p) [] [] pos) (z1y C sp dvs xs tNil):=by
 intro pn s Y H Q I h;refine zdB (Tv I g e ?_ a);exact W.callWith_K0 I.kIn M.kp (Lz (us:=[]) M F hr j hd d I .nil h)
end
structure zv(N P:List Str)(sc:Scope):Prop where
 kind:sc.kind=.function
 co:sc.isCoroutine=false
 gen:sc.isGenerator=false
 nd:N.Nodup
 pre:N.take P.length=P
 par:∀x∈P,sc.names.lookup x=some .local\/sc.names.lookup x=some .cell
 nofree:∀y∈sc.names,y.2≠.free
theorem Uv{a:Str->Option NameKind}{x:Str}:∀{binds:List (Str×Value)}{m:Str->Option Value},(∀v,(x,v)∉binds)->bindL a binds m x=m x
 |[],_,_=>rfl
 |(n,v)::r,m,h=>by
  unfold bindL;rw[Uv λw d=>h w (zal _ d)];split
  ·have:x≠n:=by rintro rfl;exact h v zao
   simp[this]
  rfl
theorem Ux{a:Str->Option NameKind}{x:Str}:∀{binds:List (Str×Value)}{m:Str->Option Value},(∀v,(x,v)∉binds)->bindC a binds m x=m x
 |[],_,_=>rfl
 |(n,v)::r,m,h=>by
  unfold bindC;rw[Ux λw d=>h w (zal _ d)];split
  ·rfl
  have:x≠n:=by rintro rfl;exact h v zao
  simp[this]
theorem Uw{a:Str->Option NameKind}{x:Str}{v:Value}:∀{P:List Str}{vs:List Value}{i:Nat}{m:Str->Option Value},P.Nodup->P[i]?=some x->vs[i]?=some v->a x=some .local ->
  bindL a (P.zip vs) m x=some v
 |[],_,_,_,_,h,_,_=>by simp at h
 |_::_,[],_,_,_,_,h,_=>by simp at h
 |p::P,w::vs,0,m,nd,J,h2,hk=>by
  simp at J h2;subst J;subst h2;show bindL a ((p,w)::P.zip vs) m p=_;unfold bindL;rw[Uv λv d=>(zaR.mp nd).1 (List.of_mem_zip d).1,zaM hk];simp
 |p::P,w::vs,i+1,m,nd,J,h2,hk=>by
  show bindL a ((p,w)::P.zip vs) m x=_;unfold bindL;exact Uw (i:=i) (zaR.mp nd).2 (by simpa using J) (by simpa using h2) hk
theorem Uy{a:Str->Option NameKind}{x:Str}{v:Value}:∀{P:List Str}{vs:List Value}{i:Nat}{m:Str->Option Value},P.Nodup->P[i]?=some x->vs[i]?=some v->a x≠some .local ->
  bindC a (P.zip vs) m x=some v
 |[],_,_,_,_,h,_,_=>by simp at h
 |_::_,[],_,_,_,_,h,_=>by simp at h
 |p::P,w::vs,0,m,nd,J,h2,hk=>by
  simp at J h2;subst J;subst h2;show bindC a ((p,w)::P.zip vs) m p=_;unfold bindC;rw[Ux λv d=>(zaR.mp nd).1 (List.of_mem_zip d).1,zaJ hk];simp
 |p::P,w::vs,i+1,m,nd,J,h2,hk=>by
  show bindC a ((p,w)::P.zip vs) m x=_;unfold bindC;exact Uy (i:=i) (zaR.mp nd).2 (by simpa using J) (by simpa using h2) hk
def start(N:List Str)(vs:List V):St:=vs.map some++List.replicate (N.length-vs.length) none
def cxOf(CX:CXT)(P:Program)(w:World)(K:W.Frag)(mg:Str->Option Value)(base:Heap)(N:List Str)(a:Str)(scope:Scope)(f:Addr)(g:Value)(A:Around)(outer:List Env)(s:Shared)(H:Hp)(xs:XK):Cx where
 prog:=P
 w:=w
 K:=K
 mg:=mg
 base:=base
 A:=A.deeper (envOfC a scope s.heap.objs.size f g)
 N:=N
 s₀:=s
 H_:=H
 env:=envOfC a scope s.heap.objs.size f g
 outer:=outer
 stack:=envOfC a scope s.heap.objs.size f g::outer
 ex:=[]
 calm:=true
 fn:=λ_=>true
 pn:=[]
 xe:=λe s'=>wpAny (model P w) (A.deeper (envOfC a scope s.heap.objs.size f g)) (leaving (envOfC a scope s.heap.objs.size f g) e) (λ_ d=>CX outer H s xs e d) (λj d=>CX outer H s xs j d) s'
def Qs{a:Scope}{n:Nat}{x:Str}(h:a.names.lookup x=some .cell):∃c,(cellsFrom n a.names []).lookup x=some c:=by
 have q:=W.cellsFrom_some a.names n [] (.inl h);exact zdP.mp q
def Ny{CX:CXT}{P:Program}{w:World}{K:W.Frag}{mg:Str->Option Value}{base:Heap}{N ps:List Str}{d:Str}{scope:Scope}{f:Addr}{G:Value}{A:Around}{outer:List Env}{s s1:Shared}{H:Hp}{xs:XK}{us:List Value}{vs:List V}(S:zv N ps scope)(hd:A.handled=none)(g:Env0 P w K mg base A outer s H)(hl:vs.length=ps.length)(r:Vals vs us)(x:InCallC s s.heap.objs.size (bindL (envOfC d scope s.heap.objs.size f G).kindOf (ps.zip us) λ_=>none) (cellsFrom (s.heap.objs.size+1) scope.names []) (bindC (envOfC d scope s.heap.objs.size f G).kindOf (ps.zip us) λ_=>none) s1) :
  Inv (cxOf CX P w K mg base N d scope f G A outer s H xs) [] (start N vs) H s1:=by
 have L:ps.length<=N.length:=by have:=zbZ List.length S.pre;rw[zcC]at this;omega
 obtain⟨J,tk,rfl,I⟩:=x.done;have j:∀b:Addr,b∉(cxOf CX P w K mg base N d scope f G A outer s H xs).ex:=λb z=>absurd (show b∈([]:List Addr) from z) aE
 refine⟨⟨g.mod,S.kind,rfl,rfl,zaj _,λy z c J h2=>?_,λy l=>?_,λy c _ h=>?_,λ_=>hd,Around.frames_deeper g.frames,.inr ⟨rfl,rfl⟩,λb z=>absurd z (j b),g.bs,g.bsz,λb _ _=>j b,λb z=>absurd z (j b),g.funs,g.frf⟩,
  rfl,g.bare,Un.kept I,⟨_,x.toInCall.ns,λi y v J h2 O=>?_⟩,λy c h=>⟨_,x.cell y c h⟩,g.hok.fresh (zaj _),λy c h=>?_,λp D=>absurd (show p∈([]:List (Addr×Obj)) from D) aE,g.hok.kept I,?_⟩
 ·exact name_of_addr x.apart (zcK J) (zcK h2)
 ·have l:scope.names.lookup y=some .cell\/scope.names.lookup y=some .free:=l;rcases l with l|l
  ·exact Qs l
  exact absurd rfl (S.nofree _ (zcK l))
 ·exact zfX (x.above y c (zcK h))
 ·have hi:i<vs.length:=by
   unfold start at h2;by_cases hi:i<vs.length
   ·exact hi
   rw[zbD (by simpa using hi)]at h2
   rw[zbO]at h2;split at h2 <;> cases h2
  have M:vs[i]?=some v:=by
   unfold start at h2;rw[zbF (by simpa using hi),zai]at h2
   cases e:vs[i]? with
   |none=>rw[e]at h2;cases h2
   |some a=>rw[e]at h2;cases h2;rfl
  obtain⟨u,hu,h1⟩:=r.get M;have D:ps[i]?=some y:=by
   rw[<- S.pre,List.getElem?_take_of_lt aD];exact J
  have B:ps.Nodup:=by rw[<- S.pre];exact S.nd.sublist (List.take_sublist _ _)
  refine⟨u,h1,?_⟩;rcases S.par y (zan D) with k|k
  ·exact .inl ⟨k,Uw B D hu k⟩
  obtain⟨c,e⟩:=Qs (n:=s.heap.objs.size+1) k;refine .inr ⟨.inl k,c,e,?_⟩;have q:=x.cell y c e;rw[Uy B D hu (by show scope.names.lookup y≠_;rw[k];decide)]at q
  exact q
 ·exact g.hok.fresh (zfX (x.above y c (zcK h)))
 unfold start;show _=N.length;rw[zLa,zLm,zbH];omega
def z3h{K:W.Frag}{mg:Str->Option Value}{k:Nat}{f:Addr}{O kV z M qZ R oc:Value}{ds od:Option Addr}{D:Array (Option Value)}{sp:Sp}(lk:K.lookup f=some ⟨oc,od,.func (W.fnOf name qual params body scope O kV z M ds qZ R),D⟩)(L:W.codeIn K qZ qual=true)(S:zv N ps scope)(len:∀ vs H Q xs,sp vs H Q xs->vs.length=ps.length)(qY:∀ (A:Around) (outer:List Env) (s:Shared) (H:Hp) (vs:List V) (Q:VK) (xs:XK),Room k (A.deeper (envOfC qual scope s.heap.objs.size f qZ))->sp vs H Q xs ->
   ∃ t,PSs (cxOf CX P w K mg base N qual scope f qZ A outer s H xs) body t/\t {nx:=λ_ H'=>Q .non H',rt:=Q} (start N vs) H) :
  FnOk P w K mg base CX (k+1) f (W.fnOf name qual params body scope O kV z M ds qZ R) ps sp:=by
 refine⟨len,λA outer s H Y us vs Q xs hr l hb r g=>?_⟩;have hl:=len _ _ _ _ g;have KX:K.In s.heap:=l.mod.kin.keeps λb o e=>(l.bs b o e).1;have G:s.heap.NoLimit:=l.mod.nolimit.keeps λb o e=>(l.bs b o e).1;have a:∀y∈ps.zip us,scope.names.lookup y.1=some .local\/(scope.names.lookup y.1=some .cell/\((cellsFrom (s.heap.objs.size+1) scope.names []).lookup y.1).isSome=true):=λ⟨n,v⟩ hy=>by
  rcases S.par n (List.of_mem_zip hy).1 with q|q
  ·exact .inl q
  exact .inr ⟨q,W.cellsFrom_some _ _ _ (.inl q)⟩
 refine codeAny_call_function hr.depth (KX _ _ lk) rfl S.co S.gen rfl (W.codeRec_of KX L) (hb _ _ _ _ ?_);refine wpAny_newFunctionEnv_cells S.kind a λenv he s1 x=>?_;subst he;refine⟨G.keeps x.toInCall.keep,codeAny_func ?_⟩;obtain⟨t,ht,hq⟩:=qY A outer s H vs Q xs (hr.deeper _) g;have I:Inv (cxOf CX P w K mg base N qual scope f qZ A outer s H xs) [] (start N vs) H s1:=Ny S hr.hd l hl r x;refine wpAny_mono (ht [] s1 (start N vs) H _ I hq) (λfl s' d=>?_) λe s' d=>d;have j:∀{σ':St}{H':Hp}{v:V}{u:Value},Inv (cxOf CX P w K mg base N qual scope f qZ A outer s H xs) [] σ' H' s'->RelV v u->Q v H'->CE outer P w H s Q u s' :=
  λ{σ' H' v u} h1 B q=>⟨v,H',h1.os,h1.bare,h1.base,h1.hok,B,q⟩
 cases fl with
 |ret u =>
  obtain⟨v,σ',H',h1,B,q⟩:=d;exact j h1 B q
 |next =>
  obtain⟨σ',H',h1,q⟩:=d;exact j (v:=V.non) (u:=Value.none) h1 rfl q
 |brk =>
  obtain⟨_,_,_,q⟩:=d;exact False.elim q
 |cont =>
  obtain⟨_,_,_,q⟩:=d;exact False.elim q
section
variable{x:Str}{p pos:Pos}{e:Expr}{es:List Expr}{t:TA}{id T:String}{r:List V->Hp->VK->Prop}
def tCB(r:List V->Hp->VK->Prop)(t:TA):TE:=λY H Q=>t Y H λvs H1=>r vs H1 Q
def Km(y:qu X (.builtin id) r)(u:Gl X x)(q:X.mg x=none)(k:bootBuiltins x=some (.builtin id))(z:PA X (e::es) t)(l:x≠"__name__":=by decide)(d:D_ x:=by decide)(v:S_ X e es:=by rfl)(a:B_ X es pos:=by rfl):PE X (.Call (.Name x p) (e::es) [] pos) (tCB r t):=by
 intro pn s Y H Q I h;refine zdB (Yz I u q k ?_ l d);exact PyProof.Rows.callWith_builtin1 (thn (z pos pn s Y H _ I h) λus g ⟨vs,H1,B,r1,j⟩=>y pn g Y H1 vs us Q B r1 j) v a
def V8(y:qu X (.type T) r)(u:Gl X x)(q:X.mg x=none)(k:bootBuiltins x=some (.type T))(z:PA X (e::es) t)(l:x≠"__name__":=by decide)(d:D_ x:=by decide)(v:S_ X e es:=by rfl)(a:B_ X es pos:=by rfl):PE X (.Call (.Name x p) (e::es) [] pos) (tCB r t):=by
 intro pn s Y H Q I h;refine zdB (Yz I u q k ?_ l d);exact zdI (thn (z pos pn s Y H _ I h) λus g ⟨vs,H1,B,r1,j⟩=>y pn g Y H1 vs us Q B r1 j) v a
end
section
open PySem.SeqAt
open PySem.AutoSeq1 (wpAny_loadPart')
open PySem.MeetsSeq PySem.MeetsSeq2 PySem.MeetsSeq3
end
def cat_tup{t b:Addr}(y:IsTup s.heap t vs.toArray)(z:IsTup s.heap b ws.toArray)(u:vs≠[])(J:ws=[]->Q (.ref t) s)(h2:ws≠[]->Q (.ref s.heap.objs.size) {s with heap:=s.heap.push {cls:=.type "tuple",data:=.seq (vs++ws).toArray}})(hsz:vs.length+ws.length<=sizeLine):wpAny (model prog w) A (binaryOp .Add (.ref t) (.ref b)) Q xs s:=by
 obtain⟨⟨cls,dd,data,q⟩,ho,v,n,hd⟩:=id y;obtain⟨⟨x,k,l,d⟩,a,j,r,g⟩:=id z;simp only at v hd j g;subst v hd j g;have e:vs.toArray++ws.toArray=(vs++ws).toArray:=by simp
 by_cases hw:ws=[]
 ·exact concat_meets ⟨_,ho,rfl⟩ ⟨_,a,rfl⟩ noFill_tuple_add seq_tuple_add zfB zeY (zeT _ _)
   (tuple_addW1 t b vs.toArray ws.toArray n r dd k q d (by simpa using u) (by simp[hw])) ⟨ho,a,J hw⟩
 refine concat_meets ⟨_,ho,rfl⟩ ⟨_,a,rfl⟩ noFill_tuple_add seq_tuple_add zfB zeY (zeT _ _)
  (tuple_addW2 t b vs.toArray ws.toArray n r dd k q d (by simpa using u) (by simpa using hw) (by rw[zap,zap];exact hsz)) ⟨ho,a,?_⟩
 rw[e];exact h2 hw
def sIx(n d:Nat):Option Int->Nat
 |none=>d
 |some v=>if v<0 then(v+(n:Int)).toNat else min v.toNat n
def sIx_none(n d:Nat):sIx n d none=d:=rfl
def sIx_nat(n d k:Nat):sIx n d (some (k:Int))=min k n:=by
 show(if (k:Int)<0 then((k:Int)+(n:Int)).toNat else min (k:Int).toNat n)=min k n
 rw[zaJ aD,zdQ]
def B9(n d:Nat)(hd:d<=n)(o:Option Int):sIx n d o<=n:=by
 cases o with
 |none=>exact hd
 |some v =>
  show(if v<0 then(v+(n:Int)).toNat else min v.toNat n)<=n
  by_cases hv:v<0
  ·rw[zaM hv];omega
  rw[zaJ hv];exact Nat.min_le_right _ _
def L0(v:Int)(n d:Nat):(if v<0 then max (v+(n:Int)) 0 else min v (n:Int))=((sIx n d (some v):Nat):Int):=by
 show(if v<0 then max (v+(n:Int)) 0 else min v (n:Int))=(((if v<0 then(v+(n:Int)).toNat else min v.toNat n):Nat):Int)
 by_cases hv:v<0
 ·simp only[zaM hv];omega
 simp only[zaJ hv];omega
def Pv(lo hi:Option Int)(n:Nat):Builtin.Slice.sliceAdjust lo hi 1 (n:Int)=(((sIx n 0 lo:Nat):Int),((sIx n n hi:Nat):Int)):=by
 have J:¬ ((1:Int)<0):=by omega
 unfold Builtin.Slice.sliceAdjust;simp only[J,zfR];refine Prod.ext ?_ ?_
 ·cases lo with
  |none=>rfl
  |some v=>exact L0 v n 0
 cases hi with
 |none=>rfl
 |some v=>exact L0 v n n
def Pb(i j:Nat):Builtin.Slice.slicePlaces (i:Int) (j:Int) 1=j-i:=by
 unfold Builtin.Slice.slicePlaces;have J:(1:Int) > 0:=by omega
 simp only[J,zfG,Int.ediv_one];split <;> omega
def Yj{v:Value}{o:Option Int}{Q:Option Int->Shared->Prop}(p:IsPart v o)(h:Q o s):wpAny (model prog w) A (Builtin.Slice.slicePartIndex v) Q xs s:=by
 cases p with
 |none=>exact slicePart_none h
 |int i t=>exact slicePart_int h
def c7{j:Addr}{g e:Value}{lo hi:Option Int}{n:Nat}{Q:Int×Int×Nat->Shared->Prop}(l:s.heap.IsSliceOf j g e .none)(pl:IsPart g lo)(k:IsPart e hi)(h:Q (((sIx n 0 lo:Nat):Int),1,sIx n n hi-sIx n 0 lo) s):wpAny (model prog w) A (Builtin.Slice.sliceApplied (.ref j) (pure (n:Int))) Q xs s:=by
 obtain⟨r,a,q,d⟩:=id l;unfold Builtin.Slice.sliceApplied Builtin.Slice.sliceFields;refine zaa (zaa (zbW a d (x:=g) rfl (zaa (zbW a d (x:=e) rfl (zaa (zbW a d (x:=.none) rfl (zab ?_)))))));refine zaa (slicePart_none ?_);show wpAny _ _ (if ((1:Int)==0)=true then _ else _) _ _ s
 rw[zaJ aB]
 refine zaa (Yj pl (zaa (Yj k (zaa (zab ?_)))));show wpAny _ _ (match Builtin.Slice.sliceAdjust lo hi 1 (n:Int) with|(lo,hi)=>pure (lo,(1:Int),Builtin.Slice.slicePlaces lo hi 1)) _ _ s
 rw[Pv lo hi n];show wpAny _ _ (pure (((sIx n 0 lo:Nat):Int),(1:Int),Builtin.Slice.slicePlaces ((sIx n 0 lo:Nat):Int) ((sIx n n hi:Nat):Int) 1)) _ _ s;rw[Pb];exact zab h
def Kf(E:Array Value)(i k:Nat):((List.range k).filterMap λ(m:Nat)=>E[((i:Int)+(m:Int)*1).toNat]?).toArray=((E.toList.drop i).take k).toArray:=by
 have e:(λ(m:Nat)=>E[((i:Int)+(m:Int)*1).toNat]?)=λm=>E[i+m]?:=by
  funext m
  have:((i:Int)+(m:Int)*1).toNat=i+m:=by omega
  rw[this]
 rw[e];have:=pick_run E i k;rw[zcF]at this;have e2:((λx=>E[x]?) ∘ λx=>i+x)=λm=>E[i+m]?:=rfl;rw[e2]at this;rw[this]
def getItem_tuple_cut{t e:Addr}{items:Array Value}{u r:Value}{lo hi:Option Int}{Q:Value->Shared->Prop}(d:IsTup s.heap t items)(v:s.heap.IsSliceOf e u r .none)(pl:IsPart u lo)(x:IsPart r hi)(z:¬ (sIx items.size 0 lo=0/\sIx items.size items.size hi=items.size))(h:Q (.ref s.heap.objs.size) {s with heap:=s.heap.push {cls:=.type "tuple",data:=.seq ((items.toList.drop (sIx items.size 0 lo)).take (sIx items.size items.size hi-sIx items.size 0 lo)).toArray}})(hsz:items.size<=sizeLine):wpAny (model prog w) A (getItem (.ref t) (.ref e)) Q xs s:=by
 have a:sizeOk (.seq ((items.toList.drop (sIx items.size 0 lo)).take (sIx items.size items.size hi-sIx items.size 0 lo)).toArray):=by
  show((items.toList.drop (sIx items.size 0 lo)).take (sIx items.size items.size hi-sIx items.size 0 lo)).toArray.size<=sizeLine;rw[zap,zcC,zdC,zcQ];omega
 have I:sIx items.size items.size hi<=items.size:=B9 _ _ (zaj _) hi;obtain⟨y,g,k,B⟩:=id v;have l:s.TypeIs (.ref e) "slice":=⟨y,g,k⟩;unfold getItem
 try with_reducible refine zcH ?_
 first|refine zaa (zab ?_)|skip
 refine zaa (wpAny_sequenceKey d.typeIs aB ?_)
 refine zaa (zbX (name:=Str.ofString "__getitem__") d.typeIs PyProof.Rows.slot_tuple_getitem
  (zbY PyProof.Rows.slot_tuple_getitem d.typeIs entry_tuple_getitem ?_ (args_tuple_getitem _ _)))
 show wpAny _ _ (Builtin.Tuple.tupleItemsOf (.ref t) >>= _) _ _ s;refine zaa (tupleItemsOf_ d ?_);refine zaa (wpAny_typeOf l ?_);rw[zaM aB]
 refine zaa (c7 v pl x ?_);have j:¬ ((((sIx items.size 0 lo:Nat):Int)==0&&(1:Int)==1&&(sIx items.size items.size hi-sIx items.size 0 lo)==items.size)=true):=by
  intro q;rw[zbI,zbI]at q;have G:((sIx items.size 0 lo:Nat):Int)=0:=zfT q.1.1;have D:sIx items.size items.size hi-sIx items.size 0 lo=items.size:=zfT q.2;exact z ⟨by omega,by omega⟩
 show wpAny _ _ (if (((sIx items.size 0 lo:Nat):Int)==0&&(1:Int)==1&&(sIx items.size items.size hi-sIx items.size 0 lo)==items.size)=true then _ else _) _ _ s
 rw[zaJ j,Kf]
 first
  |exact zaa (m:=Builtin.Tuple.tupleExact _) (zbT (zab ⟨_,rfl,zab h⟩) a)
  |exact zaa (m:=Builtin.Tuple.tupleExact _) (zbT (zaa (zab (zab ⟨_,rfl,zab h⟩))) a)
  |exact zaa (zaa (m:=Builtin.Tuple.tupleExact _) (zbT (zab (zab ⟨_,rfl,zab h⟩)) a))
  |exact zaa (zaa (m:=Builtin.Tuple.tupleExact _) (zbT (zab ⟨_,rfl,zab h⟩) a))
abbrev TO:=St->Hp->(Option Int->Hp->Prop)->Prop
def PO(X:Cx)(e:Option Expr)(t:TO):Prop :=
 ∀(pn:List (Addr×Obj))(s:Shared)(Y:St)(H:Hp)(Q:Option Int->Hp->Prop),Inv X pn Y H s->t Y H Q ->
  wpAny (model X.prog X.w) X.A (evalPart e X.env) (λu s'=>∃o H',Inv X pn Y H' s'/\IsPart u o/\Q o H') X.xe s
def F6:TO:=λ_ H Q=>Q none H
def z1v(t:TE):TO:=λY H Q=>t Y H λx H1=>∃i,x=.int i/\Q (some i) H1
section
variable{e:Expr}{te:TE}{lo hi:Option Expr}{tl th:TO}{pos p2:Pos}
def E4:PO X none F6:=by
 intro pn s Y H Q I h;rw[evalPart_none];exact zab ⟨none,H,I,.none,h⟩
def E3(h:PE X e te):PO X (some e) (z1v te):=by
 intro pn s Y H Q I d;rw[evalPart_some];refine thn (h pn s Y H _ I d) λu j Zh=>?_;obtain⟨x,H1,g,r1,a⟩:=Zh;obtain⟨i,rfl,q⟩:=a;obtain⟨t,rfl⟩:=r1;exact⟨some i,H1,g,.int i t,q⟩
def SlR(X:Cx)(r:V->Option Int->Option Int->Hp->VK->Prop):Prop :=
 ∀(pn:List (Addr×Obj))(s:Shared)(Y:St)(H:Hp)(x:V)(v vl vu:Value)(lo hi:Option Int)(sl:Addr)(Q:VK),Inv X pn Y H s->RelV x v->s.heap.IsSliceOf sl vl vu .none->IsPart vl lo->IsPart vu hi->r x lo hi H Q ->
  ∃T id,typeLookup (.type T) "__getitem__" = pure (some (.builtin id))/\s.TypeIs v T/\wpAny (model X.prog X.w) X.A (getItem v (.ref sl)) (EP X pn Y Q) X.xe s
def SlR.or(h:SlR X r)(h':SlR X r'):SlR X (λx lo hi H Q=>r x lo hi H Q\/r' x lo hi H Q):=by
 intro pn s Y H x v d a lo hi e Q I g k pl j q;rcases q with q|q
 ·exact h pn s Y H x v d a lo hi e Q I g k pl j q
 exact h' pn s Y H x v d a lo hi e Q I g k pl j q
def tSl(r:V->Option Int->Option Int->Hp->VK->Prop)(te:TE)(tl th:TO):TE:=λY H Q=>te Y H λx H1=>tl Y H1 λl H2=>th Y H2 λu a=>r x l u a Q
def Kh{r:V->Option Int->Option Int->Hp->VK->Prop}(hr:SlR X r)(L:PE X e te)(hl:PO X lo tl)(hu:PO X hi th):PE X (.Subscript e (.Slice lo hi none p2) pos) (tSl r te tl th):=by
 intro pn s Y H Q I h;refine Subscript_ (thn (L pn s Y H _ I h) λv k Zh=>?_);obtain⟨x,H1,R,r1,B⟩:=Zh;refine wpAny_Slice (thn (hl pn k Y H1 _ R B) λg s2 ⟨l,H2,O,pl,z⟩=>thn (hu pn s2 Y H2 _ O z) λd a Zh=>?_);obtain⟨u,j,N,D,y⟩:=Zh;rw[evalPart_none];refine zab ?_;have M:Inv X pn Y j {a with heap:=a.heap.push {cls:=.type "slice",data:=.fields #[g,d,.none]}}:=N.kept (t':=a.toks) λb ob q=>zac _ q;obtain⟨T,id,hT,G,h1⟩:=hr pn {a with heap:=a.heap.push {cls:=.type "slice",data:=.fields #[g,d,.none]}} Y j x v g d l u a.heap.objs.size Q M r1 (Heap.IsSliceOf.new ..) pl D y;show wpAny (model X.prog X.w) X.A (subscriptTail e (.Slice lo hi none p2) v (.ref a.heap.objs.size)) (EP X pn Y Q) X.xe {a with heap:=a.heap.push {cls:=.type "slice",data:=.fields #[g,d,.none]}};exact tail_any (ops:=[.ref a.heap.objs.size,v]) G hT h1 (by with_unfolding_all rfl)
def cutV(E:List V)(lo hi:Option Int):List V:=(E.drop (ZZ.sIx E.length 0 lo)).take (ZZ.sIx E.length E.length hi-ZZ.sIx E.length 0 lo)
def Zl(E:List V)(lo hi:Option Int):(cutV E lo hi).length<=E.length:=by
 unfold cutV;rw[zcC,zdC];omega
def rSlT(K:W.Frag):V->Option Int->Option Int->Hp->VK->Prop:=λx lo hi H Q=>∃a E,x=.ref a/\SqT K H a E /\
 ¬ (ZZ.sIx E.length 0 lo=0/\ZZ.sIx E.length E.length hi=E.length)/\∀p,H p=none->Q (.ref p) (upd H p (.tup (cutV E lo hi)))
def B5:SlR X (rSlT X.K):=by
 intro pn s Y H x v B z lo hi D Q I j y pl k h;obtain⟨a,E,rfl,l,u,q⟩:=h;cases j;obtain⟨its,r,g,e⟩:=I.tuple l;have d:its.toArray.size=E.length:=by rw[zap];exact r.length.symm
 refine⟨"tuple",_,PyProof.Rows.slot_tuple_getitem.lookup,g.typeIs,?_⟩;refine ZZ.getItem_tuple_cut g y pl k (by rw[d];exact u) ?_ (by rw[d];exact e)
 rw[d];refine⟨.ref s.heap.objs.size,_,I.laid (t':=s.toks) (o:=.tup (cutV E lo hi)) (λb ob q=>zac _ q) (zaj _) ?_,rfl,q _ (I.hok.fresh (zaj _))⟩;exact⟨zak (Zl E lo hi) e,_,(r.drop (ZZ.sIx E.length 0 lo)).take (ZZ.sIx E.length E.length hi-ZZ.sIx E.length 0 lo),IsTup.new _ _,_,zad _ rfl,rfl⟩
def Bg(K:W.Frag):R2:=λx y H Q=>∃a b E ys,x=.ref a/\y=.ref b/\SqT K H a E/\SqT K H b ys/\E≠[]/\E.length+ys.length<=sizeLine /\
 (ys=[]->Q (.ref a) H)/\(ys≠[]->∀p,H p=none->Q (.ref p) (upd H p (.tup (E++ys))))
def Vals.nil_iff(r:Vals E us):us=[] ↔ E=[]:=by
 cases r with
 |nil=>simp
 |cons _ _=>simp
def N6:OpR X (binaryOp .Add) (Bg X.K):=by
 intro pn s Y H x y v u Q I j g h;obtain⟨a,b,E,ys,rfl,rfl,G,D,B,e,l,k⟩:=h;cases j;cases g;obtain⟨its,r1,r,_⟩:=I.tuple G;obtain⟨d,r2,p2,_⟩:=I.tuple D;refine ZZ.cat_tup r p2 (λz=>B (r1.nil_iff.mp z)) (λz=>⟨.ref a,H,I,rfl,l (r2.nil_iff.mp z)⟩) (λz=>?_) (by rw[<- r1.length,<- r2.length];exact e)
 refine⟨.ref s.heap.objs.size,_,I.laid (t':=s.toks) (o:=.tup (E++ys)) (λb ob q=>zac _ q) (zaj _) ?_,rfl,k (λw=>z (r2.nil_iff.mpr w)) _ (I.hok.fresh (zaj _))⟩;exact⟨by rw[zLa];exact e,_,r1.append r2,IsTup.new _ _,_,zad _ rfl,rfl⟩
end
def ixN(n:Nat)(i:Int):Option Nat:=if 0<=i then(if i<n then some i.toNat else none) else if -(n:Int)<=i then some (i+n).toNat else none
def atI{α:Type}(E:List α)(i:Int):Option α:=(ixN E.length i).bind λj=>E[j]?
def Nv(h:ixN n i=some j):seqIndex? i n=some j/\j<n/\-(n:Int)<=i/\i<n:=by
 unfold ixN at h;by_cases h0:0<=i
 ·rw[zaM h0]at h;by_cases J:i<n
  ·rw[zaM J]at h;have e:i.toNat=j:=zaT h;exact⟨by rw[seqIndex_of h0 J,e],by omega,by omega,J⟩
  rw[zaJ J]at h;cases h
 rw[zaJ h0]at h;by_cases J:-(n:Int)<=i
 ·rw[zaM J]at h;have e:(i+n).toNat=j:=zaT h;exact⟨by rw[seqIndex_neg aD J,e],by omega,J,by omega⟩
 rw[zaJ J]at h;cases h
def R6{α:Type}{E:List α}{i:Int}{v:α}(h:atI E i=some v):∃j,seqIndex? i E.length=some j/\E[j]?=some v/\j<E.length/\-(E.length:Int)<=i/\i<E.length:=by
 unfold atI at h;cases e:ixN E.length i with
 |none=>rw[e]at h;cases h
 |some j =>
  rw[e]at h;obtain⟨J,h2,d,a⟩:=Nv e;exact⟨j,J,h,h2,d,a⟩
def fu{α:Type}{E:List α}{j:Nat}{v:α}(h:E[j]?=some v):atI E (j:Int)=some v:=by
 have a:j<E.length:=(zag.mp h).1;have e:ixN E.length (j:Int)=some j:=by
  unfold ixN;rw[zaM aD,zaM aD];simp
 unfold atI;rw[e];exact h
def Ws(b:Expr):Prop:=∀o i,subscripted b false o i=operate [o,i] (getItem o i)
def IxR(X:Cx)(r:R2):Prop :=
 ∀(value slice:Expr)(pn:List (Addr×Obj))(s:Shared)(Y:St)(H:Hp)(x y:V)(v u:Value)(Q:VK),Inv X pn Y H s->RelV x v->RelV y u->r x y H Q ->
  subscripted slice false v u=operate [v,u] (getItem v u)->wpAny (model X.prog X.w) X.A (subscriptTail value slice v u) (EP X pn Y Q) X.xe s
def MtR(X:Cx)(id:String)(r:V->List V->Hp->VK->Prop):Prop :=
 ∀(pn:List (Addr×Obj))(s:Shared)(Y:St)(H:Hp)(x:V)(E:List V)(v:Value)(us:List Value)(Q:VK),Inv X pn Y H s->RelV x v->Vals E us->r x E H Q ->
  wpAny (model X.prog X.w) X.A (call (.builtin id) (v::us)) (EP X pn Y Q) X.xe s
section
variable{a b:Expr}{ta tb:TE}{pos:Pos}
def IxR.or(h:IxR X r)(h':IxR X r'):IxR X (λx y H Q=>r x y H Q\/r' x y H Q):=by
 intro value a pn s Y H x y v u Q I e d q g;rcases q with q|q
 ·exact h value a pn s Y H x y v u Q I e d q g
 exact h' value a pn s Y H x y v u Q I e d q g
def E8(hr:IxR X r)(k:PE X a ta)(j:PE X b tb)(g:Ws b):PE X (.Subscript a b pos) (tOp r ta tb):=by
 intro pn s Y H Q I h;exact Subscript_ (binT k j I h λv u s2 x y H2 l e d q=>hr a b pn s2 Y H2 x y v u Q l e d q (g _ _))
def rIxL(K:W.Frag):R2:=λx y H Q=>∃p E i v,x=.ref p/\y=.int i/\SqL K H p E/\atI E i=some v/\Q v H
def rIxT(K:W.Frag):R2:=λx y H Q=>∃p E i v,x=.ref p/\y=.int i/\SqT K H p E/\atI E i=some v/\Q v H
def rIxS:R2:=λx y H Q=>∃z i c,x=.str z/\y=.int i/\z.length<=sizeLine/\atI z.cps.toList i=some c/\Q (.str ⟨#[c]⟩) H
def D3:IxR X (rIxL X.K):=by
 intro value d pn s Y H x y v u Q I D B h k;obtain⟨p,E,i,z,rfl,rfl,G,h1,q⟩:=h;cases D;obtain⟨t,rfl⟩:=B;obtain⟨its,r,pl,N⟩:=I.list G;obtain⟨j,J,h2,R,M,L⟩:=R6 h1;obtain⟨w,l,e⟩:=r.get h2;have hl:=r.length;have O:=Yv;have a:EP X pn Y Q w s:=⟨z,H,I,e,q⟩;by_cases h0:0<=i
 ·have g:i.toNat=j:=by
   rw[seqIndex_of h0 L]at J;exact zaT J
  exact item_listR pl.isList h0 aD (by rw[g];simpa using l) a k
 have g:(i+(its.toArray.size:Int)).toNat=j:=by
  rw[seqIndex_neg aD M]at J
  rw[zap,<- hl];exact zaT J
 exact subscriptTail_builtinR (x:=w) pl.isList.typeIs slot_list_getitem.lookup
  (wpAny_getItem_list_neg (Q:=λr s'=>r=w/\EP X pn Y Q r s') pl.isList aD (by rw[zap] <;> omega) aD (by rw[g];simpa using l) ⟨rfl,a⟩) k
def z0h:IxR X (rIxT X.K):=by
 intro value a pn s Y H x y v u Q I k g h l;obtain⟨p,E,i,z,rfl,rfl,B,D,q⟩:=h;cases k;obtain⟨t,rfl⟩:=g;obtain⟨its,r,pl,h1⟩:=I.tuple B;obtain⟨j,J,h2,O,N,M⟩:=R6 D;obtain⟨w,G,d⟩:=r.get h2;have hl:=r.length;have L:=Yv;have e:EP X pn Y Q w s:=⟨z,H,I,d,q⟩;exact subscriptTail_builtinR (x:=w) pl.typeIs slot_tuple_getitem.lookup
  (getItem_tuple (j:=j) (Q:=λr s'=>r=w/\EP X pn Y Q r s') pl aD aD (by rw[zap,<- hl];exact J) (by simpa using G) ⟨rfl,e⟩) l
def z0i:IxR X rIxS:=by
 intro value a pn s Y H x y v u Q I e d h g;obtain⟨z,i,c,rfl,rfl,B,k,q⟩:=h;obtain⟨t,rfl⟩:=e;obtain⟨t',rfl⟩:=d;obtain⟨j,J,h2,G,r,l⟩:=R6 k;have hl:z.cps.toList.length=z.length:=by simp[Str.length]
 rw[hl]at J r l;have D:=Yv;exact tail_any (typeIs_str s z t) slot_str_getitem.lookup (getItem_str (c:=c) (by
  have e1:decide (i < -(2 ^ 63:Int))=false:=zaP aD
  have e2:decide (i ≥ 2 ^ 63)=false:=zaP aD
  rw[e1,e2,Bool.or_false]) (by rw[J];simpa using h2) ⟨.str ⟨#[c]⟩,H,I.tok _,⟨_,rfl⟩,q⟩) g
def rIx(K:W.Frag):R2:=λx y H Q=>rIxL K x y H Q\/rIxT K x y H Q\/rIxS x y H Q
def Ga:IxR X (rIx X.K):=D3.or (z0h.or z0i)
def V1(lo hi:Option Int)(n:Nat):(sliceBounds lo hi none n).1=((ZZ.sIx n 0 lo:Nat):Int)/\(sliceBounds lo hi none n).2.1=((ZZ.sIx n n hi:Nat):Int)/\(sliceBounds lo hi none n).2.2=1:=by
 refine⟨?_,?_,rfl⟩
 ·cases lo with
  |none=>simp[sliceBounds,ZZ.sIx]
  |some i =>
   simp only[sliceBounds,ZZ.sIx,Option.getD_none,show(1:Int) > 0 by decide,zfG]
   by_cases h:i<0
   ·simp only[h,zfG] <;> omega
   simp only[h,zfR] <;> omega
 cases hi with
 |none=>simp[sliceBounds,ZZ.sIx]
 |some i =>
  simp only[sliceBounds,ZZ.sIx,Option.getD_none,show(1:Int) > 0 by decide,zfG]
  by_cases h:i<0
  ·simp only[h,zfG] <;> omega
  simp only[h,zfR] <;> omega
def Xh(its:List Value)(lo hi:Option Int):slicePick its.toArray lo hi none=((its.drop (ZZ.sIx its.length 0 lo)).take (ZZ.sIx its.length its.length hi-ZZ.sIx its.length 0 lo)).toArray:=by
 obtain⟨J,h2,a⟩:=V1 lo hi its.toArray.size;unfold slicePick;rw[J,h2,a];simp only[sliceRange_one,pick_run,zap] <;> rfl
def rSlL(K:W.Frag):V->Option Int->Option Int->Hp->VK->Prop:=λx lo hi H Q=>∃a E,x=.ref a/\SqL K H a E/\∀p,H p=none->Q (.ref p) (upd H p (.lst (cutV E lo hi)))
def Fg:SlR X (rSlL X.K):=by
 intro pn s Y H x v z y lo hi B Q I g u pl j h;obtain⟨a,E,rfl,l,q⟩:=h;cases g;obtain⟨its,r,e,k⟩:=I.list l;have d:=r.length;refine⟨"list",_,slot_list_getitem.lookup,e.isList.typeIs,?_⟩;refine wpAny_getItem_list_slice e.isList u pl j .none aE ?_ (by rw[zap] <;> omega)
 rw[Xh,<- d];refine⟨.ref s.heap.objs.size,_,I.laid (t':=s.toks) (o:=.lst (cutV E lo hi)) (λb ob q=>zac _ q) (zaj _) ?_,rfl,q _ (I.hok.fresh (zaj _))⟩;exact⟨zak (Zl E lo hi) k,_,0,(r.drop (ZZ.sIx E.length 0 lo)).take (ZZ.sIx E.length E.length hi-ZZ.sIx E.length 0 lo),zad _ rfl⟩
def Y2:V->Bool
 |.non=>true
 |.bl _=>true
 |.int _=>true
 |.str _=>true
 |_=>false
def eqV:V->V->Bool
 |.non,.non=>true
 |.bl a,.bl b=>a==b
 |.bl a,.int b=>(if a then 1 else 0)==b
 |.int a,.bl b=>a==(if b then 1 else 0)
 |.int a,.int b=>a==b
 |.str a,.str b=>a==b
 |_,_=>false
def z1c{y x:V}{u v:Value}(e:RelV y u)(d:RelV x v)(j:Y2 y=true)(g:Y2 x=true):SeqAt.EqAt A s u v (eqV y x):=by
 cases y with
 |non =>
  cases e
  cases x with
  |non=>cases d;exact SeqAt.EqAt.same _
  |bl b=>cases d;exact SeqAt.EqAt.none_bool b
  |int b=>obtain⟨t,rfl⟩:=d;exact SeqAt.EqAt.none_int b t
  |str b=>obtain⟨t,rfl⟩:=d;exact SeqAt.EqAt.none_str b t
  |_=>exact absurd (show false=true from g) zbE
 |bl a =>
  cases e
  cases x with
  |non=>cases d;exact SeqAt.EqAt.bool_none a
  |bl b=>cases d;exact SeqAt.EqAt.bool_bool a b
  |int b=>obtain⟨t,rfl⟩:=d;exact SeqAt.EqAt.bool_int a b t
  |str b=>obtain⟨t,rfl⟩:=d;exact SeqAt.EqAt.bool_str a b t
  |_=>exact absurd (show false=true from g) zbE
 |int a =>
  obtain⟨t',rfl⟩:=e;cases x with
  |non=>cases d;exact SeqAt.EqAt.int_none a t'
  |bl b=>cases d;exact SeqAt.EqAt.int_bool a t' b
  |int b=>obtain⟨t,rfl⟩:=d;exact SeqAt.EqAt.int_int a t' b t
  |str b=>obtain⟨t,rfl⟩:=d;exact SeqAt.EqAt.int_str a t' b t
  |_=>exact absurd (show false=true from g) zbE
 |str a =>
  obtain⟨t',rfl⟩:=e;cases x with
  |non=>cases d;exact SeqAt.EqAt.str_none a t'
  |bl b=>cases d;exact SeqAt.EqAt.str_bool a t' b
  |int b=>obtain⟨t,rfl⟩:=d;exact SeqAt.EqAt.str_int a t' b t
  |str b=>obtain⟨t,rfl⟩:=d;exact SeqAt.EqAt.str_str a t' b t
  |_=>exact absurd (show false=true from g) zbE
 |_=>exact absurd (show false=true from j) zbE
def eqU(x:V)(u:Value):Bool:=match u with
 |.none=>eqV .non x
 |.bool b=>eqV (.bl b) x
 |.int i _=>eqV (.int i) x
 |.str z _=>eqV (.str z) x
 |_=>false
def Gk{x y:V}(r:RelV y u)(f:Y2 y=true):eqU x u=eqV y x:=by
 cases y with
 |non=>cases r;rfl
 |bl b=>cases r;rfl
 |int i=>obtain⟨t,rfl⟩:=r;rfl
 |str z=>obtain⟨t,rfl⟩:=r;rfl
 |_=>exact absurd (show false=true from f) zbE
theorem Zp{x:V}:∀{E:List V}{us:List Value},Vals E us->E.all Y2=true->us.any (eqU x)=E.any λy=>eqV y x
 |_,_,.nil,_=>rfl
 |y::E,u::us,.cons r t,f=>by
  rw[List.all_cons,zbI]at f;rw[zdV,zdV,Gk r f.1,Zp t f.2]
theorem jd{x:V}{v:Value}(a:RelV x v)(d:Y2 x=true):∀{E:List V}{us:List Value},Vals E us->E.all Y2=true->∀u∈us,SeqAt.EqAt A s u v (eqU x u)
 |_,_,.nil,_=>λu hu=>by cases hu
 |y::E,u::us,.cons r t,f=>λe hu=>by
  rw[List.all_cons,zbI]at f;rcases zam.mp hu with rfl|hu
  ·rw[Gk r f.1];exact z1c r a f.1 d
  exact jd a d t f.2 e hu
def inV(x:V)(E:List V):Bool:=E.any λy=>eqV y x
def rIn(K:W.Frag)(a:Bool):R2:=λx y H Q=>∃p E,y=.ref p/\(SqL K H p E\/SqT K H p E)/\Y2 x=true/\E.all Y2=true/\Q (.bl (if a then !inV x E else inV x E)) H
def Vd:OpR X (compareOp .In) (rIn X.K false):=by
 intro pn s Y H x y v u Q I e j h;obtain⟨p,E,rfl,a,g,fs,q⟩:=h;cases j;rcases a with a|a
 ·obtain⟨its,r,pl,k⟩:=I.list a;refine SeqAt.in_listAt (eqU x) pl.isList (λw d=>jd e g r fs w (by simpa using d)) ⟨.bl _,H,I,rfl,?_⟩
  rw[show its.toArray.any (eqU x)=its.any (eqU x) by simp,Zp r fs]
  exact q
 obtain⟨its,r,pl,k⟩:=I.tuple a;refine SeqAt.in_tupleAt (eqU x) pl (λw d=>jd e g r fs w (by simpa using d)) ⟨.bl _,H,I,rfl,?_⟩
 rw[show its.toArray.any (eqU x)=its.any (eqU x) by simp,Zp r fs]
 exact q
def Vb:OpR X (compareOp .NotIn) (rIn X.K true):=by
 intro pn s Y H x y v u Q I e j h;obtain⟨p,E,rfl,a,g,fs,q⟩:=h;cases j;rcases a with a|a
 ·obtain⟨its,r,pl,k⟩:=I.list a;refine SeqAt.notIn_listAt (eqU x) pl.isList (λw d=>jd e g r fs w (by simpa using d)) ⟨.bl _,H,I,rfl,?_⟩
  rw[show its.toArray.any (eqU x)=its.any (eqU x) by simp,Zp r fs]
  exact q
 obtain⟨its,r,pl,k⟩:=I.tuple a;refine SeqAt.notIn_tupleAt (eqU x) pl (λw d=>jd e g r fs w (by simpa using d)) ⟨.bl _,H,I,rfl,?_⟩
 rw[show its.toArray.any (eqU x)=its.any (eqU x) by simp,Zp r fs]
 exact q
def Va:OpR X (compareOp .NotIn) (λx y H Q=>∃i j,x=.str i/\y=.str j/\Q (.bl (!(!(Builtin.Str.occurrences j i 0 j.length 1).isEmpty))) H):=by
 intro pn s Y H x y v u Q I d a h;obtain⟨i,j,rfl,rfl,q⟩:=h;obtain⟨t,rfl⟩:=d;obtain⟨t',rfl⟩:=a;exact notIn_str ⟨.bl _,H,I,rfl,q⟩
def Ut:qu X (.builtin "len") (λE H Q=>∃p ys,E=[.ref p]/\(SqL X.K H p ys\/SqT X.K H p ys)/\Q (.int ys.length) H):=by
 intro pn s Y H E us Q I r h;obtain⟨p,ys,rfl,d,q⟩:=h;obtain⟨u,rfl,g⟩:=Zu r;cases g;have k:=Yv;rcases d with d|d
 ·obtain⟨its,e,pl,j⟩:=I.list d;have a:=e.length;exact Calls.call_len_list pl.isList (by simp only[zap] <;> omega) ⟨.int ys.length,H,I.tok _,⟨s.toks+1,by rw[zap,a]⟩,q⟩
 obtain⟨its,e,pl,j⟩:=I.tuple d;have a:=e.length;exact len_tuple pl (by simp only[zap] <;> omega) ⟨.int ys.length,H,I.tok _,⟨s.toks+1,by rw[zap,a]⟩,q⟩
def Us:qu X (.builtin "len") (λE H Q=>∃z,E=[.str z]/\z.length<=sizeLine/\Q (.int z.length) H):=by
 intro pn s Y H E us Q I r h;obtain⟨z,rfl,a,q⟩:=h;obtain⟨u,rfl,t,rfl⟩:=Zu r;have d:=Yv;exact len_str aD ⟨.int z.length,H,I.tok _,⟨_,rfl⟩,q⟩
def qu.or{f:Value}{r d:List V->Hp->VK->Prop}(h:qu X f r)(h':qu X f d):qu X f (λE H Q=>r E H Q\/d E H Q):=by
 intro pn s Y H E us Q I a q;rcases q with q|q
 ·exact h pn s Y H E us Q I a q
 exact h' pn s Y H E us Q I a q
def Ur:qu X (.type "list") (λE H Q=>∃p ys,E=[.ref p]/\(SqL X.K H p ys\/SqT X.K H p ys)/\∀l,H l=none->Q (.ref l) (upd H l (.lst ys))):=by
 intro pn s Y H E us Q I r h;obtain⟨p,ys,rfl,k,q⟩:=h;obtain⟨u,rfl,z⟩:=Zu r;cases z;have x:∀(its:List Value),Vals ys its->ys.length<=sizeLine->∀(h':Heap)(d:Nat),(∀b o',s.heap.get? b=some o'->h'.get? b=some o') ->
   h'.get? s.heap.objs.size=some {cls:=.type "list",dict:=none,data:=.seq its.toArray d,slots:=#[]}->EP X pn Y Q (.ref s.heap.objs.size) {s with heap:=h'}:=λits a j h' d g e =>
  ⟨.ref s.heap.objs.size,_,I.laid (t':=s.toks) g (zaj _) (show yy X.prog X.w _ h' _ (.lst ys) from⟨j,its,d,a,e⟩),rfl,q _ (I.hok.fresh (zaj _))⟩
 rcases k with k|k
 ·obtain⟨its,a,pl,j⟩:=I.list k;have v:=a.length;obtain⟨o,ho,y,n,hd⟩:=pl.isList;exact call_list_seq p (.inl rfl) ho y hd (λh' d g e=>x its a j h' d g e) (by simp only[zap] <;> omega)
 obtain⟨its,a,pl,j⟩:=I.tuple k;have v:=a.length;obtain⟨o,ho,y,n,hd⟩:=pl;exact call_list_seq p (.inr rfl) ho y hd (λh' d g e=>x its a j h' d g e) (by simp only[zap] <;> omega)
def jw:qu X (.type "tuple") (λE H Q=>∃p ys,E=[.ref p]/\((SqL X.K H p ys/\∀l,H l=none->Q (.ref l) (upd H l (.tup ys)))\/(SqT X.K H p ys/\Q (.ref p) H))):=by
 intro pn s Y H E us Q I r h;obtain⟨p,ys,rfl,h⟩:=h;obtain⟨u,rfl,v⟩:=Zu r;cases v;rcases h with⟨d,q⟩|⟨d,q⟩
 ·obtain⟨its,a,pl,g⟩:=I.list d;have j:=a.length;refine call_tuple_list pl.isList (λh' x=>?_) (by simp only[zap] <;> omega)
  have k:Inv X pn Y H {s with heap:=h'}:=I.kept (t':=s.toks) x;have y:Inv X pn Y (upd H h'.objs.size (.tup ys)) {s with heap:=h'.push {cls:=.type "tuple",data:=.seq its.toArray}} :=
   k.laid (t':=s.toks) (λb o e=>zac _ e) (zaj _) (show yy X.prog X.w _ _ _ (.tup ys) from⟨g,its,a,IsTup.new _ _,_,zad _ rfl,rfl⟩)
  exact⟨.ref h'.objs.size,_,y,rfl,q _ (k.hok.fresh (zaj _))⟩
 obtain⟨its,a,pl,g⟩:=I.tuple d;exact call_tuple_same pl ⟨.ref p,H,I,rfl,q⟩
def tyV(K:W.Frag)(T:String)(x:V)(H:Hp):Prop:=match x with
 |.str _=>T = "str"
 |.int _=>T = "int"
 |.ref p=>(T = "list"/\∃E,SqL K H p E)\/(T = "tuple"/\∃o,K.lookup p=some o/\o.cls=.type "tuple"/\o.dict=none) \/
   (T = "dict"/\((∃kvs,H p=some (.dK kvs))\/∃kvs,H p=some (.dT kvs)))\/(T = "set"/\∃S n,H p=some (.set S n))
 |_=>False
def Hf{x:V}{v:Value}(I:Inv X pn Y H s)(r:RelV x v)(ty:tyV X.K T x H) :
  s.TypeIs v T/\∀a,v=.ref a->∃ob,s.heap.get? a=some ob/\ob.dict=none:=by
 cases x with
 |str z =>
  obtain⟨t,rfl⟩:=r;cases (show T = "str" from ty);exact⟨typeIs_str s z t,λ_ e=>nomatch e⟩
 |int i =>
  obtain⟨t,rfl⟩:=r;cases (show T = "int" from ty);exact⟨typeIs_int s i t,λ_ e=>nomatch e⟩
 |ref p =>
  cases r
  rcases ty with⟨rfl,E,g⟩|⟨rfl,o,d,j,hd⟩|⟨rfl,d⟩|⟨rfl,S,n,d⟩
  ·obtain⟨its,_,pl,_⟩:=I.list g;refine⟨pl.isList.typeIs,λa e=>?_⟩;cases e;obtain⟨o,n,e,c,hd,_⟩:=pl;exact⟨o,e,hd⟩
  ·refine⟨⟨o,I.kIn p o d,j⟩,λa e=>?_⟩;cases e;exact⟨o,I.kIn _ o d,hd⟩
  ·have z:∃o,s.heap.get? p=some o/\o.ExactDict:=by
    rcases d with⟨kvs,d⟩|⟨kvs,d⟩
    ·obtain⟨_,_,_,_,o,_,_,e,ex,_⟩:=I.hok p _ d;exact⟨o,e,ex⟩
    obtain⟨_,_,_,_,o,_,_,e,ex,_⟩:=I.hok p _ d;exact⟨o,e,ex⟩
   obtain⟨o,e,ex⟩:=z;refine⟨⟨o,e,ex.1⟩,λa e2=>?_⟩;cases e2;exact⟨o,e,ex.2.1⟩
  obtain⟨o,_,_,_,e,ex,_⟩:=I.hok p _ d;refine⟨⟨o,e,ex.1⟩,λa e2=>?_⟩;cases e2;exact⟨o,e,ex.2.1⟩
 |_=>exact False.elim ty
def tBM0(K:W.Frag)(T:String)(r:V->List V->Hp->VK->Prop)(to:TE):TE:=λY H Q=>to Y H λx H1=>tyV K T x H1/\r x [] H1 Q
def tBM(K:W.Frag)(T:String)(r:V->List V->Hp->VK->Prop)(to:TE)(t:TA):TE:=λY H Q=>to Y H λx H1=>tyV K T x H1/\t Y H1 λE H2=>r x E H2 Q
variable{o e:Expr}{es:List Expr}{to:TE}{t:TA}{apos cpos:Pos}{T id:String}{r:V->List V->Hp->VK->Prop}
def A8(l:PlainAttrs T)(slot:Slot T name id)(e:typeOf (.builtin id)=pure (.type "method_descriptor"))(q:MtR X id r)(ho:PE X o to)(d:attributeBase o name X.env (eval o X.env)=eval o X.env:=by rfl)(a:(apos.endLine==cpos.line)=true:=by rfl):PE X (.Call (.Attribute o name apos) [] [] cpos) (tBM0 X.K T r to):=by
 intro pn s Y H Q I h;refine wpAny_Call_method0_late d a (thn (ho pn s Y H _ I h) λv j Zh=>?_);obtain⟨x,H1,g,r1,ty,k⟩:=Zh;obtain⟨J,h2⟩:=Hf g r1 ty;exact⟨T,id,l,slot,e,J,h2,zfC rfl (PySem.evalArgs_none (q pn j Y H1 x [] v [] Q g r1 .nil k))⟩
def Kn(B:PlainAttrs T)(slot:Slot T name id)(k:typeOf (.builtin id)=pure (.type "method_descriptor"))(G:MtR X id r)(ho:PE X o to)(h1:PA X (e::es) t)(g:attributeBase o name X.env (eval o X.env)=eval o X.env:=by rfl)(j:((backTo cpos (starEach (e::es) X.env)).all (λx=>!x.1)&&(backToKw cpos (keywordEach [] X.env)).all (λx=>x.1.isSome)
   && decide ((e::es).length+([]:List Keyword).length+(if ([]:List Keyword).isEmpty then 0 else 1)<30))=true:=by rfl)(d:(apos.endLine==cpos.line)=true:=by rfl)(D:S_ X e es:=by rfl)(a:B_ X es cpos:=by rfl) :
  PE X (.Call (.Attribute o name apos) (e::es) [] cpos) (tBM X.K T r to t):=by
 intro pn s Y H Q I h;refine wpAny_Call_method_late g j d rfl (thn (ho pn s Y H _ I h) λv u Zh=>?_);obtain⟨x,H1,q,r1,ty,z⟩:=Zh;obtain⟨J,h2⟩:=Hf q r1 ty;refine⟨T,id,B,slot,k,J,h2,?_⟩;have l:=h1 cpos pn u Y H1 _ q z;rw[D]at l ⊢;refine zfC (by show(false || (backTo cpos (starEach es X.env)).any (·.1))=false;rw[a] <;> rfl) (Calls.evalArgs_plain ?_)
 exact thn l λus s2 ⟨vs,H2,L,r2,y⟩=>G pn s2 Y H2 x vs v us Q L r1 r2 y
end
def MtM(X:Cx)(id:String)(r:V->List V->Hp->VK->Prop):Prop :=
 ∀(pn:List (Addr×Obj))(s:Shared)(Y:St)(H:Hp)(x:V)(E:List V)(v:Value)(us:List Value)(Q:VK),Inv X pn Y H s->RelV x v->Vals E us->r x E H Q ->
  wpAny (model X.prog X.w) X.A (call (.builtin id) (v::us)) (EP X pn Y Q) X.xe s
def Vals.one:∀{x:V}{us:List Value},Vals [x] us->∃u,us=[u]/\RelV x u
 |_,_,.cons r .nil=>⟨_,rfl,r⟩
def Vals.zero:∀{us:List Value},Vals [] us->us=[]
 |_,.nil=>rfl
theorem Vals.eraseIdx:∀{E:List V}{us:List Value}(i:Nat),Vals E us->Vals (E.eraseIdx i) (us.eraseIdx i)
 |_,_,_,.nil=>.nil
 |_,_,0,.cons _ t=>t
 |_,_,i+1,.cons r t=>.cons r (Vals.eraseIdx i t)
theorem Vals.rep(h:Vals E us):∀k:Nat,Vals (List.replicate k E).flatten (List.replicate k us).flatten
 |0=>.nil
 |k+1=>by
  rw[zcL,zcL,zdG,zdG];exact Vals.append h (Vals.rep h k)
theorem Vi{α:Type}:∀(l:List α)(i:Nat),(l.eraseIdx i).length<=l.length
 |[],_=>zaj _
 |_::_,0=>zcJ _
 |_::r,i+1=>zbK (Vi r i)
theorem jh(its:List Value):∀(k:Nat)(acc:List Value),
  List.foldl (λa x2=>a++x2) acc.toArray (List.replicate k its.toArray)=(acc++(List.replicate k its).flatten).toArray
 |0,acc=>by simp
 |k+1,acc=>by
  have e:acc.toArray++its.toArray=(acc++its).toArray:=by simp
  have e2:(acc++its)++(List.replicate k its).flatten=acc++(List.replicate (k+1) its).flatten:=by
   rw[zcL,zdG,zbN]
  rw[<- e2,<- jh its k (acc++its),<- e,zcL,List.foldl_cons]
variable{l:Addr}
def Inv.lset{its its':List Value}{n:Nat}{f:Array Value->Array Value}{t':Nat}(I:Inv X pn Y H s)(k:H l=some (.lst E))(e:s.heap.get? l=some {cls:=.type "list",data:=.seq its.toArray n})(g:f its.toArray=its'.toArray)(d:Vals ys its')(a:ys.length<=sizeLine) :
  Inv X pn Y (upd H l (.lst ys)) {s with heap:=s.heap.update l (Obj.mapSeq f),toks:=t'}:=by
 have q:=PySem.IsL.update e f;rw[g]at q;refine I.write (x:=l) (e:=l) (by rw[k];exact zaA) (.inl rfl) (λr u j hu=>(Heap.get?_update_other s.heap (Obj.mapSeq f) (Ne.symm j)).trans hu) ⟨_,q⟩ ?_
 exact⟨a,its',_,d,q⟩
def Inv.lnew(I:Inv X pn Y H s)(d:Vals ys its)(a:ys.length<=sizeLine) :
  Inv X pn Y (upd H s.heap.objs.size (.lst ys)) {s with heap:=s.heap.push {cls:=.type "list",data:=.seq its.toArray},toks:=t'} :=
 I.laid (λ_ _ q=>zac _ q) (zaj _) ⟨a,its,0,d,zad _ rfl⟩
theorem Inv.fresh(I:Inv X pn Y H s):H s.heap.objs.size=none:=I.hok.fresh (zaj _)
def Inv.lstM(I:Inv X pn Y H s)(a:H l=some (.lst E)):E.length<=sizeLine/\∃(its:List Value)(n:Nat),Vals E its/\E.length=its.length/\s.heap.get? l=some {cls:=.type "list",data:=.seq its.toArray n}:=by
 obtain⟨z,its,n,r,e⟩:=I.hok l _ a;exact⟨z,its,n,r,r.length,e⟩
def Kq(h:n<=sizeLine):Builtin.List.listTooLong n=false:=by
 unfold Builtin.List.listTooLong;exact zaP aD
def Ta:V->List V->Hp->VK->Prop:=λx vs H Q=>∃l E y,x=.ref l/\vs=[y]/\H l=some (.lst E)/\E.length<sizeLine/\Q .non (upd H l (.lst (E++[y])))
def bp:MtM X "list.append" Ta:=by
 intro pn s Y H x vs v us Q I d g h;obtain⟨l,E,y,rfl,rfl,a,k,q⟩:=h;cases d;obtain⟨u,rfl,j⟩:=g.one;obtain⟨z,its,n,r,hl,e⟩:=I.lstM a;refine zeU F.slot_list_append ⟨_,e,rfl⟩ F.entry_list_append (F.args_list_append_2 _ _) (PySem.list_append l its.toArray n u (by rw[zap];omega)) ⟨e,?_⟩
 refine⟨.non,_,I.lset (its':=its++[u]) a e aE (r.append (.cons j .nil)) ?_,rfl,q⟩
 rw[zLa,zbJ];omega
def Hs:V->List V->Hp->VK->Prop:=λx vs H Q=>∃l E i k y,x=.ref l/\vs=[.int i]/\H l=some (.lst E)/\-(2 ^ 63)<=i/\i<2 ^ 63/\seqIndex? i E.length=some k/\E[k]?=some y/\Q y (upd H l (.lst (E.eraseIdx k)))
def Kt:MtM X "list.pop" Hs:=by
 intro pn s Y H x vs v us Q I g j h;obtain⟨l,E,i,k,y,rfl,rfl,d,J,h2,h1,D,q⟩:=h;cases g;obtain⟨u,rfl,B⟩:=j.one;obtain⟨t,rfl⟩:=B;obtain⟨z,its,n,r,hl,e⟩:=I.lstM d;obtain⟨w,G,a⟩:=r.get D;refine zeU F.slot_list_pop ⟨_,e,rfl⟩ F.entry_list_pop (F.args_list_pop_2 _ _)
  (MeetsSeq.list_pop_at l its.toArray n i t k w (fitsIndex_both J h2) (by rw[zap,<- hl];exact h1) (by rw[<- zfK];exact G) (by rw[zap];omega)) ⟨e,?_⟩
 refine⟨y,_,I.lset (its':=its.eraseIdx k) d e ?_ (r.eraseIdx k) ?_,a,q⟩
 ·show its.toArray.eraseIdxIfInBounds k=(its.eraseIdx k).toArray;rw[List.eraseIdxIfInBounds_toArray]
 have:=Vi E k;omega
def Ht:V->List V->Hp->VK->Prop:=λx vs H Q=>∃l E,x=.ref l/\vs=[]/\H l=some (.lst E)/\Q .non (upd H l (.lst []))
def Ku:MtM X "list.clear" Ht:=by
 intro pn s Y H x vs v us Q I g j h;obtain⟨l,E,rfl,rfl,d,q⟩:=h;cases g;have a:=j.zero;subst a;obtain⟨z,its,n,r,hl,e⟩:=I.lstM d;refine zeU F.slot_list_clear ⟨_,e,rfl⟩ F.entry_list_clear (F.args_list_clear_1 _) (AutoSeq1.list_clear_list_0 l its.toArray n (by rw[zap];omega)) ⟨e,?_⟩
 exact⟨.non,_,I.lset (its':=[]) (ys:=[]) d e rfl .nil (zbG _),rfl,q⟩
def rCat:R2:=λx y H Q=>∃l b E zs,x=.ref l/\y=.ref b/\H l=some (.lst E)/\H b=some (.lst zs)/\E.length+zs.length<=sizeLine/\∀p,H p=none->Q (.ref p) (upd H p (.lst (E++zs)))
def N7:OpR X (binaryOp .Add) rCat:=by
 intro pn s Y H x y v u Q I g d h;obtain⟨l,b,E,G,rfl,rfl,k,B,M,q⟩:=h;cases g;cases d;obtain⟨z,its,n,r,hl,e⟩:=I.lstM k;obtain⟨h1,a,L,r2,j,e2⟩:=I.lstM B;refine PySem.P.add_list e e2 ?_ (by rw[zap,zap];omega)
 have D:its.toArray++a.toArray=(its++a).toArray:=by simp
 rw[D];exact⟨.ref _,_,I.lnew (t':=s.toks) (r.append r2) (by rw[zLa];omega),rfl,q _ I.fresh⟩
def rRep:R2:=λx y H Q=>∃l k E,x=.ref l/\y=.int k/\H l=some (.lst E)/\-(2 ^ 63)<=k/\k<2 ^ 63/\E.length*k.toNat<=sizeLine /\
 ∀p,H p=none->Q (.ref p) (upd H p (.lst (List.replicate k.toNat E).flatten))
def Tu{α:Type}(E:List α)(k:Nat):(List.replicate k E).flatten.length=k*E.length:=by
 induction k with
 |zero=>simp
 |succ k ih=>rw[zcL,zdG,zLa,ih,Nat.succ_mul,zfY]
def Ad:OpR X (binaryOp .Mult) rRep:=by
 intro pn s Y H x y v u Q I M L h;obtain⟨l,k,E,rfl,rfl,N,J,h2,h1,q⟩:=h;cases M;obtain⟨t,rfl⟩:=L;obtain⟨z,its,n,r,hl,e⟩:=I.lstM N;have j:its.toArray.size*k.toNat<=sizeLine:=by rw[zap,<- hl];exact h1
 have D:¬ its.toArray.size*k.toNat > (2 ^ 63-1) / 8:=by
  have:(sizeLine:Nat)<=(2 ^ 63-1) / 8:=by decide
  omega
 have B:¬ (!Builtin.List.listFitsIndex k)=true:=by
  rw[fitsIndex_both J h2];exact zbE
 have d:¬ Builtin.List.listTooLong (its.toArray.size*k.toNat)=true:=by
  rw[Kq j];exact zbE
 have g:List.foldl (λG x2=>G++x2) #[] (List.replicate (if its.toArray.isEmpty=true then 0 else k.toNat) its.toArray)=(List.replicate k.toNat its).flatten.toArray:=by
  have O:∀m:Nat,List.foldl (λG x2=>G++x2) #[] (List.replicate m its.toArray)=(List.replicate m its).flatten.toArray:=λm=>by
   have:=jh its m [];rw[List.nil_append]at this;exact this
  rw[O];cases its with
  |nil=>simp
  |cons a r'=>rw[zaJ aE]
 refine wpAny_binaryOp_repeat_ref (T:="list") (U:="int") aB ⟨_,e,rfl⟩ (λs'=>typeIs_int s' k t) noFill_list_mul F.fills_int_mul zfU repeat_list F.slot_int_index.lookup
  (zeU zfU (typeIs_int s k t) F.entry_int_rmul (F.args_int_rmul_2 _ _) (int___rmul___int_list k t l its.toArray n)
   ⟨e,rfl,⟨_,e,rfl⟩,zeU F.slot_list_mul ⟨_,e,rfl⟩ F.entry_list_mul (F.args_list_mul_2 _ _) (AutoListH.list___mul___list_int_3 l its.toArray n k t B D d) ⟨e,?_⟩⟩)
 rw[g];exact⟨.ref _,_,I.lnew (t':=s.toks) (r.rep k.toNat) (by rw[Tu,Nat.mul_comm];exact h1),rfl,q _ I.fresh⟩
section
open PySem PySem.W PySem.Calls PyProof.Rows
def Z7{P:Params}:∀(ns:List Int)(vs:List Value),WellAll P h vs (ns.map WData.int)->IntsAre vs ns:=by
 intro ns
 induction ns with
 |nil =>
  intro vs w;rw[zeV]at w;cases w;exact .nil
 |cons n ns ih =>
  intro vs w;rw[zaG]at w;cases w with
  |cons a b =>
   cases a
   exact .cons _ _ (ih _ b)
def Of{l:OpenLaw}{n:Nat}(z:l.most=some n){P:Params}(e:l.row.toRowW.claim.pre args=true)(u:WellAll P h vals args) :
  ∃a vs ns,vals=[Value.ref a]/\args=[WData.list (ns.map WData.int)]/\h.get? a=some {cls:=.type "list",data:=.seq vs.toArray}/\IntsAre vs ns/\ns.length<=n:=by
 have v:WShape.hasAll [] args [.list .int]=true:=(pre_splitW e).1;have x:l.pre.holds [] {args:=args}=true:=(pre_splitW e).2;obtain⟨d,r,rfl,J,h2⟩:=hasAllW_cons v;obtain rfl:=hasAllW_nil h2;obtain⟨E,rfl,B⟩:=hasW_list J;obtain⟨ns,rfl⟩:=items_int B;have g:ns.length<=n:=by
  unfold OpenLaw.pre at x;have k:(WTm.not (.lt (.lit (.int (n:Int))) (.len (.arg 0)))).holds [] {args:=[.list (ns.map .int)]}=true:=by
   have k:=(holds_andW x).1;rw[z]at k;exact k
  have j:=condW_of k (w_not (w_lt w_lit (w_len_list (w_arg rfl))));rw[zLm]at j;refine Nat.le_of_not_lt λq=>?_;have y:(n:Int)<((ns.length:Nat):Int):=by omega
  first
   |(rw[zaX y]at j;exact absurd j aB)
   |(simp at j;omega)
 cases u with
 |cons w1 w2 =>
  cases w2
  cases w1 with
  |list ho hall=>exact⟨_,_,ns,rfl,rfl,ho,Z7 ns _ hall,g⟩
def Oz(l:OpenLaw)(args:List WData):l.row.toRowW.claim.post args (.bool true) args=true :=
 postW_of (r:=l.row.toRowW) (X:=(true==true))
  (show WShape.has [] (.bool true) .bool=true by first|rfl|decide|simp[WShape.has,WShape.arms,WShape.armsAll])
  (show(WTm.eq .res (.lit (.bool true))).value [] {args:=args,res:=some (.bool true),after:=args}=some (.bool (true==true)) from w_eq_bool (w_res rfl) w_lit) rfl
def attach_call{l:OpenLaw}{n:Nat}{XP:(Str->Option Value)->Heap->Prop}{YP:World->Heap->Prop}{d:DefRec}(ds:l.most=some n)(L:d.params.defaults=[])(call:∀ (w:World) (g e:Shared) (mg D:Str->Option Value) (y:Addr) (o:Obj) (B z k:Value) (a:Addr) (vs:List Value) (ns:List Int),
   Ground q loose [] XP w g mg D e.heap->YP w e.heap ->
   e.heap.get? y=some o->o.data=.func (docDef d.name d.params d.body d.scope B z k)->e.heap.CodeRec z d.name->mg d.name=some (.ref y) ->
   e.heap.get? a=some {cls:=.type "list",data:=.seq vs.toArray}->IntsAre vs ns->ns.length<=n->e.gens=#[] ->
   codeAny (model l.prog w) callerA (.call (.ref y) ⟨[.ref a],[]⟩) (λr s'=>r=.ok (.ret (.bool true))/\OldK e.heap s'.heap/\s'.os=e.os/\AllBare s'.gens) e) :
  WalkO q loose XP YP l.row.toRowW d [] (λf vs=>PySem.call f vs):=by
 intro w g e mg D G Y y o B z k dV kV ho hd M Q h1 hg R N as u O V I a0;obtain rfl:dV=.none:=Dflts.none Q L;obtain rfl:kV=.none:=Dflts.noKw Q;obtain⟨a,vs,ns,rfl,rfl,v,j,x⟩:=Of ds u I;refine enter_call (zeS (call w g e mg D y o B z k a vs ns G Y ho (fd_plain hd) M h1 v j x hg) λr s' W=>?_);obtain⟨rfl,h2,h3,h4⟩:=W;exact⟨.inl ⟨.bool true,.bool true,[],rfl,λ_=>rfl,.bool true,Oz l _,λ_=>⟨List.Pairwise.nil,λ_ hm=>(nomatch hm)⟩⟩,h2,h3,h4⟩
end
theorem vals_ints:∀{vs:List Value}{ns:List Int},IntsAre vs ns->Vals (ns.map V.int) vs
 |_,_,.nil=>.nil
 |_,_,.cons n t h=>.cons ⟨t,rfl⟩ (vals_ints h)
abbrev KOf{K:W.Frag}(_:K.In h):W.Frag:=K
abbrev CX0:CXT:=λ_ _ _ _ _ _=>False
abbrev E0:XK:=λ_ _ _=>False
def gm:Zs CX0 X E0:=λ_ _ _ _ _ _ _ h=>h.elim
structure Fun(K:W.Frag)(x qual:Str)(st:Stmt)(f:Addr)(fd:FuncData):Prop where
 ex:∃(oc:Value)(od:Option Addr)(kV doc pm:Value)(an:Option Addr)(qZ ct:Value)(osl:Array (Option Value)),
  fd=W.fnOf x qual (ss st) (yu st) (ze st) .none kV doc pm an qZ ct/\K.lookup f=some ⟨oc,od,.func fd,osl⟩/\W.codeIn K qZ qual=true
 kp:W.keepIn K (.ref f)=true
variable{mg:Str->Option Value}{base:Heap}
def M6{x a:Str}{st:Stmt}{f:Addr}{fd:FuncData}{N ps:List Str}{k:Nat}{sp:Sp}(F:Fun K x a st f fd)(S:zv N ps (ze st))(len:∀ vs H Q xs,sp vs H Q xs->vs.length=ps.length)(g:∀ (A:Around) (outer:List Env) (s:Shared) (H:Hp) (vs:List V) (Q:VK) (xs:XK),Room k (A.deeper (envOfC a (ze st) s.heap.objs.size f fd.code))->sp vs H Q xs ->
   ∃ t,PSs (cxOf CX0 P w K mg base N a (ze st) f fd.code A outer s H xs).nox (yu st) t/\t {nx:=λ_ H'=>Q .non H',rt:=Q} (start N vs) H):FnOk P w K mg base CX0 (k+1) f fd ps sp:=by
 obtain⟨y,v,kV,r,u,B,qZ,z,j,rfl,l,e⟩:=F.ex;refine z3h l e S len λA outer s H vs Q xs hr d=>?_;obtain⟨t,h,q⟩:=g A outer s H vs Q xs hr d;exact⟨t,h.nox,q⟩
def Fun.ok{x a:Str}{st:Stmt}{f:Addr}{fd:FuncData}{N ps:List Str}{k:Nat}{sp:Sp}(F:Fun K x a st f fd)(S:zv N ps (ze st))(len:∀ vs H Q xs,sp vs H Q xs->vs.length=ps.length)(d:∀ (qZ:Value) (A:Around) (outer:List Env) (s:Shared) (H:Hp) (vs:List V) (Q:VK) (xs:XK),Room k (A.deeper (envOfC a (ze st) s.heap.objs.size f qZ))->sp vs H Q xs ->
   ∃ t,PSs (cxOf CX0 P w K mg base N a (ze st) f qZ A outer s H xs).nox (yu st) t/\t {nx:=λ_ H'=>Q .non H',rt:=Q} (start N vs) H):FnOk P w K mg base CX0 (k+1) f fd ps sp:=M6 F S len (d fd.code)
def Fun.binds{x a:Str}{st:Stmt}{f:Addr}{fd:FuncData}{ps:List Str}(F:Fun K x a st f fd)(h:∀ (kV d e:Value) (j:Option Addr) (qZ g:Value) (us:List Value),us.length=ps.length->bindArgs (W.fnOf x a (ss st) (yu st) (ze st) .none kV d e j qZ g) ⟨us,[]⟩=pure (ps.zip us)):wq K fd ps []:=by
 obtain⟨r,q,kV,d,e,j,qZ,g,k,rfl,u,l⟩:=F.ex;exact .all (h kV d e j qZ g)
def M7{x a:Str}{st:Stmt}{f:Addr}{u:Value}{r q:Option Addr}{e:Array (Option Value)}{kV d g qZ j:Value}(l:K.lookup f=some ⟨u,r,.func (W.fnOf x a (ss st) (yu st) (ze st) .none kV d g q qZ j),e⟩)(c:W.codeIn K qZ a=true)(k:W.keepIn K (.ref f)=true):Fun K x a st f (W.fnOf x a (ss st) (yu st) (ze st) .none kV d g q qZ j):=⟨⟨u,r,kV,d,g,q,qZ,j,e,rfl,l,c⟩,k⟩
def iteF{A B:Prop}(h:B):if false=true then A else B:=by
 rw[zaJ zbE];exact h
def iteT{A B:Prop}(h:A):if true=true then A else B:=by
 rw[zaM rfl];exact h
def Same(H H':Hp):Prop:=∀b o,H b=some o->H' b=some o
def Same.refl(H:Hp):Same H H:=λ_ _ h=>h
def Same.trans(a:Same H H1)(b:Same H1 H2):Same H H2:=λc o h=>b c o (a c o h)
def Same.free(e:Same H H')(h:H' l=Option.none):H l=Option.none:=by
 cases q:H l with
 |none=>rfl
 |some o =>
  rw[e l o q]at h;cases h
theorem M8{α β:Type}{f:α->β->Sem (ForInStep β)}(R:List α->β->Prop)(h:∀ x l c,R (x::l) c->∃ c',f x c=pure (.yield c')/\R l c') :
  ∀(l:List α)(c:β),R l c->∃c',forIn l c f=pure c'/\R [] c'
 |[],c,r=>⟨c,rfl,r⟩
 |x::l,c,r=>by
  obtain⟨d,e,r1⟩:=h x l c r;obtain⟨a,e2,r2⟩:=M8 R h l d r1;exact⟨a,by rw[List.forIn_cons,e,pure_bind];exact e2,r2⟩
def R5{x:Str}{c:Addr}(h:env.cells.lookup x=some c):cellOf env x=pure c:=by
 unfold cellOf;rw[h]
def X9(h:∀ y∈scope.names,y.2=.free->∃ c,env.cells.lookup y.1=some c) :
  ∃cl,closureFor scope env=pure cl/\(∀x c,cl.lookup x=some c->env.cells.lookup x=some c)/\∀y∈scope.names,y.2=.free->∃c,cl.lookup y.1=some c:=by
 let f:Str×NameKind->List (Str×Addr)->Sem (ForInStep (List (Str×Addr))):=λx r=>match x with
  |(name,kind)=>if (kind==.free)=true then(do let a <- cellOf env name;pure (.yield ((name,a)::r))) else pure (.yield r)
 have q:=M8 (f:=f) (λj cs=>(∀x c,cs.lookup x=some c->env.cells.lookup x=some c)/\(∀y∈scope.names,y.2=.free->(∃c,cs.lookup y.1=some c)\/y∈j)/\∀y∈j,y∈scope.names) ?_ scope.names []
  ⟨λx c e=>(by cases e),λy d _=>.inr d,λ_ d=>d⟩
 ·obtain⟨cl,e,u,p2,_⟩:=q;refine⟨cl,?_,u,λy d g=>(p2 y d g).elim (λz=>z) λz=>(by cases z)⟩
  have e1:closureFor scope env=(forIn scope.names [] f >>= λr=>pure r):=rfl;rw[e1,e,pure_bind]
 rintro⟨n,k⟩ l cs ⟨u,p2,p3⟩;have D:=p3 _ (zao ..);by_cases hk:k=.free
 ·subst hk;obtain⟨c,B⟩:=h _ D rfl;refine⟨(n,c)::cs,?_,λx v e=>?_,λy d g=>?_,λy d=>p3 y (zal _ d)⟩
  ·show(if ((NameKind.free==NameKind.free)=true) then _ else _)=_
   rw[zaM aB,R5 B,pure_bind]
  ·rw[zbQ]at e;cases hx:x==n with
   |true =>
    rw[hx]at e;have ex:x=n:=zfT hx;subst ex;cases e;exact B
   |false =>
    rw[hx]at e;exact u x v e
  rcases p2 y d g with⟨v,e⟩|z
  ·refine .inl ?_;rw[zbQ];cases hx:y.1==n with
   |true=>exact⟨c,rfl⟩
   |false=>exact⟨v,e⟩
  rcases zam.mp z with rfl|z
  ·exact .inl ⟨c,by rw[zbQ];simp⟩
  exact .inr z
 refine⟨cs,?_,u,λy d g=>?_,λy d=>p3 y (zal _ d)⟩
 ·show(if ((k==NameKind.free)=true) then _ else _)=_
  rw[zaJ (by simpa using hk)]
 rcases p2 y d g with z|z
 ·exact .inl z
 rcases zam.mp z with rfl|z
 ·exact absurd g hk
 exact .inr z
theorem ux{env:Env}:∀{names:List (Str×NameKind)}{x:Str},names.lookup x=some .free ->
  (names.map λ(n,k)=>if (k==NameKind.free&&env.scope.kind==.function&&env.kindOf n==some .cell) then(n,NameKind.cell) else(n,k)).lookup x=some .cell \/
  (names.map λ(n,k)=>if (k==NameKind.free&&env.scope.kind==.function&&env.kindOf n==some .cell) then(n,NameKind.cell) else(n,k)).lookup x=some .free
 |[],_,h=>by cases h
 |(n,k)::r,x,h=>by
  have a:=@ux env r x;rw[zaG];cases hx:x==n with
  |true =>
   rw[zbQ,hx]at h;cases h;by_cases hc:(NameKind.free==NameKind.free&&env.scope.kind==.function&&env.kindOf n==some .cell)=true
   ·refine .inl ?_;show List.lookup x ((if (NameKind.free==NameKind.free&&env.scope.kind==.function&&env.kindOf n==some .cell)=true then(n,NameKind.cell) else(n,NameKind.free))::_)=_
    rw[zaM hc,zbQ,hx]
   refine .inr ?_;show List.lookup x ((if (NameKind.free==NameKind.free&&env.scope.kind==.function&&env.kindOf n==some .cell)=true then(n,NameKind.cell) else(n,NameKind.free))::_)=_
   rw[zaJ hc,zbQ,hx]
  |false =>
   rw[zbQ,hx]at h;have e:∀(b:Bool)(l:List (Str×NameKind)),List.lookup x ((if b=true then(n,NameKind.cell) else(n,k))::l)=l.lookup x:=λb l=>by
    cases b with
    |true=>rw[zaM rfl,zbQ,hx]
    |false=>rw[zaJ zbE,zbQ,hx]
   rcases a h with q|q
   ·exact .inl ((e _ _).trans q)
   exact .inr ((e _ _).trans q)
def d7(g:∀ y∈scope.names,y.2≠.cell){x:Str}(h:(relabel scope env).names.lookup x=some k)(q:k=.cell\/k=.free) :
  ∃y∈scope.names,y.1=x/\y.2=.free:=by
 have l:=zcK h;obtain⟨⟨n,a⟩,j,e⟩:=zah.mp l;refine⟨(n,a),j,?_⟩;have d:(if (a==NameKind.free&&env.scope.kind==.function&&env.kindOf n==some .cell)=true then(n,NameKind.cell) else(n,a))=(x,k):=e
 by_cases hc:(a==NameKind.free&&env.scope.kind==.function&&env.kindOf n==some .cell)=true
 ·rw[zaM hc]at d;cases d;refine⟨rfl,?_⟩;rw[zbI,zbI]at hc;exact zfT hc.1.1
 rw[zaJ hc]at d;cases d;rcases q with rfl|rfl
 ·exact absurd rfl (g _ j)
 exact⟨rfl,rfl⟩
abbrev yp(X:Cx)(N':List Str)(scope:Scope)(cl:List (Str×Addr))(C:Addr)(fp:List Addr)(s₀:Shared)(H_:Hp):Cx :=
 {X with N:=N',s₀:=s₀,H_:=H_,env:=compEnvC scope cl C X.env,outer:=X.stack,ex:=fp,fn:=λ_=>false,pn:=[],xe:=λ_ _=>False}
structure zx(psc scope:Scope)(T F:List Str):Prop where
 kind:scope.kind=.function
 nocell:∀y∈scope.names,y.2≠.cell
 loc:∀y∈scope.names,y.2=.local->scope.names.lookup y.1=some .local
 fr:∀y∈scope.names,y.2=.free->psc.names.lookup y.1=some .cell\/psc.names.lookup y.1=some .free
 nd:(T++F).Nodup
 ffree:∀x∈F,scope.names.lookup x=some .free
section
variable{scope:Scope}{T F:List Str}{cl:List (Str×Addr)}{fp:List Addr}{js:List Nat}
def Zm(I:Inv X pn Y H s)(S:zx X.env.scope scope T F):∀y∈scope.names,y.2=.free->∃c,X.env.cells.lookup y.1=some c:=λy a d=>I.ok.has y.1 (S.fr y a d)
def Eh(I:Inv X pn Y H s)(S:zx X.env.scope scope T F)(j:∀ x c,cl.lookup x=some c->X.env.cells.lookup x=some c)(p2:∀ y∈scope.names,y.2=.free->∃ c,cl.lookup y.1=some c)(r:s.heap.objs.size<=C)(g:∀ b∈fp,FpOk X pn H b)(l:∀ b∈fp,b<s.heap.objs.size) :
  (yp X (T++F) scope cl C fp s H).Ok where
 mod:=I.ok.mod
 kind:=S.kind
 glob:=I.ok.glob
 blt:=I.ok.blt
 above:=r
 inj:=λx y c a k=>I.ok.inj x y c (j x c a) (j y c k)
 has:=λx a=>by
  have q:∃y∈scope.names,y.1=x/\y.2=.free:=by
   rcases a with a|a
   ·exact d7 (env:=X.env) S.nocell (show(relabel scope X.env).names.lookup x=some .cell from a) (.inl rfl)
   exact d7 (env:=X.env) S.nocell (show(relabel scope X.env).names.lookup x=some .free from a) (.inr rfl)
  obtain⟨y,k,rfl,g⟩:=q;exact p2 y k g
 cab:=λx c h=>by cases h
 hd:=I.ok.hd
 frames:=I.ok.frames
 stk:=.inl rfl
 exf:=λb d=>⟨zaY (zaU (l b d) r),λx c e=>(g b d).2.2.2.2.1 x c (j x c e)⟩
 bs:=I.bs
 bsz:=zak I.ok.bsz I.sz
 noex:=λb o e d=>by
  rcases(g b d).2.2.2.1 with z|z
  ·exact I.ok.noex b o e z
  exact absurd (zaU (zae (I.ok.bs b o e).1) z) (zcS _)
 exfs:=λb d z=>by
  rcases zam.mp (I.stkSub b z) with q|q
  ·exact(g b d).2.1 q
  exact(g b d).2.2.1 q
 funs:=I.stack
 frf:=I.stkFree
def st0(T:List Str)(js:List Nat)(Y:St):St:=List.replicate T.length none++js.map λj=>(Y[j]?).join
theorem Ys{α β:Type}{R:α->β->Prop}:∀{l:List α}{r:List β}{i:Nat}{b:β},Paired R l r->r[i]?=some b->∃a,l[i]?=some a/\R a b
 |_,_,_,_,.nil,e=>by simp at e
 |_,_,0,_,.cons h _,e=>by simp at e;subst e;exact⟨_,rfl,h⟩
 |_,_,i+1,b,.cons _ t,e=>by
  obtain⟨a,g,d⟩:=Ys (i:=i) (b:=b) t (by simpa using e)
  exact⟨a,by simpa using g,d⟩
def Jb(I:Inv X pn Y H s)(S:zx X.env.scope scope T F)(L:∀ x c,cl.lookup x=some c->X.env.cells.lookup x=some c)(p2:∀ y∈scope.names,y.2=.free->∃ c,cl.lookup y.1=some c)(D:Paired (λx j=>X.N[j]?=some x) F js)(V:s.heap.objs.size<=C)(hf:∀ b∈fp,FpOk X pn H b)(Q:∀ b∈fp,b<s.heap.objs.size)(hn:h₁.Ns C m)(M:∀ b o,s.heap.get? b=some o->h₁.get? b=some o):Inv (yp X (T++F) scope cl C fp s H) [] (st0 T js Y) H {s with heap:=h₁,toks:=t'}:=by
 refine⟨Eh I S L p2 V hf Q,rfl,I.bare,Un.kept M,⟨m,hn,λi x v J h2 h3=>?_⟩,λx c e=>?_,I.hok.fresh V,λx c e=>I.freeC x c (L x c e),λp hp=>(by cases hp),I.hok.kept M,?_⟩
 ·have hi:T.length<=i:=by
   rcases zcX i T.length with z|z
   ·exfalso;unfold st0 at h2;rw[zbF (by simpa using z),zbO]at h2
    split at h2 <;> cases h2
   exact z
  unfold st0 at h2;rw[zbD (by simpa using hi),zai,zbH]at h2
  cases ej:js[i-T.length]? with
  |none=>rw[ej]at h2;cases h2
  |some j =>
   rw[ej]at h2;have d:(Y[j]?).join=some v:=zaT h2;obtain⟨x',B,hX⟩:=Ys D ej;have h1:(T++F)[i]?=some x:=J;rw[zbD hi,B]at h1;cases h1;have r:Y[j]?=some (some v):=by
    cases e:Y[j]? with
    |none=>rw[e]at d;cases d
    |some o=>rw[e]at d;cases d;rfl
   have O:x∈F:=zan B;have a:=S.ffree x O;have g:=S.fr _ (zcK a) rfl;obtain⟨m0,_,look⟩:=I.loc;obtain⟨u,W,ds⟩:=look j x v hX r (.inr g);refine⟨u,W,?_⟩;rcases ds with⟨k,_⟩|⟨_,c,hc,l⟩
   ·exfalso;have R:X.env.scope.names.lookup x=some .local:=k;rcases g with z|z
    ·rw[R]at z;cases z
    rw[R]at z;cases z
   obtain⟨c',G⟩:=p2 _ (zcK a) rfl;have e2:=L x c' G;rw[hc]at e2;cases e2;refine .inr ⟨?_,c,G,l.keeps M⟩;exact ux (env:=X.env) a
 ·obtain⟨v,q⟩:=I.cell x c (L x c e);exact⟨v,q.keeps M⟩
 show(st0 T js Y).length=(T++F).length;unfold st0;rw[zLa,zLa,zbH,zLm,(zfQ D)]
def Jc(I:Inv X pn Y H s)(h1:Inv (yp X N' scope cl C fp s H) [] σ' H' s')(a:∀ b∈fp,FpOk X pn H b):Inv X pn Y H' s' :=
 I.call' (ch:=fp) (show s'.os=s.os from h1.os) h1.base h1.hok h1.bare λb d=>⟨(a b d).2.2.2.1,(a b d).2.1,(a b d).2.2.2.2.1,(a b d).2.2.2.2.2⟩
end
section
variable{R:Result->Shared->Prop}
def Pq{pos:Pos}(I:Nat->Shared->Prop)(u:∀ n s,I n s->wpAny (model prog w) A (pyNext it) (λr d=>match r with
   |none=>R (.ok .next) d
   | some v=>wpAny (model prog w) A (letOwnedTupleGo target it v) (λ_ k=>wpAny (model prog w) A (assign target env v) (λ_ j =>
     wpAny (model prog w) A (forIn ifs true λc r=>if r=true then do let ok <- isTrue c env (eval c env);pure (ForInStep.yield ok) else pure (ForInStep.yield r)) (λok a =>
      if ok=true then wpAny (model prog w) A (eval elt env) (λx g=>wpAny (model prog w) A (call (.builtin "list.append") [acc,x]) (λ_ e=>∃ m,m<n/\I m e) (λ_ _=>False) g) (λ_ _=>False) a
      else ∃ m,m<n/\I m a) (λ_ _=>False) j) (λ_ _=>False) k) (λ_ _=>False) d) (λ_ _=>False) s)(n:Nat)(h:I n s):codeAny (model prog w) A (.compLoop (.ListComp elt [⟨target,iter,ifs,0⟩] scope pos) 0 it acc env) R s:=by
 refine codeAny_loop rfl I (λn s G=>?_) n h;show wpAny _ A ((compTurn (.ListComp elt [⟨target,iter,ifs,0⟩] scope pos) 0 it acc env).onRaise (λx=>do noteFrame x env;theTreesLotGoes x)) _ _ s
 refine wpAny_noted (wpAny_noRaise ?_);rw[compTurn_list];refine zaa (wpAny_standAt (zaa (thn (u n s G) λr d q=>?_)));cases r with
 |none=>exact zab q
 |some v =>
  refine zaa (thn q λ_ k D=>zaa (thn D λ_ j B=>zaa (thn B λok a l=>?_)));cases ok with
  |false=>exact zab ⟨rfl,l⟩
  |true=>exact zaa (zaa (thn l λx g z=>zaa (thn z λ_ e y=>zab (zab ⟨rfl,y⟩))))
end
def PIf(X:Cx)(ifs:List Expr)(t:TT):Prop :=
 ∀(pn:List (Addr×Obj))(s:Shared)(Y:St)(H:Hp)(Q:Bool->Hp->Prop),Inv X pn Y H s->t Y H Q ->
  wpAny (model X.prog X.w) X.A (forIn ifs true λc r=>if r=true then do let ok <- isTrue c X.env (eval c X.env);pure (ForInStep.yield ok) else pure (ForInStep.yield r)) (TP X pn Y Q) X.xe s
def tYes:TT:=λ_ H Q=>Q true H
def Th:PIf X [] tYes:=λ_ _ _ H _ I h=>wpAny_tests_nil ⟨H,I,h⟩
def E5{c:Expr}(h:PT X c tc):PIf X [c] tc:=λpn s Y H Q I q=>wpAny_tests_one (h pn s Y H Q I q)
def we(n:Nat)(Y σ':St):Prop:=σ'.length=Y.length/\∀i,n<=i->σ'[i]?=Y[i]?
def we.refl(n:Nat)(Y:St):we n Y Y:=⟨rfl,λ_ _=>rfl⟩
theorem we.trans{n:Nat}{a b c:St}(x:we n a b)(y:we n b c):we n a c:=⟨y.1.trans x.1,λi h=>(y.2 i h).trans (x.2 i h)⟩
theorem we.set{n i:Nat}{Y:St}{v:V}(h:i<n):we n Y (Y.set i (some v)):=⟨by simp,λj a=>by rw[zaC aD]⟩
def Zt(n:Nat)(g:TG):Prop:=∀v Y H Q,g v Y H Q->g v Y H λσ' H'=>Q σ' H'/\we n Y σ'
def Qy(n:Nat)(g:TGs):Prop:=∀vs Y H Q,g vs Y H Q->g vs Y H λσ' H'=>Q σ' H'/\we n Y σ'
def yi(h:i<n):Zt n (sn i):=λv Y H Q q=>⟨q,we.set h⟩
def dj:Qy n gNil:=λvs Y H Q q=>⟨q.1,q.2,we.refl n Y⟩
def xy(mono:∀ v Y H Q Q',(∀ σ' H',Q σ' H'->Q' σ' H')->t v Y H Q->t v Y H Q')(a:∀ v Y H Q Q',(∀ σ' H',Q σ' H'->Q' σ' H')->u v Y H Q->u v Y H Q')(J:Zt n t)(h2:Qy n u):Qy n (jg t u):=λvs Y H Q q=>by
 obtain⟨v,r,e,q⟩:=q;refine⟨v,r,e,mono _ _ _ _ _ (λσ' H' z=>?_) (J v Y H _ q)⟩;exact a _ _ _ _ _ (λd H2 y=>⟨y.1,z.2.trans y.2⟩) (h2 r σ' H' Q z.1)
def dh{K:W.Frag}{n k:Nat}{t:TGs}(h:Qy n t):Zt n (gTup K k t):=λv Y H Q q=>by
 obtain⟨a,E,e,d,hl,q⟩:=q;exact⟨a,E,e,d,hl,h E Y H Q q⟩
def yv:∀v Y H (Q Q':St->Hp->Prop),(∀σ' H',Q σ' H'->Q' σ' H')->sn i v Y H Q->sn i v Y H Q':=λ_ _ _ _ _ f q=>f _ _ q
def uj:∀v Y H (Q Q':St->Hp->Prop),(∀σ' H',Q σ' H'->Q' σ' H')->gNil v Y H Q->gNil v Y H Q':=λ_ _ _ _ _ f q=>⟨q.1,f _ _ q.2⟩
def qe(mono:∀ v Y H Q Q',(∀ σ' H',Q σ' H'->Q' σ' H')->t v Y H Q->t v Y H Q')(a:∀ v Y H Q Q',(∀ σ' H',Q σ' H'->Q' σ' H')->u v Y H Q->u v Y H Q') :
  ∀v Y H (Q Q':St->Hp->Prop),(∀σ' H',Q σ' H'->Q' σ' H')->jg t u v Y H Q->jg t u v Y H Q':=λvs Y H Q Q' f q=>by
 obtain⟨v,r,e,q⟩:=q;exact⟨v,r,e,mono _ _ _ _ _ (λσ' H' z=>a _ _ _ _ _ f z) q⟩
def Cs(h1:It)(g:TG)(tc:TT)(te:TE)(d:St)(D:Addr)(ds:Hp->Prop)(H:Hp):Prop :=
 ∃W:Nat->Nat->List V->Hp->Prop,(∃m,W 0 m [] H)/\∀i m ys H,W i m ys H->H D=some (.lst ys)/\((h1.stop i H/\ds H)\/(h1.go i H/\∃N:List V->Hp->Prop,(∀zs H',N zs H'->∃m',m'<m/\W (i+1) m' zs H')/\∀x H',h1.yld i H x H' ->
  g x d H' λa H2=>tc a H2 λb j=>if b=true then te a j λy e=>e D=some (.lst ys)/\ys.length<sizeLine/\N (ys++[y]) (upd e D (.lst (ys++[y]))) else N ys j))
def P5(a:TI)(T:List Str)(js:List Nat)(g:TG)(tc:TT)(te:TE):TE:=λY H Q=>a Y H λh1 H1=>∀D,H1 D=none->Cs h1 g tc te (st0 T js Y) D (Q (.ref D)) (upd H1 D (.lst []))
section
variable{H2:Hp}{s2:Shared}{scope:Scope}{T F:List Str}{cl:List (Str×Addr)}{fp:List Addr}{js:List Nat}{tg iter elt:Expr}{ifs:List Expr}{pos:Pos}{g:TG}{tc:TT}{te:TE}{h1:It}{it:Addr}{tn:Nat->Heap->Prop}{RR:Value->Addr->Result->Shared->Prop}
def X8(hc:X.calm=true)(S:zx X.env.scope scope T F)(d4:Paired (λx j=>X.N[j]?=some x) F js)(hg:∀ cl C fp s H,PG (yp X (T++F) scope cl C fp s H) tg g)(hk:Zt T.length g)(ht:∀ cl C fp s H,PIf (yp X (T++F) scope cl C fp s H) ifs tc)(he:∀ cl C fp s H,PE (yp X (T++F) scope cl C fp s H) elt te)(p1:∀ x c,cl.lookup x=some c->X.env.cells.lookup x=some c)(p2:∀ y∈scope.names,y.2=.free->∃ c,cl.lookup y.1=some c)(I2:Inv X pn Y H2 s2)(R:Turn X.prog X.w X.K tg h1 fp it tn)(c0:tn 0 s2.heap)(f2:∀ b∈fp,FpOk X pn H2 b)(ds:Addr->Hp->Prop)(c1:∀ D,H2 D=none->Cs h1 g tc te (st0 T js Y) D (ds D) (upd H2 D (.lst [])))(e0:∀ D C H' s' m',s'.heap.Ns C m'->FpOk X pn H' C->Inv X pn Y H' s'->ds D H'->RR (.ref D) C (.ok .next) s') :
  wpAny (model X.prog X.w) X.A (newList []) (λc3 a8=>wpAny (model X.prog X.w) X.A (newFunctionEnv scope X.env.globals cl [] X.env.qual none .none (some X.env)) (λQ a7 =>
   codeAny (model X.prog X.w) X.A (.compStart (.ListComp elt [⟨tg,iter,ifs,0⟩] scope pos) 0 (.ref it) c3 {Q with scope:=relabel scope X.env}) (RR c3 Q.locals) a7) xs a8) xs s2:=by
 refine zbT (wpAny_newFunctionEnv S.nocell (by intro y hy;cases hy) (λh₁ a4 a3=>?_) S.kind)
 dsimp only at a4 a3 ⊢
 have I3:Inv X pn Y (upd H2 s2.heap.objs.size (.lst [])) {s2 with heap:=s2.heap.push {cls:=.type "list",data:=.seq ([]:List Value).toArray}}:=I2.lnew (its:=[]) (t':=s2.toks) .nil (zbG _);have O:∀b∈fp,b<s2.heap.objs.size:=λb l=>by
  obtain⟨o,e,_⟩:=R.obj _ _ c0 b l;exact zae e
 have f3:∀b∈fp,FpOk X pn (upd H2 s2.heap.objs.size (.lst [])) b:=λb l=>⟨by rw[zj (zaY (O b l))];exact(f2 b l).1,(f2 b l).2⟩
 obtain⟨W,⟨m0,w0⟩,a6⟩:=c1 s2.heap.objs.size I2.fresh;generalize hs3:({s2 with heap:=s2.heap.push {cls:=.type "list",data:=.seq ([]:List Value).toArray}}:Shared)=k at I3;have e3:s2.heap.push {cls:=.type "list",dict:=none,data:=.seq ([]:List Value).toArray}=k.heap:=by rw[<- hs3]
 rw[e3]at a4 a3 ⊢;have a9:k.heap.objs.size=s2.heap.objs.size+1:=by rw[<- e3,zcT]
 have M:∀b o,k.heap.get? b=some o->h₁.get? b=some o:=λb o e=>a3.extBut b o (zaY (zae e)) (zac _ e);have B:∀b∈fp,b<k.heap.objs.size:=λb l=>by rw[a9];exact Nat.lt_succ_of_lt (O b l)
 have J0:Inv (yp X (T++F) scope cl k.heap.objs.size fp k (upd H2 s2.heap.objs.size (.lst []))) [] (st0 T js Y) (upd H2 s2.heap.objs.size (.lst [])) {k with heap:=h₁,toks:=s2.toks+([]:List (Str×Value)).length} :=
  Jb I3 S p1 p2 d4 (zaj _) f3 B a4 M
 have b1:tn 0 h₁:=R.keep _ _ _ c0 λb _ o e=>M b o (by rw[<- e3];exact zac _ e)
 have es:({s2 with heap:=h₁,toks:=s2.toks+([]:List (Str×Value)).length}:Shared)={k with heap:=h₁,toks:=s2.toks+([]:List (Str×Value)).length}:=by rw[<- hs3]
 have L:codeAny (model X.prog X.w) X.A (.compLoop (.ListComp elt [⟨tg,iter,ifs,0⟩] scope pos) 0 (.ref it) (.ref s2.heap.objs.size) (compEnvC scope cl k.heap.objs.size X.env)) (RR (.ref s2.heap.objs.size) k.heap.objs.size)
   {k with heap:=h₁,toks:=s2.toks+([]:List (Str×Value)).length}:=by
  have q:∀{H':Hp},(∀b∈fp,H' b=none)->∀b∈fp,FpOk (yp X (T++F) scope cl k.heap.objs.size fp k (upd H2 s2.heap.objs.size (.lst []))) [] H' b:=λhn b l =>
   ⟨hn b l,zaY (B b l),J0.ok.exfs b l,.inl l,(J0.ok.exf b l).2,λp hp=>(by cases hp)⟩
  refine Pq (λn s'=>∃i ys H',Inv (yp X (T++F) scope cl k.heap.objs.size fp k (upd H2 s2.heap.objs.size (.lst []))) [] (st0 T js Y) H' s'/\tn i s'.heap/\(∀b∈fp,H' b=none)/\W i n ys H') ?_ m0
   ⟨0,[],_,J0,b1,λb l=>(f3 b l).1,w0⟩
  rintro n s4 ⟨i,ys,H4,I4,b2,c2,w4⟩;obtain⟨hD,e7⟩:=a6 i n ys H4 w4;rcases e7 with⟨b0,z⟩|⟨go,N,hN,step⟩
  ·refine thn (R.done (yp X (T++F) scope cl k.heap.objs.size fp k (upd H2 s2.heap.objs.size (.lst []))) rfl rfl rfl hc i [] s4 _ H4 (λ_ _=>False) I4 (q c2) b2 b0) λr s5 ⟨hr,I5⟩=>?_;subst hr;obtain⟨m5,n5,_⟩:=I5.loc;have fC:FpOk X pn H4 k.heap.objs.size:=I2.fpOk (by rw[a9];exact zcJ _) I5.free
   exact e0 _ _ H4 s5 m5 n5 fC ((Jc I3 I5 f3)) z
  refine thn (R.item (yp X (T++F) scope cl k.heap.objs.size fp k (upd H2 s2.heap.objs.size (.lst []))) rfl rfl rfl hc i [] s4 _ H4 (λ_ _=>False) I4 (q c2) b2 go) λr s5 Zh=>?_;obtain⟨u,hr,h5⟩:=Zh;subst hr;refine thn h5 λ_ s6 Zh=>?_;obtain⟨x,H6,I6,r6,y6,a0,e5⟩:=Zh;have e9:=I6.pinned (q e5) (R.obj _ _ a0);refine thn (hg _ _ _ _ _ _ s6 _ H6 x u _ e9 r6 (hk x _ H6 _ (step x H6 y6))) λ_ s7 Zh=>?_;obtain⟨I,H7,I7,q7,kp⟩:=Zh;refine thn (ht _ _ _ _ _ _ s7 I H7 _ I7 q7) λok s8 Zh=>?_;obtain⟨H8,I8,q8⟩:=Zh;have G:∀{s9:Shared}{H9:Hp},Inv (yp X (T++F) scope cl k.heap.objs.size fp k (upd H2 s2.heap.objs.size (.lst []))) ([]++V6 fp s6.heap) I H9 s9->∀{zs:List V},(∃m',m'<n/\W (i+1) m' zs H9) ->
    ∃m,m<n/\∃i ys H',Inv (yp X (T++F) scope cl k.heap.objs.size fp k (upd H2 s2.heap.objs.size (.lst []))) [] (st0 T js Y) H' s9/\tn i s9.heap/\(∀b∈fp,H' b=none)/\W i m ys H':=λ{s9 H9} I9 {zs} q9=>by
   obtain⟨m',hm,w9⟩:=q9;have e8:=I9.unpinned;refine⟨m',hm,i+1,zs,H9,e8.weak kp.1.symm (λa v ea=>?_),R.keep _ _ _ a0 λb l o e=>(I9.pin (b,o) (zaE _ (zaE _ (k7 l e)))).1,λb l=>?_,w9⟩
   ·have ha:T.length<=a:=by
     rcases zcX a T.length with z|z
     ·exfalso;unfold st0 at ea;rw[zbF (by simpa using z),zbO]at ea
      split at ea <;> cases ea
     exact z
    rw[kp.2 a ha];exact ea
   obtain⟨o,e,d⟩:=R.obj _ _ a0 b l;exact(I9.pin (b,o) (zaE _ (zaE _ (k7 l e)))).2.1
  cases ok with
  |false =>
   rw[zaJ zbE]at q8 ⊢;exact G I8 (hN _ _ q8)
  |true =>
   rw[zaM rfl]at q8 ⊢;refine thn (he _ _ _ _ _ _ s8 I H8 _ I8 q8) λy s9 Zh=>?_;obtain⟨v9,H9,I9,r9,e4,d3,q9⟩:=Zh;refine thn (bp _ s9 I H9 (.ref s2.heap.objs.size) [v9] (.ref s2.heap.objs.size) [y] (λ_ d0=>d0=upd H9 s2.heap.objs.size (.lst (ys++[v9]))) I9 rfl (.cons r9 .nil) ⟨_,_,_,rfl,rfl,e4,d3,rfl⟩) λ_ f1 Zh=>?_;obtain⟨_,d0,f0,_,e6⟩:=Zh;subst e6;exact G f0 (hN _ _ q9)
 show codeAny _ _ _ _ ({s2 with heap:=h₁,toks:=s2.toks+([]:List (Str×Value)).length}:Shared);rw[es];exact codeAny_compStart_list L (R.self _ 0 _ _ _ b1 L)
def To(W:X.calm=true)(hi:PI X tg iter wi)(S:zx X.env.scope scope T F)(k:Paired (λx j=>X.N[j]?=some x) F js)(R:∀ cl C fp s H,PG (yp X (T++F) scope cl C fp s H) tg g)(O:Zt T.length g)(G:∀ cl C fp s H,PIf (yp X (T++F) scope cl C fp s H) ifs tc)(V:∀ cl C fp s H,PE (yp X (T++F) scope cl C fp s H) elt te)(L:∀ x,foldedSetIterable iter X.env x=pure x:=by intro _;rfl):PE X (.ListComp elt [⟨tg,iter,ifs,0⟩] scope pos) (P5 wi T js g tc te):=by
 intro pn s Y H Q I h;obtain⟨cl,l,y,p2⟩:=X9 (Zm I S);rw[eval_ListComp];refine wpAny_comprehension_free (use:=none) rfl L l S.kind S.loc (thn (hi pn s Y H _ I h) λv s1 J=>thn J λB s2 h2=>?_);obtain⟨it,fp,tn,h1,H2,e,I2,Tn,d,r,a⟩:=h2;subst e;refine X8 (RR:=λq C=>compPost (model X.prog X.w) X.A X.xe none (EP X pn Y Q) q C) W S k R O G V y p2 I2 Tn d r (λD H'=>Q (.ref D) H') a ?_;intro D C H' s' m' M fC I' z;obtain⟨f0,f1,r,f3,f4,f5⟩:=fC;exact⟨m',M,λh' u=>⟨.ref D,H',I'.turned (t':=s'.toks) (λb o ds e=>(u.2 b ds).trans e) f0 f1 f3 f4 f5,rfl,z⟩⟩
def k6(hc:X.calm=true)(hN:X.N.Nodup)(hy:X.N[i]?=some y)(hl:X.env.scope.names.lookup y=some .local\/X.env.scope.names.lookup y=some .cell)(hi:PI X tg iter wi)(S:zx X.env.scope scope T F)(B:Paired (λx j=>X.N[j]?=some x) F js)(hg:∀ cl C fp s H,PG (yp X (T++F) scope cl C fp s H) tg g)(hk:Zt T.length g)(ht:∀ cl C fp s H,PIf (yp X (T++F) scope cl C fp s H) ifs tc)(he:∀ cl C fp s H,PE (yp X (T++F) scope cl C fp s H) elt te)(u:swapsWith (.ListComp elt [⟨tg,iter,ifs,0⟩] scope pos) (some (.Name y py)) spos.line X.env=pure true:=by rfl)(hs:∀ x,foldedSetIterable iter X.env x=pure x:=by intro _;rfl)(G:X.fn y=true\/X.env.scope.names.lookup y=some .local:=by first|exact .inl rfl|exact .inr rfl|assumption) :
  PS X (.Assign [.Name y py] (.ListComp elt [⟨tg,iter,ifs,0⟩] scope pos) spos) (λD Y H=>P5 wi T js g tc te Y H λv H1=>D.nx (Y.set i (some v)) H1):=by
 intro pn s Y H D I h;obtain⟨cl,L,p1,p2⟩:=X9 (Zm I S);rw[exec_Assign_Name_used _ _ _ _ u];refine zaa (wpAny_standAt (zaa ?_));show wpAny _ X.A (do let _ <- comprehension (.ListComp elt [⟨tg,iter,ifs,0⟩] scope pos) scope X.env _ (newList []) false (eval iter X.env) (some (assign (.Name y py) X.env))) _ _ s
 refine zaa (thn (wpAny_comprehension_free (use:=some (assign (.Name y py) X.env)) (Q:=λ_ s'=>SP X pn D .next s') rfl hs L S.kind S.loc (thn (hi pn s Y H _ I h) λv s1 J=>thn J λa0 s2 h2=>?_)) λ_ s' hq=>zab (zab hq));obtain⟨it,fp,tn,h1,H2,e,I2,Tn,l,ds,d⟩:=h2;subst e;refine X8 (RR:=λR C=>compPost (model X.prog X.w) X.A X.xe (some (assign (.Name y py) X.env)) (λ_ s'=>SP X pn D .next s') R C) hc S B hg hk ht he p1 p2 I2 Tn l ds (λk H'=>D.nx (Y.set i (some (.ref k))) H') d ?_;intro k C H' s' m' hn fC I' z;obtain⟨f0,f1,ds,f3,W,f5⟩:=fC;show wpAny _ X.A (assign (.Name y py) X.env (.ref k)) _ _ s';refine wpAny_assign_Name (Wz (v:=.ref k) I' hN hy hl rfl (λr V ch=>?_) G);obtain⟨a,sb,M⟩:=ch;have O:C≠a:=by
  rcases M with rfl|M
  ·exact f1
  exact λz=>W y a M z.symm
 exact⟨m',hn.sameBut sb O,λh' q=>⟨_,H',V.turned (t':=r.toks) (λb o hb e=>(q.2 b hb).trans e) f0 f1 f3 W f5,z⟩⟩
end
def Itv(n:Nat)(val:Nat->V->Prop):It:=⟨λi _=>i<n,λi H x H'=>H'=H/\val i x,λi _=>i=n⟩
def C8(x:Str)(i:Nat)(v:V):Prop:=∃c,x.cps[i]?=some c/\v=.str ⟨#[c]⟩
def Lm{P:Program}{w:World}{K:W.Frag}{tg:Expr}{it:Addr}{x:Str}{t:Tok}{T:String}(W:∀ A:Around,A.handled=none->Walks P w A it [it] [it] x.cps.size (SignAt x) (λi h=>h.IsStrIter it T x t i))(V:∀ (A:Around) (i:Nat) (s:Shared) (Q:Value->Shared->Prop) (xs:Value->Shared->Prop),s.heap.IsStrIter it T x t i->Q (.ref it) s->wpAny (model P w) A (pyIter (.ref it)) Q xs s)(hT:["enumerate","zip","dict_itemiterator","dict_reverseitemiterator","odict_iterator","itertools.zip_longest","itertools.pairwise"].contains T=false) :
  Turn P w K tg (Itv x.cps.size (C8 x)) [it] it (λi h=>h.IsStrIter it T x t i) where
 mem:=by simp
 obj:=λi h st b a=>by
  have e:b=it:=by simpa using a
  subst e;obtain⟨o,e,c,d⟩:=st;exact⟨o,e,λv z=>by rw[d]at z;cases z⟩
 keep:=λi h h' st k=>let ⟨o,e,r⟩:=st;⟨o,k it aE o e,r⟩
 item:=by
  intro X B l D y i pn s Y H xs I j st q;subst B l D;obtain⟨N,M,ds,L,h1,G⟩:=j it aE
  refine(W X.A (I.ok.hd y)).item i s _ _ q st λv h' tk R g kk=>?_;obtain⟨c,u,O,rfl⟩:=R;have I1:Inv X pn Y H {s with heap:=h',toks:=tk}:=I.turned (λb o a e=>kk b o (by simpa using a) e) N M L h1 G
  obtain⟨o,e,c',d⟩:=id g;exact⟨_,rfl,Jh (s:={s with heap:=h',toks:=tk}) e c' d hT ⟨.str ⟨#[c]⟩,H,I1,⟨u,rfl⟩,⟨rfl,c,O,rfl⟩,g,λb a=>(j b a).1⟩⟩
 done:=by
  intro X B l D y i pn s Y H xs I j st q;subst B l D;obtain⟨N,M,ds,L,h1,G⟩:=j it aE
  have e:i=x.cps.size:=q;subst e;exact(W X.A (I.ok.hd y)).done s _ _ st λh' tk kk=>⟨rfl,I.turned (λb o a e=>kk b o (by simpa using a) e) N M L h1 G⟩
 self:=λA i s Q xs st h=>V A i s Q xs st h
theorem nd1(t:Str):([t]++[]).Nodup:=by simp
inductive Cst where
 |int (i:Int)|str (x:Str)|tup (cs:List Cst)
mutual
def CRep(K:W.Frag):Cst->V->Prop
 |.int i,v=>v=.int i
 |.str x,v=>v=.str x
 |.tup cs,v=>∃(a:Addr)(o:Obj)(its:Array Value)(n:Nat)(E:List V),v=.ref a/\K.lookup a=some o/\o.cls=.type "tuple"/\o.data=.seq its n/\its.size<=sizeLine/\Vals E its.toList/\Lg K cs E
def Lg(K:W.Frag):List Cst->List V->Prop
 |[],E=>E=[]
 |c::cs,E=>∃v r,E=v::r/\CRep K c v/\Lg K cs r
end
inductive D where
 |non|bl (b:Bool)|int (i:Int)|str (x:Str)|ty (n:String)
 |tup (Z:List D)|lst (Z:List D)|dk (ks:List Key) (Z:List D)
  |scr (ns:List Int)
   |fo (o:Obj)
  |fd (m:Int)
   |cn (c:Cst)
  |ob (C:Addr) (ns:List Str) (Z:List D)
def Scr(K:W.Frag)(H:Hp)(a:Addr)(ns:List Int):Prop :=
 (∃o,H a=some (.frz o (.lst (ns.map V.int)))) \/
  ∃(o:Obj)(its:Array Value)(n:Nat),K.lookup a=some o/\o.cls=.type "list"/\o.dict=none/\o.data=.seq its n/\its.size<=sizeLine/\Vals (ns.map V.int) its.toList
def Scr.seq{K:W.Frag}{H:Hp}{a:Addr}{ns:List Int}(h:Scr K H a ns):SqL K H a (ns.map V.int):=by
 rcases h with⟨o,h⟩|h
 ·exact .inl (.inr ⟨o,h⟩)
 exact .inr h
def dzV(a:List (List Int×Int)):List (List Key×V):=a.map λp=>(p.1.map Sum.inl,V.int p.2)
def Dz(H:Hp)(a:Addr)(d:List (List Int×Int)):Prop:=(∃o,H a=some (.frz o (.dT (dzV d))))/\(d.map Prod.fst).Nodup
def SqR(K:W.Frag)(H:Hp)(a:Addr)(E:List V):Prop:=SqT K H a E/\H a=some (.tup E)
def FoO(a:Addr)(o:Obj):HO:=.ext λh=>h.get? a=some o
def j7(a:Addr)(m:Int):HO:=.ext λh=>(0<=m/\∃(its:Array Value)(n:Nat),h.get? a=some {cls:=.type "list",dict:=none,data:=.seq its n,slots:=#[]}/\its.size<=1000/\(m<=0->1<=its.size)/\∀v∈its,∃(i:Int)(t:Tok),v=.int i t/\(0<m->0<=i/\i<m)) \/
 (m<0/\(a==sysModules)=false/\∃(o:Obj)(es:Array DictEntry)(ep:Nat),h.get? a=some o/\o.ExactDict/\o.data=.dict es ep/\(es.size:Int) =-m-1)
mutual
def RepN(K:W.Frag)(H:Hp)(P:Addr->Prop):D->V->Prop
 |.non,v=>v=.non
 |.bl b,v=>v=.bl b
 |.int i,v=>v=.int i
 |.str x,v=>v=.str x
 |.ty n,v=>v=.ty n
 |.cn c,v=>CRep K c v
 |.tup Z,v=>∃a E,v=.ref a/\SqR K H a E/\zr K H P Z E
 |.lst Z,v=>∃a E,v=.ref a/\H a=some (.lst E)/\P a/\zr K H P Z E
 |.scr ns,v=>∃a,v=.ref a/\Scr K H a ns
 |.fo C,v=>∃a,v=.ref a/\H a=some (FoO a C)/\P a
 |.fd m,v=>∃a,v=.ref a/\H a=some (j7 a m)/\P a
 |.dk ks Z,v=>∃a E,v=.ref a/\H a=some (.dK (ks.zip E))/\P a/\ks.length=Z.length/\ks.Nodup/\zr K H P Z E
 |.ob C ns Z,v=>∃a dx E,v=.ref a/\H a=some (.ins C dx (ns.zip E))/\P a/\ns.length=Z.length/\ns.Nodup/\zr K H P Z E
def zr(K:W.Frag)(H:Hp)(P:Addr->Prop):List D->List V->Prop
 |[],E=>E=[]
 |d::Z,E=>∃v r,E=v::r/\RepN K H P d v/\zr K H P Z r
end
abbrev Rep(K:W.Frag)(H:Hp)(O:List Addr):D->V->Prop:=RepN K H λa=>a∉O
abbrev Reps(K:W.Frag)(H:Hp)(O:List Addr):List D->List V->Prop:=zr K H λa=>a∉O
structure Grow(O O':List Addr)(H H':Hp):Prop where
 keep:∀b u,H b=some u->b∉O->H' b=some u/\b∉O'
 tups:∀b E,H b=some (.tup E)->H' b=some (.tup E)
 frzs:∀b o u,H b=some (.frz o u)->H' b=some (.frz o u)
def Grow.same(s:Same H H'):Grow O O H H':=⟨λb u h n=>⟨s b u h,n⟩,λb E h=>s b _ h,λb o u h=>s b _ h⟩
theorem Grow.refl:Grow O O H H:=Grow.same (Same.refl H)
def Grow.trans(a:Grow O O' H H')(b:Grow O' O'' H' H''):Grow O O'' H H'' :=
 ⟨λc u h n=>let ⟨h',n'⟩:=a.keep c u h n;b.keep c u h' n',λc E h=>b.tups c E (a.tups c E h),λc o u h=>b.frzs c o u (a.frzs c o u h)⟩
def Oa{K:W.Frag}{H H':Hp}{a:Addr}{E:List V}(kt:∀ b E,H b=some (.tup E)->H' b=some (.tup E))(kf:∀ b o u,H b=some (.frz o u)->H' b=some (.frz o u)):SqT K H a E->SqT K H' a E
 |.inl (.inl h)=>.inl (.inl (kt _ _ h))
 |.inl (.inr ⟨o,h⟩)=>.inl (.inr ⟨o,kf _ _ _ h⟩)
 |.inr h=>.inr h
def Ob{K:W.Frag}{H H':Hp}{a:Addr}{E:List V}(kt:∀ b E,H b=some (.tup E)->H' b=some (.tup E))(kf:∀ b o u,H b=some (.frz o u)->H' b=some (.frz o u))(h:SqR K H a E):SqR K H' a E:=⟨Oa kt kf h.1,kt _ _ h.2⟩
def Ri{K:W.Frag}{H H':Hp}{a:Addr}{ns:List Int}(kf:∀ b o u,H b=some (.frz o u)->H' b=some (.frz o u))(h:Scr K H a ns):Scr K H' a ns:=by
 rcases h with⟨o,h⟩|h
 ·exact .inl ⟨o,kf _ _ _ h⟩
 exact .inr h
def kO:HO->Nat
 |.lst _=>0
 |.dK _=>1
 |.dT _=>1
 |.ins _ _ _=>2
 |_=>3
mutual
def kdD(k:Nat->Prop):D->Prop
 |.tup Z=>kdDs k Z
 |.lst Z=>k 0/\kdDs k Z
 |.dk _ Z=>k 1/\kdDs k Z
 |.ob _ _ Z=>k 2/\kdDs k Z
 |.fo _=>k 3
 |.fd _=>k 3
 |.scr _=>True
 |.non=>True
 |.bl _=>True
 |.int _=>True
 |.str _=>True
 |.ty _=>True
 |.cn _=>True
def kdDs(k:Nat->Prop):List D->Prop
 |[]=>True
 |d::Z=>kdD k d/\kdDs k Z
end
abbrev yz:D->Prop:=kdD λ_=>False
abbrev yt:List D->Prop:=kdDs λ_=>False
theorem yq:∀{Z:List D},kdDs k Z ↔ ∀d∈Z,kdD k d
 |[]=>by simp[kdDs]
 |d::Z=>by
  rw[kdDs,yq];simp
section
variable{P P':Addr->Prop}{O O':List Addr}{k:Nat->Prop}
mutual
theorem RepN.mono(kt:∀ b E,H b=some (.tup E)->H' b=some (.tup E))(kf:∀ b o u,H b=some (.frz o u)->H' b=some (.frz o u))(g:∀ b u,H b=some u->k (kO u)->P b->H' b=some u/\P' b):∀(d:D)(v:V),kdD k d->RepN K H P d v->RepN K H' P' d v
 |.non,_,_,h=>h
 |.bl _,_,_,h=>h
 |.int _,_,_,h=>h
 |.str _,_,_,h=>h
 |.ty _,_,_,h=>h
 |.cn _,_,_,h=>h
 |.tup Z,v,p,⟨a,E,e,q,r⟩=>⟨a,E,e,Ob kt kf q,zr.mono kt kf g Z E p r⟩
 |.lst Z,v,p,⟨a,E,e,q,n,r⟩=>⟨a,E,e,(g a _ q p.1 n).1,(g a _ q p.1 n).2,zr.mono kt kf g Z E p.2 r⟩
 |.scr ns,v,_,⟨a,e,q⟩=>⟨a,e,Ri kf q⟩
 |.fo C,v,p,⟨a,e,q,n⟩=>⟨a,e,(g a _ q p n).1,(g a _ q p n).2⟩
 |.fd m,v,p,⟨a,e,q,n⟩=>⟨a,e,(g a _ q p n).1,(g a _ q p n).2⟩
 |.dk ks Z,v,p,⟨a,E,e,q,n,l,nd,r⟩=>⟨a,E,e,(g a _ q p.1 n).1,(g a _ q p.1 n).2,l,nd,zr.mono kt kf g Z E p.2 r⟩
 |.ob C ns Z,v,p,⟨a,dx,E,e,q,n,l,nd,r⟩=>⟨a,dx,E,e,(g a _ q p.1 n).1,(g a _ q p.1 n).2,l,nd,zr.mono kt kf g Z E p.2 r⟩
theorem zr.mono(kt:∀ b E,H b=some (.tup E)->H' b=some (.tup E))(kf:∀ b o u,H b=some (.frz o u)->H' b=some (.frz o u))(g:∀ b u,H b=some u->k (kO u)->P b->H' b=some u/\P' b):∀(Z:List D)(E:List V),kdDs k Z->zr K H P Z E->zr K H' P' Z E
 |[],_,_,h=>h
 |d::Z,E,p,⟨v,r,e,q,t⟩=>⟨v,r,e,RepN.mono kt kf g d v p.1 q,zr.mono kt kf g Z r p.2 t⟩
end
mutual
theorem G9(h:∀ n,k n):∀d:D,kdD k d
 |.tup Z=>gs h Z
 |.lst Z=>⟨h _,gs h Z⟩
 |.dk _ Z=>⟨h _,gs h Z⟩
 |.ob _ _ Z=>⟨h _,gs h Z⟩
 |.fo _=>h _
 |.fd _=>h _
 |.scr _=>trivial
 |.non=>trivial
 |.bl _=>trivial
 |.int _=>trivial
 |.str _=>trivial
 |.ty _=>trivial
 |.cn _=>trivial
theorem gs(h:∀ n,k n):∀Z:List D,kdDs k Z
 |[]=>trivial
 |d::Z=>⟨G9 h d,gs h Z⟩
end
section
variable(kt:∀ b E,H b=some (.tup E)->H' b=some (.tup E))(kf:∀ b o u,H b=some (.frz o u)->H' b=some (.frz o u))(g:∀ b u,P b->H b=some u->H' b=some u/\P' b)
include kt kf g
def RepN.go(d:D)(v:V)(h:RepN K H P d v):RepN K H' P' d v:=RepN.mono (k:=λ_=>True) kt kf (λb u h _ n=>g b u n h) d v (G9 (λ_=>trivial) d) h
def zr.go(Z:List D)(E:List V)(h:zr K H P Z E):zr K H' P' Z E:=zr.mono (k:=λ_=>True) kt kf (λb u h _ n=>g b u n h) Z E (gs (λ_=>trivial) Z) h
end
def RepN.grow(g:Grow O O' H H')(d:D)(v:V)(h:Rep K H O d v):Rep K H' O' d v:=RepN.go g.tups g.frzs (λb u n h=>g.keep b u h n) d v h
def zr.grow(g:Grow O O' H H')(Z:List D)(E:List V)(h:Reps K H O Z E):Reps K H' O' Z E:=zr.go g.tups g.frzs (λb u n h=>g.keep b u h n) Z E h
def RepN.to(s:Same H H')(g:∀ a,P a->P' a)(d:D)(v:V)(h:RepN K H P d v):RepN K H' P' d v:=RepN.go (λb E h=>s b _ h) (λb o u h=>s b _ h) (λb u n h=>⟨s b u h,g b n⟩) d v h
def zr.to(s:Same H H')(g:∀ a,P a->P' a)(Z:List D)(E:List V)(h:zr K H P Z E):zr K H' P' Z E:=zr.go (λb E h=>s b _ h) (λb o u h=>s b _ h) (λb u n h=>⟨s b u h,g b n⟩) Z E h
def RepN.rep(g:∀ a,P a->a∉O)(d:D)(v:V)(h:RepN K H P d v):Rep K H O d v:=RepN.to (Same.refl H) g d v h
def zr.reps(g:∀ a,P a->a∉O)(Z:List D)(E:List V)(h:zr K H P Z E):Reps K H O Z E:=zr.to (Same.refl H) g Z E h
def RepN.sub(g:∀ a∈O',a∈O)(d:D)(v:V)(h:Rep K H O d v):Rep K H O' d v:=RepN.to (Same.refl H) (λa n z=>n (g a z)) d v h
def zr.sub(g:∀ a∈O',a∈O)(Z:List D)(E:List V)(h:Reps K H O Z E):Reps K H O' Z E:=zr.to (Same.refl H) (λa n z=>n (g a z)) Z E h
def RepN.toN(d:D)(v:V)(p:yz d)(h:RepN K H P d v):RepN K H P' d v:=RepN.mono (λ_ _ h=>h) (λ_ _ _ h=>h) (λ_ _ _ z=>z.elim) d v p h
def zr.toN(Z:List D)(E:List V)(p:yt Z)(h:zr K H P Z E):zr K H P' Z E:=zr.mono (λ_ _ h=>h) (λ_ _ _ h=>h) (λ_ _ _ z=>z.elim) Z E p h
def RepN.pure(d:D)(v:V)(p:yz d)(h:Rep K H O d v):Rep K H O' d v:=RepN.toN d v p h
def zr.pure(Z:List D)(E:List V)(p:yt Z)(h:Reps K H O Z E):Reps K H O' Z E:=zr.toN Z E p h
end
variable{P:Addr->Prop}
theorem zr.length:∀{Z:List D}{E:List V},zr K H P Z E->E.length=Z.length
 |[],_,h=>by cases h;rfl
 |d::Z,E,h=>by
  obtain⟨v,r,e,_,t⟩:=h;subst e;simp[zr.length t]
theorem zr.get:∀{Z:List D}{E:List V}{i:Nat}{d:D},zr K H P Z E->Z[i]?=some d->∃v,E[i]?=some v/\RepN K H P d v
 |[],_,_,_,_,e=>by simp at e
 |d::Z,E,0,d',h,e=>by
  obtain⟨v,r,rfl,q,_⟩:=h;simp at e;subst e;exact⟨v,rfl,q⟩
 |d::Z,E,i+1,d',h,e=>by
  obtain⟨v,r,rfl,_,t⟩:=h;obtain⟨a,j,g⟩:=zr.get (i:=i) t (by simpa using e)
  exact⟨a,by simpa using j,g⟩
def zr.at:∀{Z:List D}{E:List V}{i:Nat}{v:V},zr K H P Z E->E[i]?=some v->∃d,Z[i]?=some d/\RepN K H P d v:=λ{Z E i v} h e=>by
 have hl:=h.length;have hi:=(zag.mp e).1;have hd:Z[i]?=some (Z[i]' aD):=by simp[show i<Z.length by omega]
 obtain⟨g,a,q⟩:=h.get hd;rw[e]at a;cases a;exact⟨_,hd,q⟩
theorem zr.append:∀{Z es:List D}{E ys:List V},zr K H P Z E->zr K H P es ys->zr K H P (Z++es) (E++ys)
 |[],es,E,ys,h,h'=>by cases h;exact h'
 |d::Z,es,E,ys,h,h'=>by
  obtain⟨v,r,rfl,q,t⟩:=h;exact⟨v,r++ys,rfl,q,zr.append t h'⟩
def zr.one{d:D}{v:V}(h:RepN K H P d v):zr K H P [d] [v]:=⟨v,[],rfl,h,rfl⟩
theorem zr.take:∀{Z:List D}{E:List V}(n:Nat),zr K H P Z E->zr K H P (Z.take n) (E.take n)
 |_,_,0,_=>rfl
 |[],_,n+1,h=>by cases h;rfl
 |d::Z,E,n+1,h=>by
  obtain⟨v,r,rfl,q,t⟩:=h;exact⟨v,r.take n,rfl,q,zr.take n t⟩
theorem zr.drop:∀{Z:List D}{E:List V}(n:Nat),zr K H P Z E->zr K H P (Z.drop n) (E.drop n)
 |_,_,0,h=>h
 |[],_,n+1,h=>by cases h;rfl
 |d::Z,E,n+1,h=>by
  obtain⟨v,r,rfl,q,t⟩:=h;exact zr.drop n t
theorem zr.ints:∀(ns:List Int),zr K H P (ns.map D.int) (ns.map V.int)
 |[]=>rfl
 |n::ns=>⟨_,_,rfl,rfl,zr.ints ns⟩
theorem zr.rep{Z:List D}{E:List V}(h:zr K H P Z E):∀k:Nat,zr K H P (List.replicate k Z).flatten (List.replicate k E).flatten
 |0=>rfl
 |k+1=>by
  rw[zcL,zcL,zdG,zdG];exact h.append (zr.rep h k)
def View(K:W.Frag)(H:Hp)(O:List Addr)(d:D)(v:V):Prop:=match d with
 |.lst Z=>∃a E,v=.ref a/\H a=some (.lst E)/\Reps K H O Z E
 |.dk ks Z=>∃a E,v=.ref a/\H a=some (.dK (ks.zip E))/\ks.length=Z.length/\ks.Nodup/\Reps K H O Z E
 |.fd m=>∃a,v=.ref a/\H a=some (j7 a m)
 |d=>Rep K H O d v
def Con1(K:W.Frag)(H:Hp)(O:List Addr)(d:D)(a:Addr):Prop:=match d with
 |.lst Z=>∃E,H a=some (.lst E)/\Reps K H O Z E
 |.dk ks Z=>∃E,H a=some (.dK (ks.zip E))/\ks.length=Z.length/\ks.Nodup/\Reps K H O Z E
 |.fd m=>H a=some (j7 a m)
 |_=>False
def RepN.view{K:W.Frag}{H:Hp}{O:List Addr}{d:D}{v:V}(h:Rep K H O d v):View K H O d v:=by
 cases d with
 |lst Z=>obtain⟨a,E,e,q,_,r⟩:=h;exact⟨a,E,e,q,r⟩
 |dk ks Z=>obtain⟨a,E,e,q,_,r⟩:=h;exact⟨a,E,e,q,r⟩
 |fd m=>obtain⟨a,e,q,_⟩:=h;exact⟨a,e,q⟩
 |_=>exact h
def Con1.view{K:W.Frag}{H:Hp}{O:List Addr}{d:D}{a:Addr}(h:Con1 K H O d a):View K H O d (.ref a):=by
 cases d with
 |lst Z=>obtain⟨E,q,r⟩:=h;exact⟨a,E,rfl,q,r⟩
 |dk ks Z=>obtain⟨E,q,r⟩:=h;exact⟨a,E,rfl,q,r⟩
 |fd m=>exact⟨a,rfl,h⟩
 |_=>exact h.elim
def Con1.rep{K:W.Frag}{H:Hp}{O:List Addr}{d:D}{a:Addr}(h:Con1 K H O d a)(n:a∉O):Rep K H O d (.ref a):=by
 cases d with
 |lst Z=>obtain⟨E,q,r⟩:=h;exact⟨a,E,rfl,q,n,r⟩
 |dk ks Z=>obtain⟨E,q,r⟩:=h;exact⟨a,E,rfl,q,n,r⟩
 |fd m=>exact⟨a,rfl,h,n⟩
 |_=>exact h.elim
def Con1.same{K:W.Frag}{H H':Hp}{O:List Addr}{d:D}{a:Addr}(h:Con1 K H O d a)(s:Same H H'):Con1 K H' O d a:=by
 cases d with
 |lst Z=>obtain⟨E,q,r⟩:=h;exact⟨E,s _ _ q,zr.grow (Grow.same s) _ _ r⟩
 |dk ks Z=>obtain⟨E,q,l,n,r⟩:=h;exact⟨E,s _ _ q,l,n,zr.grow (Grow.same s) _ _ r⟩
 |fd m=>exact s _ _ h
 |_=>exact h.elim
def Con1.sub{K:W.Frag}{H:Hp}{O O':List Addr}{d:D}{a:Addr}(h:Con1 K H O d a)(g:∀ a∈O',a∈O):Con1 K H O' d a:=by
 cases d with
 |lst Z=>obtain⟨E,q,r⟩:=h;exact⟨E,q,zr.sub g _ _ r⟩
 |dk ks Z=>obtain⟨E,q,l,n,r⟩:=h;exact⟨E,q,l,n,zr.sub g _ _ r⟩
 |fd m=>exact h
 |_=>exact h.elim
theorem View.sub{K:W.Frag}{H:Hp}{O O':List Addr}{d:D}{v:V}(h:View K H O d v)(g:∀ a∈O',a∈O):View K H O' d v:=by
 cases d with
 |lst Z=>obtain⟨a,E,e,q,r⟩:=h;exact⟨a,E,e,q,zr.sub g _ _ r⟩
 |dk ks Z=>obtain⟨a,E,e,q,l,n,r⟩:=h;exact⟨a,E,e,q,l,n,zr.sub g _ _ r⟩
 |fd m=>exact h
 |_=>exact RepN.sub g _ _ h
def View.rep0{K:W.Frag}{H:Hp}{O:List Addr}{d:D}{v:V}(h:View K H O d v):Rep K H [] d v:=by
 have h:=h.sub (O':=[]) (λ_ z=>nomatch z);cases d with
 |lst Z=>obtain⟨a,E,e,q,r⟩:=h;exact⟨a,E,e,q,by simp,r⟩
 |dk ks Z=>obtain⟨a,E,e,q,l,n,r⟩:=h;exact⟨a,E,e,q,by simp,l,n,r⟩
 |fd m=>obtain⟨a,e,q⟩:=h;exact⟨a,e,q,by simp⟩
 |_=>exact h
inductive Kd where|val|own|fre|new
 deriving DecidableEq
structure EV where
 k:Kd
 d:D
abbrev DE:=List (Option EV)
abbrev dv(d:D):EV:=⟨.val,d⟩
abbrev df(d:D):EV:=⟨.fre,d⟩
abbrev dO(d:D):EV:=⟨.own,d⟩
abbrev q_(d:D):Option EV:=some (dv d)
abbrev Q_(d:D):Option EV:=some (dO d)
def RV(K:W.Frag)(H0 H:Hp)(O:List Addr)(r:EV)(v:V):Prop:=match r.k with
 |.val=>Rep K H O r.d v
 |.own=>∃a,v=.ref a/\a∈O/\Con1 K H O r.d a
 |.fre=>∃a,v=.ref a/\H0 a=none/\a∉O/\Con1 K H (a::O) r.d a
 |.new=>RepN K H (λa=>a∉O/\H0 a=none) r.d v
variable{H0 H1:Hp}{O:List Addr}{r:EV}
def RV.val(h:Rep K H O d v):RV K H0 H O (dv d) v:=h
theorem RV.same(h:RV K H0 H O r v)(s:Same H H'):RV K H0 H' O r v:=by
 obtain⟨k,d⟩:=r;cases k with
 |val=>exact RepN.grow (Grow.same s) _ _ h
 |own=>obtain⟨a,e,m,c⟩:=h;exact⟨a,e,m,c.same s⟩
 |fre=>obtain⟨a,e,m,n,c⟩:=h;exact⟨a,e,m,n,c.same s⟩
 |new=>exact RepN.to s aA _ _ h
def RV.start(h:RV K H0 H O r v)(s:Same H1 H0):RV K H1 H O r v:=by
 obtain⟨k,d⟩:=r;cases k with
 |val=>exact h
 |own=>exact h
 |fre=>obtain⟨a,e,m,n,c⟩:=h;exact⟨a,e,s.free m,n,c⟩
 |new=>exact RepN.to (Same.refl H) (λa z=>⟨z.1,s.free z.2⟩) _ _ h
theorem RV.view(h:RV K H0 H O r v):View K H O r.d v:=by
 obtain⟨k,d⟩:=r;cases k with
 |val=>exact RepN.view h
 |own=>obtain⟨a,e,m,c⟩:=h;subst e;exact c.view
 |fre=>obtain⟨a,e,m,n,c⟩:=h;subst e;exact(c.sub λb g=>zal _ g).view
 |new=>exact(RepN.rep (λa z=>z.1) _ _ h).view
def RV.solid(h:RV K H0 H O r v)(g:r.k≠.own):Rep K H O r.d v:=by
 obtain⟨k,d⟩:=r;cases k with
 |val=>exact h
 |own=>exact absurd rfl g
 |fre=>obtain⟨a,e,m,n,c⟩:=h;subst e;exact(c.sub λb j=>zal _ j).rep n
 |new=>exact RepN.rep (λa z=>z.1) _ _ h
structure REnv(K:W.Frag)(H_ H:Hp)(Y:St)(U:DE)(o:List (Nat×Addr)):Prop where
 same:Same H_ H
 fresh:∀p∈o,H_ p.2=none
 trk:∀p∈o,∃u,H p.2=some u
 mtb:∀p∈o,(∀E,H p.2≠some (.tup E))/\∀ob u,H p.2≠some (.frz ob u)
 nda:(o.map Prod.snd).Nodup
 slots:∀i r,U[i]?=some (some r)->∃v,Y[i]?=some (some v)/\((r.k=.val/\Rep K H (o.map Prod.snd) r.d v)\/(r.k=.own/\∃a,v=.ref a/\(i,a)∈o/\Con1 K H (o.map Prod.snd) r.d a))
 len:Y.length=U.length
variable{H_:Hp}{U:DE}{o:List (Nat×Addr)}
def REnv.to(R:REnv K H_ H Y U o)(s:Same H H'):REnv K H_ H' Y U o where
 same:=R.same.trans s
 fresh:=R.fresh
 trk:=λp d=>let ⟨u,e⟩:=R.trk p d;⟨u,s _ _ e⟩
 mtb:=λp d=>by
  obtain⟨u,e⟩:=R.trk p d;obtain⟨m1,m2⟩:=R.mtb p d;refine⟨λE z=>?_,λob w z=>?_⟩
  ·rw[s _ _ e]at z;rw[<- e]at z;exact m1 E z
  rw[s _ _ e]at z;rw[<- e]at z;exact m2 ob w z
 nda:=R.nda
 slots:=λi r e=>by
  obtain⟨v,g,h⟩:=R.slots i r e;refine⟨v,g,?_⟩;rcases h with⟨k,h⟩|⟨k,a,e1,m,c⟩
  ·exact .inl ⟨k,RepN.grow (Grow.same s) _ _ h⟩
  exact .inr ⟨k,a,e1,m,c.same s⟩
 len:=R.len
def REnv.ofree(R:REnv K H_ H Y U o)(h:H a=none):a∉o.map Prod.snd:=λz=>by
 obtain⟨p,d,e⟩:=zah.mp z;obtain⟨u,q⟩:=R.trk p d;rw[e,h]at q;cases q
abbrev TD:=DE->(EV->Prop)->Prop
abbrev TDb:=DE->(Bool->Prop)->Prop
abbrev TDs:=DE->(List EV->Prop)->Prop
structure DZ where
 nx:DE->Prop
 rt:EV->Prop
 bk:DE->Prop:=λ_=>False
 ct:DE->Prop:=λ_=>False
abbrev TDS:=DE->DZ->Prop
def RVs(K:W.Frag)(H0 H:Hp)(O:List Addr):List EV->List V->Prop
 |[],vs=>vs=[]
 |r::rs,vs=>∃v ws,vs=v::ws/\RV K H0 H O r v/\RVs K H0 H O rs ws
theorem RVs.start{K:W.Frag}{H0 H1 H:Hp}{O:List Addr}(s:Same H1 H0):∀{rs:List EV}{vs:List V},RVs K H0 H O rs vs->RVs K H1 H O rs vs
 |[],_,h=>h
 |r::rs,vs,h=>by
  obtain⟨v,ws,e,q,t⟩:=h;exact⟨v,ws,e,q.start s,t.start s⟩
theorem RVs.reps{K:W.Frag}{H0 H:Hp}{O:List Addr}:∀{rs:List EV}{vs:List V},RVs K H0 H O rs vs->(∀r∈rs,r.k≠.own)->Reps K H O (rs.map EV.d) vs
 |[],_,h,_=>h
 |r::rs,vs,h,n=>by
  obtain⟨v,ws,e,q,t⟩:=h;exact⟨v,ws,e,q.solid (n r (zao ..)),t.reps λa h'=>n a (zal _ h')⟩
theorem RVs.reps0{K:W.Frag}{H0 H:Hp}{O:List Addr}:∀{rs:List EV}{vs:List V},RVs K H0 H O rs vs->Reps K H [] (rs.map EV.d) vs
 |[],_,h=>h
 |r::rs,vs,h=>by
  obtain⟨v,ws,e,q,t⟩:=h;exact⟨v,ws,e,q.view.rep0,t.reps0⟩
def qd(K:W.Frag)(H_:Hp)(t:TD):TE:=λY H Q=>∃U o,REnv K H_ H Y U o/\∃φ,t U φ/\∀v r H',Same H H'->RV K H H' (o.map Prod.snd) r v->φ r->Q v H'
def bw(K:W.Frag)(H_:Hp)(t:TDb):TT:=λY H Q=>∃U o,REnv K H_ H Y U o/\∃φ,t U φ/\∀b H',Same H H'->φ b->Q b H'
def Ew(K:W.Frag)(H_:Hp)(t:TDs):TA:=λY H Q=>∃U o,REnv K H_ H Y U o/\∃φ,t U φ/\∀vs rs H',Same H H'->RVs K H H' (o.map Prod.snd) rs vs->φ rs->Q vs H'
def Nj(K:W.Frag)(H_:Hp)(t:TDS):TS:=λD Y H=>∃U o,REnv K H_ H Y U o/\∃ds,t U ds /\
 (∀ρ' σ' H' o',Grow (o.map Prod.snd) (o'.map Prod.snd) H H'->REnv K H_ H' σ' ρ' o'->ds.nx ρ'->D.nx σ' H') /\
 (∀ρ' σ' H' o',Grow (o.map Prod.snd) (o'.map Prod.snd) H H'->REnv K H_ H' σ' ρ' o'->ds.bk ρ'->D.bk σ' H') /\
 (∀ρ' σ' H' o',Grow (o.map Prod.snd) (o'.map Prod.snd) H H'->REnv K H_ H' σ' ρ' o'->ds.ct ρ'->D.ct σ' H') /\
 (∀v r H',Same H_ H'->RV K H_ H' [] r v->ds.rt r->D.rt v H')
def ED(G:Hp->Prop)(X:Cx)(e:Expr)(t:TD):Prop:=∀H_:{H:Hp // G H},PE X e (qd X.K H_.1 t)
def ET(G:Hp->Prop)(X:Cx)(e:Expr)(t:TDb):Prop:=∀H_:{H:Hp // G H},PT X e (bw X.K H_.1 t)
def EW(G:Hp->Prop)(X:Cx)(e:Expr)(t:TDb):Prop:=∀H_:{H:Hp // G H},PW X e (bw X.K H_.1 t)
def EA(G:Hp->Prop)(X:Cx)(es:List Expr)(t:TDs):Prop:=∀H_:{H:Hp // G H},PA X es (Ew X.K H_.1 t)
def SD(G:Hp->Prop)(X:Cx)(st:Stmt)(t:TDS):Prop:=∀H_:{H:Hp // G H},PS X st (Nj X.K H_.1 t)
def SDs(G:Hp->Prop)(X:Cx)(st:List Stmt)(t:TDS):Prop:=∀H_:{H:Hp // G H},PSs X st (Nj X.K H_.1 t)
def impE(h:PE X e t)(i:∀ Y H Q,t' Y H Q->t Y H Q):PE X e t':=λpn s Y H Q I q=>h pn s Y H Q I (i Y H Q q)
def impT(h:PT X e t)(i:∀ Y H Q,t' Y H Q->t Y H Q):PT X e t':=λpn s Y H Q I q=>h pn s Y H Q I (i Y H Q q)
def impW(h:PW X e t)(i:∀ Y H Q,t' Y H Q->t Y H Q):PW X e t':=λa pn s Y H Q I q=>h a pn s Y H Q I (i Y H Q q)
def impA(h:PA X es t)(i:∀ Y H Q,t' Y H Q->t Y H Q):PA X es t':=λpos pn s Y H Q I q=>h pos pn s Y H Q I (i Y H Q q)
def impS{X:Cx}{st:Stmt}{t t':TS}(h:PS X st t)(i:∀ D Y H,t' D Y H->t D Y H):PS X st t':=λpn s Y H D I q=>h pn s Y H D I (i D Y H q)
def gx{X:Cx}{st:List Stmt}{t t':TS}(h:PSs X st t)(i:∀ D Y H,t' D Y H->t D Y H):PSs X st t':=λpn s Y H D I q=>h pn s Y H D I (i D Y H q)
variable{M:Hp->Prop}
def slot:DE->Nat->Option EV
 |[],_=>none
 |x::_,0=>x
 |_::r,i+1=>slot r i
theorem si:∀{U:DE}{i:Nat}{r:EV},slot U i=some r->U[i]?=some (some r)
 |[],_,_,h=>by cases h
 |x::_,0,_,h=>by cases h;rfl
 |_::l,i+1,r,h=>by rw[zdW];exact si (U:=l) h
def v7(i:Nat):TD:=λU φ=>match slot U i with
 |some r=>φ r
 |none=>False
def dC(d:D):TD:=λ_ φ=>φ (dv d)
section
variable{a b c e:Expr}{ta tb:TD}{pos:Pos}
def za(i:Nat){x:Str}(q:X.N[i]?=some x:=by rfl)(l:Vis X.env.scope x:=by walk_at "o")(hd:D_ x:=by decide)(j:(x==("__classdict__" : Str))=false:=by decide):ED M X (.Name x pos) (v7 i):=λH_=>impE (vi q l hd j) λY H Q h=>by
 obtain⟨U,o,R,φ,g,k⟩:=h;cases e:slot U i with
 |none =>
  simp only[v7,e]at g
 |some r =>
  simp only[v7,e]at g;obtain⟨v,u,h⟩:=R.slots i r (si e);refine⟨v,u,k v r H (Same.refl H) ?_ g⟩;obtain⟨kd,d⟩:=r;rcases h with⟨rfl,h⟩|⟨rfl,a,e1,m,c⟩
  ·exact h
  exact⟨a,e1,zah.mpr ⟨_,m,rfl⟩,c⟩
def ed_c{x:Expr}(h:PE X x (tC v))(hr:∀ H O,Rep X.K H O d v):ED M X x (dC d):=λH_=>impE h λY H Q h=>by
 obtain⟨U,o,R,φ,a,k⟩:=h;exact k v (dv d) H (Same.refl H) (hr H _) a
def zd {j pos}:ED M X (.Constant (.int i) j pos) (dC (.int i)):=ed_c N3 λ_ _=>rfl
def Wn{b:Bool} {j pos}:ED M X (.Constant (.bool b) j pos) (dC (.bl b)):=ed_c z2r λ_ _=>rfl
def Gn {j pos}:ED M X (.Constant .none j pos) (dC .non):=ed_c Hy λ_ _=>rfl
def zf{x:Str} {j pos}:ED M X (.Constant (.str x) j pos) (dC (.str x)):=ed_c A5 λ_ _=>rfl
structure GC(K:W.Frag)(mg:Str->Option Value)(x:Str)(d:D):Prop where
 ex:∃u v,mg x=some u/\RelV v u/\∀H O,Rep K H O d v
def Ds{x:Str}(G:GC X.K X.mg x d)(e:Gl X x:=by rfl)(hd:D_ x:=by decide):ED M X (.Name x pos) (dC d):=by
 obtain⟨u,v,a,r,h⟩:=G.ex;exact ed_c (Tl e a r hd) h
def Wi{x:Str}(e:X.mg x=none)(a:bootBuiltins x=some (.type n))(g:Gl X x:=by rfl)(d:x≠"__name__":=by decide)(hd:D_ x:=by decide):ED M X (.Name x pos) (dC (.ty n)) :=
 ed_c (Ea g e a (v:=.ty n) rfl d hd) λ_ _=>rfl
def jz(K:W.Frag)(d:R2)(s:D->D->(EV->Prop)->Prop):Prop :=
 ∀(H:Hp)(O:List Addr)(x y:D)(vx vy:V)(φ:EV->Prop)(Q:VK),(∀a,H a=none->a∉O)->View K H O x vx->View K H O y vy->s x y φ ->
  (∀v r H',Same H H'->RV K H H' O r v->φ r->Q v H')->d vx vy H Q
def d2(s:D->D->(EV->Prop)->Prop)(ta tb:TD):TD:=λU φ=>ta U λx=>tb U λy=>s x.d y.d φ
def J3{s:D->D->(EV->Prop)->Prop}(hl:jz X.K rr s):∀Y H Q,qd X.K H_ (d2 s ta tb) Y H Q->tOp rr (qd X.K H_ ta) (qd X.K H_ tb) Y H Q:=λY H Q h=>by
 obtain⟨U,o,R,φ,q,k⟩:=h;refine⟨U,o,R,_,q,λu r1 H1 g l J=>⟨U,o,R.to g,_,J,λv2 r2 H2 s2 j h2=>?_⟩⟩;exact hl H2 _ r1.d r2.d u v2 φ Q (λa e=>R.ofree ((g.trans s2).free e)) (l.same s2).view j.view h2 λv r H' x y h=>k v r H' (g.trans (s2.trans x)) (y.start (g.trans s2)) h
def Zh{s:D->D->(EV->Prop)->Prop}(ho:OpR X (binaryOp op) rr)(hl:jz X.K rr s)(e:ED M X a ta)(d:ED M X b tb):ED M X (.BinOp a op b pos) (d2 s ta tb):=λH_ =>
 impE (Ki ho (e H_) (d H_)) (J3 hl)
def Ql{s:D->D->(EV->Prop)->Prop}(ho:OpR X (compareOp op) rr)(hl:jz X.K rr s)(g:ED M X a ta)(e:ED M X b tb)(d:behindInMarks op b=false):ED M X (.Compare a [op] [b] pos) (d2 s ta tb):=λH_ =>
 impE (E9 ho (g H_) (e H_) d) (J3 hl)
def Ee:OpR X (binaryOp .Mult) (rI IntMulOk λi j=>.int (i*j)):=opI λ_ _ _ _ _ _ _ a q=>PyProof.Rows.mul_int q a
def FdOk(i j:Int):Prop:=j≠0/\j.natAbs.log2<9000
def Ko:OpR X (binaryOp .FloorDiv) (rI FdOk λi j=>.int (i.fdiv j)):=opI λ_ _ _ _ _ _ _ a q=>floordiv_int a.1 q (.inl (PyProof.noPylong_of_log2 a.2))
def sI(C:Int->Int->Prop)(g:Int->Int->D):D->D->(EV->Prop)->Prop:=λx y φ=>match x,y with
 |.int i,.int j=>C i j/\φ (dv (g i j))
 |_,_=>False
def Nf{K:W.Frag}{C:Int->Int->Prop}{g:Int->Int->D}{a:Int->Int->V}(l:∀ i j H O,Rep K H O (g i j) (a i j)):jz K (rI C a) (sI C g):=by
 intro H O x y r q φ Q ho e d h k;unfold sI at h;split at h
 ·exact⟨_,_,e,d,h.1,k _ _ H (Same.refl H) (by exact l _ _ H O) h.2⟩
 exact h.elim
def sI0(g:Int->Int->D):D->D->(EV->Prop)->Prop:=λx y φ=>match x,y with
 |.int i,.int j=>φ (dv (g i j))
 |_,_=>False
def Xw{K:W.Frag}{g:Int->Int->D}{a:Int->Int->V}(l:∀ i j H O,Rep K H O (g i j) (a i j)):jz K (rI0 a) (sI0 g):=by
 intro H O x y r q φ Q ho e d h k;unfold sI0 at h;split at h
 ·exact⟨_,_,e,d,k _ _ H (Same.refl H) (by exact l _ _ H O) h⟩
 exact h.elim
abbrev sSub:=sI0 λi j=>.int (i-j)
abbrev sFd:=sI FdOk λi j=>.int (i.fdiv j)
abbrev sMod:=sI (λ_ j=>j≠0) λi j=>.int (i.fmod j)
abbrev sPow:=sI CPow λi j=>.int (i ^ j.toNat)
abbrev sLt:=sI0 λi j=>.bl (decide (i<j))
abbrev sGt:=sI0 λi j=>.bl (decide (j<i))
abbrev sGe:=sI0 λi j=>.bl (decide (j<=i))
def ud(e:ED M X a ta)(d:ED M X b tb):ED M X (.BinOp a .Sub b pos) (d2 sSub ta tb):=Zh Ac (Xw λ_ _ _ _=>rfl) e d
def rb(e:ED M X a ta)(d:ED M X b tb):ED M X (.BinOp a .FloorDiv b pos) (d2 sFd ta tb):=Zh Ko (Nf λ_ _ _ _=>rfl) e d
def xg(e:ED M X a ta)(d:ED M X b tb):ED M X (.BinOp a .Mod b pos) (d2 sMod ta tb):=Zh Ef (Nf λ_ _ _ _=>rfl) e d
def Qi(e:ED M X a ta)(d:ED M X b tb):ED M X (.BinOp a .Pow b pos) (d2 sPow ta tb):=Zh Ae (Nf λ_ _ _ _=>rfl) e d
def z3n(e:ED M X a ta)(d:ED M X b tb):ED M X (.Compare a [.GtE] [b] pos) (d2 sGe ta tb):=Ql z2u (Xw λ_ _ _ _=>rfl) e d (kq _)
def sAdd:D->D->(EV->Prop)->Prop:=λx y φ=>match x,y with
 |.int i,.int j=>φ (dv (.int (i+j)))
 |.str p,.str q=>p.length+q.length<=sizeLine/\φ (dv (.str (p++q)))
 |.lst p,.lst q=>p.length+q.length<=sizeLine/\φ (df (.lst (p++q)))
 |.tup p,.tup q=>p≠[]/\q≠[]/\p.length+q.length<=sizeLine/\φ (dv (.tup (p++q)))
 |_,_=>False
def y4(h:H p=none)(o:HO):Same H (upd H p o):=λb u q=>by rw[zj (zl q h)];exact q
def K1{K:W.Frag}{H:Hp}{O:List Addr}{p:Addr}{o:HO}{Z:List D}{E:List V}(a:H p=none)(r:Reps K H O Z E):Reps K (upd H p o) O Z E:=zr.grow (Grow.same (y4 a o)) _ _ r
def W7{o:HO}(a:H p=none):Grow O (p::O) H (upd H p o) :=
 ⟨λb u h n=>⟨y4 a o b u h,λz=>(zam.mp z).elim (λe=>zl h a e) n⟩,λb E h=>y4 a o b _ h,λb ob u h=>y4 a o b _ h⟩
def b5{K:W.Frag}{H:Hp}{O:List Addr}{p:Addr}{Z:List D}{E:List V}(ho:∀ a,H a=none->a∉O)(d:H p=none)(r:Reps K H O Z E):RV K H (upd H p (.lst E)) O (df (.lst Z)) (.ref p) :=
 ⟨p,rfl,d,ho p d,E,zm,zr.grow (W7 d) _ _ r⟩
def V2{K:W.Frag}{H:Hp}{O:List Addr}{p:Addr}{Z:List D}{E:List V}(a:H p=none)(r:Reps K H O Z E):RV K H (upd H p (.tup E)) O (dv (.tup Z)) (.ref p) :=
 ⟨p,E,rfl,⟨SqT.of zm,zm⟩,K1 a r⟩
def J2:jz X.K (λx y H Q=>rI0 (λi j=>.int (i+j)) x y H Q\/(∃i j,x=.str i/\y=.str j/\i.length+j.length<=sizeLine/\Q (.str (i++j)) H)\/rCat x y H Q\/Bg X.K x y H Q) sAdd:=by
 intro H O x y G D φ Q ho g d h k;unfold sAdd at h;split at h
 ·exact .inl ⟨_,_,g,d,k _ _ H (Same.refl H) aH h⟩
 ·exact .inr (.inl ⟨_,_,g,d,h.1,k _ _ H (Same.refl H) aH h.2⟩)
 ·obtain⟨a1,E,rfl,r,r1⟩:=g;obtain⟨a2,ys,rfl,q,r2⟩:=d;refine .inr (.inr (.inl ⟨a1,a2,E,ys,rfl,rfl,r,q,by rw[r1.length,r2.length];exact h.1,λp l=>?_⟩))
  exact k _ _ _ (y4 l _) (b5 ho l (r1.append r2)) h.2
 ·obtain⟨v,u,B,l⟩:=h;obtain⟨a1,E,rfl,r,r1⟩:=g;obtain⟨a2,ys,rfl,q,r2⟩:=d;refine .inr (.inr (.inr ⟨a1,a2,E,ys,rfl,rfl,r.1,q.1,?_,by rw[r1.length,r2.length];exact B,λz=>?_,λ_ p a=>?_⟩))
  ·intro z;have e:=r1.length;rw[z]at e;exact v (zcI e.symm)
  ·exfalso;have e:=r2.length;rw[z]at e;exact u (zcI e.symm)
  exact k _ _ _ (y4 a _) (V2 a (r1.append r2)) l
 exact h.elim
def yg(e:ED M X a ta)(d:ED M X b tb):ED M X (.BinOp a .Add b pos) (d2 sAdd ta tb):=Zh (Aj.or (Pe.or (N7.or N6))) J2 e d
def sMul:D->D->(EV->Prop)->Prop:=λx y φ=>match x,y with
 |.int i,.int j=>IntMulOk i j/\φ (dv (.int (i*j)))
 |.lst p,.int k=>-(2 ^ 63)<=k/\k<2 ^ 63/\p.length*k.toNat<=sizeLine/\φ (df (.lst (List.replicate k.toNat p).flatten))
 |_,_=>False
end
mutual
def eqD:D->D->Bool
 |.non,.non=>true
 |.bl a,.bl b=>a==b
 |.bl a,.int b=>(if a then 1 else 0)==b
 |.int a,.bl b=>a==(if b then 1 else 0)
 |.int a,.int b=>a==b
 |.str a,.str b=>a==b
 |.tup a,.tup b=>eqDs a b
 |.lst a,.lst b=>eqDs a b
 |_,_=>false
def eqDs:List D->List D->Bool
 |[],[]=>true
 |a::as,b::bs=>eqD a b&&eqDs as bs
 |_,_=>false
end
def okD:Nat->D->Prop
 |0,d=>match d with
  |.non=>True
  |.bl _=>True
  |.int _=>True
  |.str _=>True
  |_=>False
 |n+1,d=>match d with
  |.non=>True
  |.bl _=>True
  |.int _=>True
  |.str _=>True
  |.tup Z=>∀x∈Z,okD n x
  |.lst Z=>∀x∈Z,okD n x
  |_=>False
theorem Zf:∀{Z es:List D},eqDs Z es=true ↔ Z.length=es.length/\∀(j:Nat)(x y:D),Z[j]?=some x->es[j]?=some y->eqD x y=true
 |[],[]=>by simp[eqDs]
 |[],y::es=>by simp[eqDs]
 |x::Z,[]=>by simp[eqDs]
 |x::Z,y::es=>by
  rw[eqDs,zbI,Zf];constructor
  ·rintro⟨h,hl,q⟩;refine⟨by simp[hl],λj a b e d=>?_⟩
   cases j with
   |zero=>simp at e d;subst e d;exact h
   |succ j=>exact q j a b (by simpa using e) (by simpa using d)
  rintro⟨hl,q⟩;exact⟨q 0 x y rfl rfl,by simpa using hl,λj a b e d=>q (j+1) a b (by simpa using e) (by simpa using d)⟩
def fk(Z es:List D):eqDs Z es=((List.range (min Z.length es.length)).all (λj=>eqD (Z.getD j .non) (es.getD j .non))&&Z.length==es.length):=by
 rw[Bool.eq_iff_iff,Zf,zbI,List.all_eq_true];constructor
 ·rintro⟨hl,q⟩;refine⟨λj k=>?_,by simp[hl]⟩
  have g:=List.mem_range.mp k;have J:j<Z.length:=by omega
  have h2:j<es.length:=by omega
  have e1:Z[j]?=some Z[j]:=by simp[J]
  have e2:es[j]?=some es[j]:=by simp[h2]
  have:=q j _ _ e1 e2;simpa [List.getD,e1,e2] using this
 rintro⟨q,hl⟩;have a:Z.length=es.length:=by simpa using hl
 refine⟨a,λj x y d e=>?_⟩;have J:=(zag.mp d).1;have:=q j (List.mem_range.mpr aD)
 simpa [List.getD,d,e] using this
def Ve{n:Nat}{d:D}{Z:List D}(e:d=.tup Z\/d=.lst Z)(h:okD n d):∃m,n=m+1/\∀x∈Z,okD m x:=by
 cases n with
 |zero=>rcases e with rfl|rfl <;> exact h.elim
 |succ m=>rcases e with rfl|rfl <;> exact⟨m,rfl,h⟩
def svD:D->Option V
 |.non=>some .non
 |.bl b=>some (.bl b)
 |.int i=>some (.int i)
 |.str x=>some (.str x)
 |_=>none
def vsD:V->D
 |.bl b=>.bl b
 |.int i=>.int i
 |.str x=>.str x
 |_=>.non
def O1{d:D}{w:V}(h:svD d=some w):vsD w=d/\(∀a,w≠.ref a)/\eqD d d=true:=by
 cases d <;> first|cases h;exact⟨rfl,nofun,by simp[eqD]⟩|cases h
def Xr{n:Nat}{d:D}(h:okD n d):(∃w,svD d=some w/\∀K H v,Rep K H [] d v->v=w)\/∃Z,d=.tup Z\/d=.lst Z:=by
 cases n <;> cases d <;> first|exact h.elim|exact .inl ⟨_,rfl,λ_ _ _ h=>h⟩|exact .inr ⟨_,.inl rfl⟩|exact .inr ⟨_,.inr rfl⟩
def Qf(n:Nat):∀d:D,okD n d->eqD d d=true:=by
 induction n using Nat.strongRecOn with
 |_ n ih =>
  intro d h;rcases Xr h with⟨w,e,_⟩|⟨Z,e⟩
  ·exact(O1 e).2.2
  obtain⟨m,rfl,o⟩:=Ve e h;have q:eqDs Z Z=true:=Zf.mpr ⟨rfl,λj x y g a=>by
   rw[g]at a;cases a;exact ih m (zdY m) x (o x (zan g))⟩
  rcases e with rfl|rfl <;> exact q
def RepN.inj(I:Inv X pn Y H s)(n:Nat):∀(d e:D)(v:V),okD n d->okD n e->Rep X.K H [] d v->Rep X.K H [] e v->d=e:=by
 induction n using Nat.strongRecOn with
 |_ n ih =>
  intro d e v hd O J h2;have l:∀(a:Addr)(E ys:List V),SqT X.K H a E->H a=some (.lst ys)->False:=λa E ys k j=>by
   obtain⟨its,_,W,_⟩:=I.tuple k;obtain⟨N,_,p2,_⟩:=I.list (SqL.of j);exact SeqAt.ne_of_list_tuple p2.isList (show s.heap.IsTuple a its.toArray from W) rfl
  have y:∀{d:D}{Z:List D},d=.tup Z\/d=.lst Z->Rep X.K H [] d v->∃a,v=.ref a:=λ{d Z} e h=>by
   rcases e with rfl|rfl
   ·exact let ⟨a,_,e,_⟩:=h;⟨a,e⟩
   exact let ⟨a,_,e,_⟩:=h;⟨a,e⟩
  rcases Xr hd with⟨w,Q,M⟩|⟨Z,L⟩ <;> rcases Xr O with⟨w',B,u⟩|⟨es,h1⟩
  ·rw[<- (O1 Q).1,<- (O1 B).1,<- M _ _ _ J,<- u _ _ _ h2]
  ·exact let ⟨a,z⟩:=y h1 h2;absurd ((M _ _ _ J).symm.trans z) ((O1 Q).2.1 a)
  ·exact let ⟨a,z⟩:=y L J;absurd ((u _ _ _ h2).symm.trans z) ((O1 B).2.1 a)
  obtain⟨m,rfl,o1⟩:=Ve L hd;obtain⟨_,ds,o2⟩:=Ve h1 O;cases ds;have g:∀(Z es:List D)(E:List V),(∀x∈Z,okD m x)->(∀x∈es,okD m x)->Reps X.K H [] Z E->Reps X.K H [] es E->Z=es:=by
   intro Z
   induction Z with
   |nil =>
    intro es E _ _ r1 r2;have:=r1.length;rw[r2.length]at this;exact(zcI this).symm
   |cons d Z ih2 =>
    intro es E J h2 ⟨v,r,e0,q,t⟩ r2;subst e0;cases es with
    |nil=>cases r2
    |cons e es =>
     obtain⟨v',r',e1,R,t'⟩:=r2;cases e1;rw[ih m (zdY m) d e v (J d (zao ..)) (h2 e (zao ..)) q R,ih2 es r (λx G=>J x (zal _ G)) (λx G=>h2 x (zal _ G)) t t']
  rcases L with rfl|rfl <;> rcases h1 with rfl|rfl
  ·obtain⟨a,E,rfl,k,r1⟩:=J;obtain⟨a',ys,e1,j,r2⟩:=h2;cases e1;cases I.tuple_inj k.1 j.1;rw[g Z es E o1 o2 r1 r2]
  ·obtain⟨a,E,rfl,k,r1⟩:=J;obtain⟨a',ys,e1,j,_,r2⟩:=h2;cases e1;exact(l _ _ _ k.1 j).elim
  ·obtain⟨a,E,rfl,k,_,r1⟩:=J;obtain⟨a',ys,e1,j,r2⟩:=h2;cases e1;exact(l _ _ _ j.1 k).elim
  obtain⟨a,E,rfl,k,_,r1⟩:=J;obtain⟨a',ys,e1,j,_,r2⟩:=h2;cases e1;cases I.list_inj (SqL.of k) (SqL.of j);rw[g Z es E o1 o2 r1 r2]
inductive Sh(K:W.Frag)(H:Hp)(s:Shared):D->Value->Prop where
 |non:Sh K H s .non .none
 |bl (b:Bool):Sh K H s (.bl b) (.bool b)
 |int (i:Int) (t:Tok):Sh K H s (.int i) (.int i t)
 |str (x:Str) (t:Tok):Sh K H s (.str x) (.str x t)
 |tup {a:Addr} {Z:List D} {E:List V} {its:List Value} (p:s.heap.IsTuple a its.toArray) (r:Vals E its) (q:Reps K H [] Z E):Sh K H s (.tup Z) (.ref a)
 |lst {a:Addr} {Z:List D} {E:List V} {its:List Value} (p:s.heap.IsList a its.toArray) (r:Vals E its) (q:Reps K H [] Z E):Sh K H s (.lst Z) (.ref a)
def T8(I:Inv X pn Y H s){x:V}(hd:okD n d)(h:Rep X.K H [] d x)(r:RelV x u):Sh X.K H s d u:=by
 cases d with
 |non=>cases (show x=_ from h);cases r;exact .non
 |bl b=>cases (show x=_ from h);cases r;exact .bl b
 |int b=>cases (show x=_ from h);obtain⟨t,rfl⟩:=r;exact .int b t
 |str b=>cases (show x=_ from h);obtain⟨t,rfl⟩:=r;exact .str b t
 |tup Z =>
  obtain⟨a,E,rfl,q,t⟩:=h;cases r;obtain⟨its,e,p,_⟩:=I.tuple q.1;exact .tup (show s.heap.IsTuple a its.toArray from p) e t
 |lst Z =>
  obtain⟨a,E,rfl,q,_,t⟩:=h;cases r;obtain⟨its,e,p,_⟩:=I.list (SqL.of q);exact .lst p.isList e t
 |_=>cases n <;> exact hd.elim
section
open SeqAt in
def Sr(I:Inv X pn Y H s):∀(n:Nat)(d e:D)(x y:V)(u v:Value)(A:Around),okD n d->okD n e->Rep X.K H [] d x->Rep X.K H [] e y->RelV x u->RelV y v->A.units+n<cLine ->
  RcAt A s u v (eqD d e)/\RcNeAt A s u v (!eqD d e)/\EqAt A s u v (eqD d e):=by
 intro n
 induction n using Nat.strongRecOn with
 |_ n ih =>
  intro d e x y u v A hd N J h2 r1 r2 hu;have g:A.units<cLine:=by omega
  have h1:∀{l b:Addr}{k:Bool},u=.ref l->v=.ref b->k=eqD d e->RcAt A s (.ref l) (.ref b) k->EqAt A s (.ref l) (.ref b) k:=λ{l b k} e1 e2 M h=>by
   by_cases hlb:l=b
   ·subst hlb;have hv:x=y:=by
     have z1:x=.ref l:=by
      cases x <;> subst e1 <;> first|(have:=(show Value.ref l=Value.ref _ from r1);cases this;rfl)|(obtain⟨t,z⟩:=r1;cases z)|cases r1
     have z2:y=.ref l:=by
      cases y <;> subst e2 <;> first|(have:=(show Value.ref l=Value.ref _ from r2);cases this;rfl)|(obtain⟨t,z⟩:=r2;cases z)|cases r2
     rw[z1,z2]
    subst hv;have R:=RepN.inj I n d e x hd N J h2;subst R;rw[M,Qf n d hd];exact EqAt.same _
   exact EqAt.of_refs hlb h
  have items:∀{Z es:List D}{E ys:List V}{its B:List Value},(d=.tup Z\/d=.lst Z)->(e=.tup es\/e=.lst es)->Reps X.K H [] Z E->Reps X.K H [] es ys->Vals E its->Vals ys B ->
    ∀j (J:j<its.toArray.size) (h2:j<B.toArray.size),EqAt A.in1 s its.toArray[j] B.toArray[j] (eqD (Z.getD j .non) (es.getD j .non)):=λ{Z es E ys its B} o1 o2 ds W w1 w2 j J h2=>by
   obtain⟨m,rfl,o1⟩:=Ve o1 hd;obtain⟨_,em,o2⟩:=Ve o2 N;cases em;have Q:A.in1.units+m<cLine:=by
    have:A.in1.units=A.units+1:=rfl;omega
   have l1:=w1.length;have l2:=w2.length;have k1:=ds.length;have k2:=W.length;have g1:j<Z.length:=by simp at J;omega
   have g2:j<es.length:=by simp at h2;omega
   have e1:Z[j]?=some Z[j]:=by simp[g1]
   have e2:es[j]?=some es[j]:=by simp[g2]
   obtain⟨x',ex,rx⟩:=ds.get e1;obtain⟨y',ey,ry⟩:=W.get e2;obtain⟨u',eu,ru⟩:=w1.get ex;obtain⟨v',ev,rv⟩:=w2.get ey;have f1:its.toArray[j]=u':=by
    have:=(zag.mp eu).2;simpa using this
   have f2:B.toArray[j]=v':=by
    have:=(zag.mp ev).2;simpa using this
   rw[f1,f2,show Z.getD j .non=Z[j] by simp[List.getD,e1],show es.getD j .non=es[j] by simp[List.getD,e2]]
   exact(ih m (zdY m) Z[j] es[j] x' y' u' v' A.in1 (o1 _ (zdZ g1)) (o2 _ (zdZ g2)) rx ry ru rv Q).2.2
  cases T8 I hd J r1 with
  |non =>
   cases T8 I N h2 r2 with
   |non=>exact⟨RcAt.none_none,RcNeAt.none_none,EqAt.same _⟩
   |bl b=>exact⟨RcAt.none_bool b,RcNeAt.none_bool b,EqAt.none_bool b⟩
   |int i t=>exact⟨RcAt.none_int i t,RcNeAt.none_int i t,EqAt.none_int i t⟩
   |str i t=>exact⟨RcAt.none_str i t,RcNeAt.none_str i t,EqAt.none_str i t⟩
   |tup p _ _=>exact⟨RcAt.none_tuple p g,RcNeAt.none_tuple p g,EqAt.none_tuple p g⟩
   |lst p _ _=>exact⟨RcAt.none_list p g,RcNeAt.none_list p g,EqAt.none_list p g⟩
  |bl a =>
   cases T8 I N h2 r2 with
   |non=>exact⟨RcAt.bool_none a,RcNeAt.bool_none a,EqAt.bool_none a⟩
   |bl b=>exact⟨RcAt.bool_bool a b,RcNeAt.bool_bool a b,EqAt.bool_bool a b⟩
   |int i t=>exact⟨RcAt.bool_int a i t,RcNeAt.bool_int a i t,EqAt.bool_int a i t⟩
   |str i t=>exact⟨RcAt.bool_str a i t,RcNeAt.bool_str a i t,EqAt.bool_str a i t⟩
   |tup p _ _=>exact⟨RcAt.bool_tuple a p g,RcNeAt.bool_tuple a p g,EqAt.bool_tuple a p g⟩
   |lst p _ _=>exact⟨RcAt.bool_list a p g,RcNeAt.bool_list a p g,EqAt.bool_list a p g⟩
  |int a t =>
   cases T8 I N h2 r2 with
   |non=>exact⟨RcAt.int_none a t,RcNeAt.int_none a t,EqAt.int_none a t⟩
   |bl b=>exact⟨RcAt.int_bool a t b,RcNeAt.int_bool a t b,EqAt.int_bool a t b⟩
   |int i t'=>exact⟨RcAt.int_int a t i t',RcNeAt.int_int a t i t',EqAt.int_int a t i t'⟩
   |str i t'=>exact⟨RcAt.int_str a t i t',RcNeAt.int_str a t i t',EqAt.int_str a t i t'⟩
   |tup p _ _=>exact⟨RcAt.int_tuple a t p g,RcNeAt.int_tuple a t p g,EqAt.int_tuple a t p g⟩
   |lst p _ _=>exact⟨RcAt.int_list a t p g,RcNeAt.int_list a t p g,EqAt.int_list a t p g⟩
  |str a t =>
   cases T8 I N h2 r2 with
   |non=>exact⟨RcAt.str_none a t,RcNeAt.str_none a t,EqAt.str_none a t⟩
   |bl b=>exact⟨RcAt.str_bool a t b,RcNeAt.str_bool a t b,EqAt.str_bool a t b⟩
   |int i t'=>exact⟨RcAt.str_int a t i t',RcNeAt.str_int a t i t',EqAt.str_int a t i t'⟩
   |str i t'=>exact⟨RcAt.str_str a t i t',RcNeAt.str_str a t i t',EqAt.str_str a t i t'⟩
   |tup p _ _=>exact⟨RcAt.str_tuple a t p g,RcNeAt.str_tuple a t p g,EqAt.str_tuple a t p g⟩
   |lst p _ _=>exact⟨RcAt.str_list a t p g,RcNeAt.str_list a t p g,EqAt.str_list a t p g⟩
  |@tup l Z E its p r q =>
   cases T8 I N h2 r2 with
   |non=>exact⟨RcAt.tuple_none p g,RcNeAt.tuple_none p g,EqAt.tuple_none p g⟩
   |bl b=>exact⟨RcAt.tuple_bool b p g,RcNeAt.tuple_bool b p g,EqAt.tuple_bool b p g⟩
   |int i t=>exact⟨RcAt.tuple_int i t p g,RcNeAt.tuple_int i t p g,EqAt.tuple_int i t p g⟩
   |str i t=>exact⟨RcAt.tuple_str i t p g,RcNeAt.tuple_str i t p g,EqAt.tuple_str i t p g⟩
   |lst p2 _ _=>exact⟨RcAt.tuple_list p p2 g,RcNeAt.tuple_list p p2 g,EqAt.tuple_list p p2 g⟩
   |@tup b es ys B p2 r' q' =>
    have e1:its.toArray.size=Z.length:=by rw[zap,<- r.length,q.length]
    have e2:B.toArray.size=es.length:=by rw[zap,<- r'.length,q'.length]
    have M:eqD (.tup Z) (.tup es)=((List.range (min its.toArray.size B.toArray.size)).all (λj=>eqD (Z.getD j .non) (es.getD j .non))&&its.toArray.size==B.toArray.size):=by
     rw[e1,e2];exact fk Z es
    rw[M];have L:=items (.inl rfl) (.inl rfl) q q' r r';have G:=RcAt.tuples p p2 g L;exact⟨G,RcNeAt.tuples p p2 g L,h1 rfl rfl M.symm G⟩
  |@lst l Z E its p r q =>
   cases T8 I N h2 r2 with
   |non=>exact⟨RcAt.list_none p g,RcNeAt.list_none p g,EqAt.list_none p g⟩
   |bl b=>exact⟨RcAt.list_bool b p g,RcNeAt.list_bool b p g,EqAt.list_bool b p g⟩
   |int i t=>exact⟨RcAt.list_int i t p g,RcNeAt.list_int i t p g,EqAt.list_int i t p g⟩
   |str i t=>exact⟨RcAt.list_str i t p g,RcNeAt.list_str i t p g,EqAt.list_str i t p g⟩
   |tup p2 _ _=>exact⟨RcAt.list_tuple p p2 g,RcNeAt.list_tuple p p2 g,EqAt.list_tuple p p2 g⟩
   |@lst b es ys B p2 r' q' =>
    have e1:its.toArray.size=Z.length:=by rw[zap,<- r.length,q.length]
    have e2:B.toArray.size=es.length:=by rw[zap,<- r'.length,q'.length]
    by_cases hsz:its.toArray.size=B.toArray.size
    ·have M:eqD (.lst Z) (.lst es)=(List.range its.toArray.size).all (λj=>eqD (Z.getD j .non) (es.getD j .non)):=by
      show eqDs Z es=_;rw[fk,<- e1,<- e2,<- hsz];simp
     rw[M];have L:=items (.inr rfl) (.inr rfl) q q' r r';have G:=RcAt.lists p p2 hsz g L;exact⟨G,RcNeAt.lists p p2 hsz g L,h1 rfl rfl M.symm G⟩
    have M:eqD (.lst Z) (.lst es)=false:=by
     show eqDs Z es=_;have hb:(its.toArray.size==B.toArray.size)=false:=zaS.mpr hsz;rw[fk,<- e1,<- e2,hb,Bool.and_false]
    rw[M];have O:(its.toArray.size != B.toArray.size)=true:=by simpa using hsz
    have G:=RcAt.lists_lengths p p2 O g;exact⟨G,RcNeAt.lists_lengths p p2 O g,h1 rfl rfl M.symm G⟩
end
section
variable{a b:Expr}{ta tb:TD}{pos:Pos}
def rEqD(K:W.Frag)(a:Bool):R2:=λx y H Q=>∃d e,Rep K H [] d x/\Rep K H [] e y/\okD 40 d/\okD 40 e/\Q (.bl (if a then !eqD d e else eqD d e)) H
def N5(hu:X.A.units+64<cLine):OpR X (compareOp .Eq) (rEqD X.K false):=by
 intro pn s Y H x y v u Q I g a h;obtain⟨d,e,J,h2,o1,o2,q⟩:=h;exact(Sr I 40 d e x y v u X.A o1 o2 J h2 g a aD).1 X.prog X.w X.xe _ ⟨.bl _,H,I,rfl,q⟩
def Hz(hu:X.A.units+64<cLine):OpR X (compareOp .NotEq) (rEqD X.K true):=by
 intro pn s Y H x y v u Q I g a h;obtain⟨d,e,J,h2,o1,o2,q⟩:=h;exact(Sr I 40 d e x y v u X.A o1 o2 J h2 g a aD).2.1 X.prog X.w X.xe _ ⟨.bl _,H,I,rfl,q⟩
def sEq:D->D->(EV->Prop)->Prop:=λx y φ=>okD 40 x/\okD 40 y/\φ (dv (.bl (eqD x y)))
def sNe:D->D->(EV->Prop)->Prop:=λx y φ=>okD 40 x/\okD 40 y/\φ (dv (.bl (!eqD x y)))
def Dt(hu:X.A.units+64<cLine)(j:ED M X a ta)(g:ED M X b tb):ED M X (.Compare a [.Eq] [b] pos) (d2 sEq ta tb) :=
 Ql (N5 hu) (λH O x y q l φ Q ho e d h k=>⟨x,y,e.rep0,d.rep0,h.1,h.2.1,k _ _ H (Same.refl H) aH h.2.2⟩) j g (kq _)
def Dp(hu:X.A.units+64<cLine)(j:ED M X a ta)(g:ED M X b tb):ED M X (.Compare a [.NotEq] [b] pos) (d2 sNe ta tb) :=
 Ql (Hz hu) (λH O x y q l φ Q ho e d h k=>⟨x,y,e.rep0,d.rep0,h.1,h.2.1,k _ _ H (Same.refl H) aH h.2.2⟩) j g (kq _)
end
section
variable{a b c e:Expr}{es:List Expr}{ta tb te:TD}{t:TDs}{pos:Pos}
def Kx:jz X.K (λx y H Q=>rI IntMulOk (λi j=>.int (i*j)) x y H Q\/rRep x y H Q) sMul:=by
 intro H O x y u r φ Q ho d a h k;unfold sMul at h;split at h
 ·exact .inl ⟨_,_,d,a,h.1,k _ _ H (Same.refl H) aH h.2⟩
 ·obtain⟨J,h2,q,l⟩:=h;obtain⟨a1,E,rfl,g,r1⟩:=d;refine .inr ⟨a1,_,E,rfl,a,g,J,h2,by rw[r1.length];exact q,λp e=>?_⟩
  exact k _ _ _ (y4 e _) (b5 ho e (r1.rep _)) l
 exact h.elim
def jq(e:ED M X a ta)(d:ED M X b tb):ED M X (.BinOp a .Mult b pos) (d2 sMul ta tb):=Zh (Ee.or Ad) Kx e d
def sNeg:D->(EV->Prop)->Prop:=λx φ=>match x with
 |.int i=>φ (dv (.int (-i)))
 |_=>False
def d1(s:D->(EV->Prop)->Prop)(ta:TD):TD:=λU φ=>ta U λx=>s x.d φ
def Uc(q:ED M X a ta):ED M X (.UnaryOp .USub a pos) (d1 sNeg ta):=λH_=>impE (z2q Cg (q H_)) λY H Q h=>by
 obtain⟨U,o,R,φ,g,k⟩:=h;refine⟨U,o,R,_,g,λr r1 H1 j e J=>?_⟩;obtain⟨kd,d⟩:=r1;have l:=e.view;cases d with
 |int i=>exact⟨i,l,k _ _ H1 j aH J⟩
 |_=>exact J.elim
def truD:D->Option Bool
 |.non=>some false
 |.bl b=>some b
 |.int i=>some (i != 0)
 |.str x=>if x.length<=sizeLine then some ((x.length:Int) != 0) else none
 |.lst Z=>some (!Z.isEmpty)
 |.scr ns=>some (!ns.isEmpty)
 |.tup Z=>some (!Z.isEmpty)
 |.dk _ Z=>some (!Z.isEmpty)
 |.ty _=>none
 |.cn _=>none
 |.fo _=>none
 |.fd _=>none
 |.ob _ _ _=>none
def db{K:W.Frag}{H:Hp}{O:List Addr}{Z:List D}{E:List V}(r:Reps K H O Z E):E.isEmpty=Z.isEmpty:=by
 have:=r.length;cases E <;> cases Z <;> simp_all
def Lq{K:W.Frag}{H:Hp}{O:List Addr}{d:D}{v:V}{b:Bool}(h:View K H O d v)(e:truD d=some b):TruV K v H b:=by
 cases d with
 |non=>cases (show v=_ from h);cases e;rfl
 |bl i=>cases (show v=_ from h);cases e;rfl
 |int i=>cases (show v=_ from h);cases e;rfl
 |str x =>
  cases (show v=_ from h)
  have g:(if x.length<=sizeLine then some ((x.length:Int) != 0) else none)=some b:=e
  split at g
  ·rename_i j;cases g;exact⟨j,rfl⟩
  cases g
 |ty _=>cases e
 |cn _=>cases e
 |fo _=>cases e
 |fd _=>cases e
 |ob _ _ _=>cases e
 |lst Z =>
  obtain⟨a,E,rfl,q,r⟩:=h;cases e;exact .inl ⟨E,SqL.of q,by rw[db r]⟩
 |scr ns =>
  obtain⟨a,rfl,q⟩:=h;cases e;exact .inl ⟨_,q.seq,by cases ns <;> rfl⟩
 |tup Z =>
  obtain⟨a,E,rfl,q,r⟩:=h;cases e;exact .inr (.inl ⟨E,q.1,by rw[db r]⟩)
 |dk ks Z =>
  obtain⟨a,E,rfl,q,l,_,r⟩:=h;cases e;refine .inr (.inr ⟨_,q,?_⟩);have:=r.length;cases ks <;> cases Z <;> cases E <;> simp_all
def tTru(t:TD):TDb:=λU φ=>t U λr=>match truD r.d with
 |some b=>φ b
 |none=>False
def jl(h:ED M X a ta)(r:∀ whole,isTrue a X.env whole=(do let v <- whole;standAt a.pos;holding [v] (truthy v)):=by intro _;rfl):ET M X a (tTru ta):=λH_=>impT (Ka (h H_) r) λY H Q q=>by
 obtain⟨U,o,R,φ,j,k⟩:=q;refine⟨U,o,R,_,j,λu r1 H1 l g J=>?_⟩;cases e:truD r1.d with
 |none=>simp only[e]at J
 |some b =>
  simp only[e]at J;exact⟨b,Lq g.view e,k b H1 l J⟩
def tBo(t:TD):TDb:=λU φ=>t U λr=>match r.d with
 |.bl b=>φ b
 |_=>False
def jm{s:D->D->(EV->Prop)->Prop}(ho:OpR X (compareOp op) rr)(hl:jz X.K rr s)(u:ED M X a ta)(q:ED M X b tb)(l:behindInMarks op b=false):ET M X (.Compare a [op] [b] pos) (tBo (d2 s ta tb)):=λH_ =>
 impT (Tg ho (u H_) (q H_) l) λY H Q h=>by
  obtain⟨U,o,R,φ,e,k⟩:=h;refine J3 (ta:=ta) (tb:=tb) (H_:=H_.1) hl Y H _ ⟨U,o,R,_,e,λv r H' g j J=>?_⟩;obtain⟨kd,d⟩:=r;cases d with
  |bl b=>exact⟨b,j.view,k b H' g J⟩
  |_=>exact J.elim
def z0z(e:ED M X a ta)(d:ED M X b tb):ET M X (.Compare a [.Lt] [b] pos) (tBo (d2 sLt ta tb)):=jm z2s (Xw λ_ _ _ _=>rfl) e d (kq _)
def Sq(e:ED M X a ta)(d:ED M X b tb):ET M X (.Compare a [.Gt] [b] pos) (tBo (d2 sGt ta tb)):=jm z2t (Xw λ_ _ _ _=>rfl) e d (kq _)
def xn(hu:X.A.units+64<cLine)(j:ED M X a ta)(g:ED M X b tb):ET M X (.Compare a [.Eq] [b] pos) (tBo (d2 sEq ta tb)) :=
 jm (N5 hu) (λH O x y q l φ Q ho e d h k=>⟨x,y,e.rep0,d.rep0,h.1,h.2.1,k _ _ H (Same.refl H) aH h.2.2⟩) j g (kq _)
def Wg(hu:X.A.units+64<cLine)(j:ED M X a ta)(g:ED M X b tb):ET M X (.Compare a [.NotEq] [b] pos) (tBo (d2 sNe ta tb)) :=
 jm (Hz hu) (λH O x y q l φ Q ho e d h k=>⟨x,y,e.rep0,d.rep0,h.1,h.2.1,k _ _ H (Same.refl H) aH h.2.2⟩) j g (kq _)
def J9:D->Bool
 |.non=>true
 |_=>false
def sIs:D->D->(EV->Prop)->Prop:=λx y φ=>match y with
 |.non=>φ (dv (.bl (J9 x)))
 |_=>False
def Rj:D->D->(EV->Prop)->Prop:=λx y φ=>match y with
 |.non=>φ (dv (.bl (!J9 x)))
 |_=>False
def Rb{K:W.Frag}{H:Hp}{O:List Addr}{d:D}{v:V}(h:View K H O d v):decide (v=.non)=J9 d:=by
 cases d with
 |tup Z=>obtain⟨a,E,rfl,_⟩:=h;rfl
 |lst Z=>obtain⟨a,E,rfl,_⟩:=h;rfl
 |scr ns=>obtain⟨a,rfl,_⟩:=h;rfl
 |fo _=>obtain⟨a,rfl,_⟩:=h;rfl
 |fd _=>obtain⟨a,rfl,_⟩:=h;rfl
 |ob _ _ _=>obtain⟨a,dx,E,rfl,_⟩:=h;rfl
 |dk ks Z=>obtain⟨a,E,rfl,_⟩:=h;rfl
 |cn c =>
  cases c with
  |int i=>cases (show v=_ from h);rfl
  |str x=>cases (show v=_ from h);rfl
  |tup cs=>obtain⟨a,o,its,n,E,rfl,_⟩:=(show CRep K (.tup cs) v from h);rfl
 |_=>cases (show v=_ from h);rfl
def Et{K:W.Frag}:jz K (λx y H Q=>y=.non/\Q (.bl (decide (x=.non))) H) sIs:=by
 intro H O x y g e φ Q ho d a h k;unfold sIs at h;split at h
 ·refine⟨a,?_⟩;rw[Rb d];exact k _ _ H (Same.refl H) aH h
 exact h.elim
def Ph{K:W.Frag}:jz K (λx y H Q=>y=.non/\Q (.bl (!decide (x=.non))) H) Rj:=by
 intro H O x y g e φ Q ho d a h k;unfold Rj at h;split at h
 ·refine⟨a,?_⟩;rw[Rb d];exact k _ _ H (Same.refl H) aH h
 exact h.elim
def z3j(e:ED M X a ta)(d:ED M X b tb):ET M X (.Compare a [.Is] [b] pos) (tBo (d2 sIs ta tb)):=jm Ah Et e d (kq _)
def Jq(e:ED M X a ta)(d:ED M X b tb):ET M X (.Compare a [.IsNot] [b] pos) (tBo (d2 Rj ta tb)):=jm Ed Ph e d (kq _)
variable{tA tB':TDb}{rest:List Expr}
def bAnd(t u:TDb):TDb:=λU φ=>t U λc=>(c=true->u U φ)/\(c=false->φ false)
def bOr(t u:TDb):TDb:=λU φ=>t U λc=>(c=true->φ true)/\(c=false->u U φ)
def bNot(t:TDb):TDb:=λU φ=>t U λc=>φ (!c)
def Zd(d:ET M X a tA):EW M X (.BoolOp .And [a] pos) tA:=λH_=>Fy (d H_)
def dz(d:ET M X a tA):EW M X (.BoolOp .Or [a] pos) tA:=λH_=>Bm (d H_)
def Ze(j:ET M X a tA)(g:EW M X (.BoolOp .And (b::rest) pos) tB'):EW M X (.BoolOp .And (a::b::rest) pos) (bAnd tA tB'):=λH_=>impW (Bn (j H_) (g H_)) λY H Q h=>by
 obtain⟨U,o,R,φ,e,k⟩:=h;refine⟨U,o,R,_,e,λc H1 d J=>?_⟩;cases c with
 |true=>exact iteT ⟨U,o,R.to d,φ,J.1 rfl,λb H2 s2 q=>k b H2 (d.trans s2) q⟩
 |false=>exact iteF (k false H1 d (J.2 rfl))
def jk(j:ET M X a tA)(g:EW M X (.BoolOp .Or (b::rest) pos) tB'):EW M X (.BoolOp .Or (a::b::rest) pos) (bOr tA tB'):=λH_=>impW (z2n (j H_) (g H_)) λY H Q h=>by
 obtain⟨U,o,R,φ,e,k⟩:=h;refine⟨U,o,R,_,e,λc H1 d J=>?_⟩;cases c with
 |true=>exact iteT (k true H1 d (J.1 rfl))
 |false=>exact iteF ⟨U,o,R.to d,φ,J.2 rfl,λb H2 s2 q=>k b H2 (d.trans s2) q⟩
def EW.et(h:EW M X a tA):ET M X a tA:=λH_=>PW.pt (h H_)
def c4(g:ET M X a tA):ET M X (.UnaryOp .Not a pos) (bNot tA):=λH_=>impT (Bq (g H_)) λY H Q h=>by
 obtain⟨U,o,R,φ,d,k⟩:=h;exact⟨U,o,R,_,d,λc H1 e J=>k _ H1 e J⟩
def vAnd(ta tb:TD):TD:=λU φ=>ta U λx=>match x.d with
 |.bl c=>(c=true->tb U φ)/\(c=false->φ (dv (.bl false)))
 |_=>False
def vNot(ta:TD):TD:=λU φ=>ta U λx=>match x.d with
 |.bl c=>φ (dv (.bl (!c)))
 |_=>False
def Mn {op} (h:ED M X a ta):ED M X (.BoolOp op [a] pos) ta:=λH_=>A6 (h H_)
def Ud(x:ED M X a ta)(u:ED M X (.BoolOp .And (b::rest) pos) tb):ED M X (.BoolOp .And (a::b::rest) pos) (vAnd ta tb):=λH_=>impE (A9 (x H_) (u H_)) λY H Q h=>by
 obtain⟨U,o,R,φ,j,k⟩:=h;refine⟨U,o,R,_,j,λv r H1 e l J=>?_⟩;obtain⟨kd,d⟩:=r;cases d with
 |bl c =>
  refine⟨c,l.view,?_⟩;cases c with
  |true=>exact iteT ⟨U,o,R.to e,φ,J.1 rfl,λv2 r2 H2 s2 g q=>k v2 r2 H2 (e.trans s2) (g.start e) q⟩
  |false=>exact iteF (k _ _ H1 e aH (J.2 rfl))
 |_=>exact J.elim
def z1d(l:ED M X a ta):ED M X (.UnaryOp .Not a pos) (vNot ta):=λH_=>impE (A7 (l H_)) λY H Q h=>by
 obtain⟨U,o,R,φ,e,k⟩:=h;refine⟨U,o,R,_,e,λv r H1 g j J=>?_⟩;obtain⟨kd,d⟩:=r;cases d with
 |bl c=>exact⟨c,j.view,k _ _ H1 g aH J⟩
 |_=>exact J.elim
def vIf(t:TDb)(ta tb:TD):TD:=λU φ=>t U λc=>(c=true->ta U φ)/\(c=false->tb U φ)
def jt(j:ET M X c tA)(r:ED M X a ta)(l:ED M X b tb):ED M X (.IfExp c a b pos) (vIf tA ta tb):=λH_=>impE (Kk (j H_) (r H_) (l H_)) λY H Q h=>by
 obtain⟨U,o,R,φ,g,k⟩:=h;refine⟨U,o,R,_,g,λc H1 e J=>?_⟩;cases c with
 |true=>exact iteT ⟨U,o,R.to e,φ,J.1 rfl,λv2 r2 H2 s2 d q=>k v2 r2 H2 (e.trans s2) (d.start e) q⟩
 |false=>exact iteF ⟨U,o,R.to e,φ,J.2 rfl,λv2 r2 H2 s2 d q=>k v2 r2 H2 (e.trans s2) (d.start e) q⟩
def aNil:TDs:=λ_ φ=>φ []
def xv(te:TD)(t:TDs):TDs:=λU φ=>te U λr=>t U λa=>φ (r::a)
def zb:EA M X [] aNil:=λH_=>impA uv λY H Q h=>by
 obtain⟨U,o,R,φ,a,k⟩:=h;exact k [] [] H (Same.refl H) aH a
def z9(u:ED M X e te)(hr:EA M X es t)(q:S_ X e es:=by rfl):EA M X (e::es) (xv te t):=λH_=>impA (yr (u H_) (hr H_) q) λY H Q h=>by
 obtain⟨U,o,R,φ,g,k⟩:=h;refine⟨U,o,R,_,g,λv r H1 a j J=>⟨U,o,R.to a,_,J,λvs l H2 s2 d h2=>?_⟩⟩;exact k (v::vs) (r::l) H2 (a.trans s2) ⟨v,vs,rfl,j.same s2,d.start a⟩ h2
def aJ{x0:Expr}{t0:TD}(a0:ED M X x0 t0)(h0:S_ X x0 []:=by rfl):EA M X [x0] (xv t0 aNil):=z9 a0 zb h0
def aK{x0 x1:Expr}{t0 t1:TD}(a0:ED M X x0 t0)(a1:ED M X x1 t1)(h0:S_ X x0 [x1]:=by rfl)(J:S_ X x1 []:=by rfl):EA M X [x0,x1] (xv t0 (xv t1 aNil)):=z9 a0 (z9 a1 zb J) h0
def aM{x0 x1 x2:Expr}{t0 t1 t2:TD}(a0:ED M X x0 t0)(a1:ED M X x1 t1)(a2:ED M X x2 t2)(h0:S_ X x0 [x1,x2]:=by rfl)(J:S_ X x1 [x2]:=by rfl)(h2:S_ X x2 []:=by rfl):EA M X [x0,x1,x2] (xv t0 (xv t1 (xv t2 aNil))):=z9 a0 (z9 a1 (z9 a2 zb h2) J) h0
def aN{x0 x1 x2 x3:Expr}{t0 t1 t2 t3:TD}(a0:ED M X x0 t0)(a1:ED M X x1 t1)(a2:ED M X x2 t2)(a3:ED M X x3 t3)(h0:S_ X x0 [x1,x2,x3]:=by rfl)(J:S_ X x1 [x2,x3]:=by rfl)(h2:S_ X x2 [x3]:=by rfl)(h3:S_ X x3 []:=by rfl):EA M X [x0,x1,x2,x3] (xv t0 (xv t1 (xv t2 (xv t3 aNil)))):=z9 a0 (z9 a1 (z9 a2 (z9 a3 zb h3) h2) J) h0
def aO{x0 x1 x2 x3 x4:Expr}{t0 t1 t2 t3 t4:TD}(a0:ED M X x0 t0)(a1:ED M X x1 t1)(a2:ED M X x2 t2)(a3:ED M X x3 t3)(a4:ED M X x4 t4)(h0:S_ X x0 [x1,x2,x3,x4]:=by rfl)(J:S_ X x1 [x2,x3,x4]:=by rfl)(h2:S_ X x2 [x3,x4]:=by rfl)(h3:S_ X x3 [x4]:=by rfl)(h4:S_ X x4 []:=by rfl):EA M X [x0,x1,x2,x3,x4] (xv t0 (xv t1 (xv t2 (xv t3 (xv t4 aNil))))):=z9 a0 (z9 a1 (z9 a2 (z9 a3 (z9 a4 zb h4) h3) h2) J) h0
def d6:List EV->Bool
 |[]=>true
 |r::rs=>(match r.k with|.own=>false|_=>true)&&d6 rs
theorem h9:∀{rs:List EV},d6 rs=true->∀r∈rs,r.k≠.own
 |[],_=>λr h=>nomatch h
 |⟨k,d⟩::rs,h=>λr hr=>by
  rw[d6,zbI]at h;rcases zam.mp hr with rfl|hr
  ·intro z;have a:k=.own:=z;subst a;exact absurd h.1 aE
  exact h9 h.2 r hr
def dTup(t:TDs):TD:=λU φ=>t U λa=>d6 a=true/\Nat.ble a.length 1000=true/\φ (dv (.tup (a.map EV.d)))
def dLst(t:TDs):TD:=λU φ=>t U λa=>d6 a=true/\Nat.ble a.length 1000=true/\φ (df (.lst (a.map EV.d)))
def Xx(h:Nat.ble n 1000=true):n<=sizeLine:=zak (zaB h) aB
theorem RVs.length{K:W.Frag}{H0 H:Hp}{O:List Addr}:∀{rs:List EV}{vs:List V},RVs K H0 H O rs vs->vs.length=rs.length
 |[],_,h=>by cases h;rfl
 |r::rs,vs,h=>by
  obtain⟨v,ws,rfl,_,t⟩:=h;simp[RVs.length t]
def zg {x1} (h:EA M X es t):ED M X (.Tuple es x1 pos) (dTup t):=λH_=>impE (N2 (h H_)) λY H Q q=>by
 obtain⟨U,o,R,φ,d,k⟩:=q;refine⟨U,o,R,_,d,λvs j H1 e a J=>⟨by rw[a.length];exact Xx J.2.1,λp g=>?_⟩⟩
 exact k _ _ _ (e.trans (y4 g _)) (RV.start (V2 g (a.reps (h9 J.1))) e) J.2.2
def x9(h:EA M X es t):ED M X (.List es pos) (dLst t):=λH_=>impE (Ru (h H_)) λY H Q q=>by
 obtain⟨U,o,R,φ,j,k⟩:=q;refine⟨U,o,R,_,j,λvs r H1 g d J=>⟨by rw[d.length];exact Xx J.2.1,λp l=>?_⟩⟩
 exact k _ _ _ (g.trans (y4 l _)) (RV.start (b5 (λa e=>R.ofree (g.free e)) l (d.reps (h9 J.1))) g) J.2.2
def sIx2:D->D->(EV->Prop)->Prop:=λx y φ=>match x,y with
 |.lst Z,.int i=>match atI Z i with
  |some d=>φ (dv d)
  |none=>False
 |.tup Z,.int i=>match atI Z i with
  |some d=>φ (dv d)
  |none=>False
 |.scr ns,.int i=>match atI ns i with
  |some n=>φ (dv (.int n))
  |none=>False
 |.str z,.int i=>z.length<=sizeLine/\match atI z.cps.toList i with
  |some c=>φ (dv (.str ⟨#[c]⟩))
  |none=>False
 |_,_=>False
def Qw{K:W.Frag}{H:Hp}{O:List Addr}{Z:List D}{E:List V}{i:Int}{d:D}(r:Reps K H O Z E)(h:atI Z i=some d):∃v,atI E i=some v/\Rep K H O d v:=by
 unfold atI at h ⊢;rw[r.length];cases e:ixN Z.length i with
 |none=>rw[e]at h;cases h
 |some j =>
  rw[e]at h;exact r.get h
def Es:jz X.K (rIx X.K) sIx2:=by
 intro H O x y G D φ Q ho l g h k;unfold sIx2 at h;split at h
 ·obtain⟨a,E,rfl,q,r⟩:=l;split at h
  ·rename_i d e;obtain⟨v,z,u⟩:=Qw r e;exact .inl ⟨a,E,_,v,rfl,g,SqL.of q,z,k _ _ H (Same.refl H) (RV.val u) h⟩
  exact h.elim
 ·obtain⟨a,E,rfl,q,r⟩:=l;split at h
  ·rename_i d e;obtain⟨v,z,u⟩:=Qw r e;exact .inr (.inl ⟨a,E,_,v,rfl,g,q.1,z,k _ _ H (Same.refl H) (RV.val u) h⟩)
  exact h.elim
 ·obtain⟨a,rfl,q⟩:=l;split at h
  ·rename_i n e;refine .inl ⟨a,_,_,.int n,rfl,g,q.seq,?_,k _ _ H (Same.refl H) aH h⟩
   unfold atI at e ⊢;rw[zLm];cases e2:ixN _ _ with
   |none=>rw[e2]at e;cases e
   |some j =>
    rw[e2]at e;exact(zai ..).trans (zbZ (Option.map V.int) e)
  exact h.elim
 ·obtain⟨B,h⟩:=h;split at h
  ·rename_i c e;exact .inr (.inr ⟨_,_,c,l,g,B,e,k _ _ H (Same.refl H) aH h⟩)
  exact h.elim
 exact h.elim
abbrev TDo:=DE->(Option Int->Prop)->Prop
def z2z(K:W.Frag)(H_:Hp)(t:TDo):TO:=λY H Q=>∃U o,REnv K H_ H Y U o/\∃φ,t U φ/\∀b H',Same H H'->φ b->Q b H'
def EO(G:Hp->Prop)(X:Cx)(e:Option Expr)(t:TDo):Prop:=∀H_:{H:Hp // G H},PO X e (z2z X.K H_.1 t)
def Tq:TDo:=λ_ φ=>φ none
def Xu(t:TD):TDo:=λU φ=>t U λr=>match r.d with
 |.int i=>φ (some i)
 |_=>False
def impO{e:Option Expr}{t t':TO}(h:PO X e t)(i:∀ Y H Q,t' Y H Q->t Y H Q):PO X e t':=λpn s Y H Q I q=>h pn s Y H Q I (i Y H Q q)
def qo:EO M X none Tq:=λH_=>impO E4 λY H Q h=>by
 obtain⟨U,o,R,φ,a,k⟩:=h;exact k none H (Same.refl H) a
def uh(h:ED M X e te):EO M X (some e) (Xu te):=λH_=>impO (E3 (h H_)) λY H Q q=>by
 obtain⟨U,o,R,φ,a,k⟩:=q;refine⟨U,o,R,_,a,λv r H1 g j J=>?_⟩;obtain⟨kd,d⟩:=r;cases d with
 |int i=>exact⟨i,j.view,k _ H1 g J⟩
 |_=>exact J.elim
def cutD(E:List D)(lo hi:Option Int):List D:=(E.drop (ZZ.sIx E.length 0 lo)).take (ZZ.sIx E.length E.length hi-ZZ.sIx E.length 0 lo)
def Xj{K:W.Frag}{H:Hp}{O:List Addr}{Z:List D}{E:List V}(r:Reps K H O Z E)(lo hi:Option Int):Reps K H O (cutD Z lo hi) (cutV E lo hi):=by
 unfold cutD cutV;rw[r.length];exact(r.drop _).take _
def sSl:D->Option Int->Option Int->(EV->Prop)->Prop:=λx lo hi φ=>match x with
 |.lst Z=>φ (df (.lst (cutD Z lo hi)))
 |.scr ns=>φ (df (.lst (cutD (ns.map D.int) lo hi)))
 |.tup Z=>¬ (ZZ.sIx Z.length 0 lo=0/\ZZ.sIx Z.length Z.length hi=Z.length)/\φ (dv (.tup (cutD Z lo hi)))
 |_=>False
def dSl(te:TD)(tl th:TDo):TD:=λU φ=>te U λx=>tl U λl=>th U λu=>sSl x.d l u φ
def u4{lo hi:Option Expr}{tl th:TDo}{p2:Pos}(h1:ED M X e te)(hl:EO M X lo tl)(hu:EO M X hi th):ED M X (.Subscript e (.Slice lo hi none p2) pos) (dSl te tl th):=λH_ =>
 impE (Kh (Fg.or B5) (h1 H_) (hl H_) (hu H_)) λY H Q q=>by
  obtain⟨U,o,R,φ,D,k⟩:=q;refine⟨U,o,R,_,D,λv r H1 B I J=>⟨U,o,R.to B,_,J,λl H2 s2 h2=>⟨U,o,R.to (B.trans s2),_,h2,λu L G x=>?_⟩⟩⟩;have z:=B.trans s2;have g:=z.trans G;have y:=(I.same (s2.trans G)).view;obtain⟨kd,d⟩:=r;cases d with
  |lst Z =>
   obtain⟨a,E,rfl,q,r⟩:=y;refine .inl ⟨a,E,rfl,SqL.of q,λp j=>?_⟩;exact k _ _ _ (g.trans (y4 j _)) (RV.start (b5 (λa e=>R.ofree (g.free e)) j (Xj r l u)) g) x
  |scr ns =>
   obtain⟨a,rfl,q⟩:=y;refine .inl ⟨a,_,rfl,q.seq,λp j=>?_⟩;exact k _ _ _ (g.trans (y4 j _)) (RV.start (b5 (λa e=>R.ofree (g.free e)) j (Xj (zr.ints ns) l u)) g) x
  |tup Z =>
   obtain⟨a,E,rfl,q,r⟩:=y;refine .inr ⟨a,E,rfl,q.1,by rw[r.length];exact x.1,λp j=>?_⟩
   exact k _ _ _ (g.trans (y4 j _)) (RV.start (V2 j (Xj r l u)) g) x.2
  |_=>exact x.elim
end
def xx(r:EV):Prop:=match r.k with
 |.val=>yz r.d
 |.own=>False
 |.fre=>match r.d with
  |.lst Z=>yt Z
  |.dk _ Z=>yt Z
  |_=>False
 |.new=>True
def RV.lift{K:W.Frag}{H0 H:Hp}{O:List Addr}{r:EV}{v:V}(h:RV K H0 H [] r v)(p:xx r)(ho:∀ a,H0 a=none->a∉O):RV K H0 H O r v:=by
 obtain⟨k,d⟩:=r;cases k with
 |val=>exact RepN.pure _ _ p h
 |own=>exact p.elim
 |fre =>
  obtain⟨a,e,m,n,c⟩:=h;refine⟨a,e,m,ho a m,?_⟩;cases d with
  |lst Z=>obtain⟨E,q,r⟩:=c;exact⟨E,q,zr.pure _ _ p r⟩
  |dk ks Z=>obtain⟨E,q,l,g,r⟩:=c;exact⟨E,q,l,g,zr.pure _ _ p r⟩
  |fd m=>exact c
  |_=>exact c.elim
 |new=>exact RepN.to (Same.refl H) (λa z=>⟨ho a z.2,z.2⟩) _ _ h
abbrev FT:=List D->(EV->Prop)->Prop
def spD(K:W.Frag)(n:Nat)(T:FT):Sp:=λvs H Q _=>∃Z φ,Z.length=n/\Reps K H [] Z vs/\T Z φ/\∀v r H',Same H H'->RV K H H' [] r v->xx r->φ r->Q v H'
structure FD(P:Program)(w:World)(K:W.Frag)(mg:Str->Option Value)(base:Heap)(k:Nat)(x:Str)(ps:List Str)(T:FT):Prop where
 ex:∃f fd,FnOk P w K mg base CX0 k f fd ps (spD K ps.length T)/\wq K fd ps []/\W.keepIn K (.ref f)=true/\mg x=some (.ref f)
def Ye(n:Nat)(T:FT)(t:TDs):TD:=λU φ=>t U λa=>Nat.beq a.length n=true/\T (a.map EV.d) φ
section
variable{x:Str}{ps:List Str}{T:FT}{k:Nat}{e:Expr}{es:List Expr}{t:TDs}{p pos:Pos}
def Ni:∀Y H Q,qd X.K H_ (Ye ps.length T t) Y H Q->Cz (spD X.K ps.length T) [] E0 (Ew X.K H_ t) Y H Q:=λY H Q q=>by
 obtain⟨U,o,R,φ,k,kk⟩:=q;refine⟨U,o,R,_,k,λvs u H1 g j J=>?_⟩;show spD X.K ps.length T (vs++[]) H1 Q E0;rw[zaK];refine⟨u.map EV.d,φ,by rw[zLm];exact zcY J.1,j.reps0,J.2,λv r H2 s2 l x h2=>?_⟩
 exact kk v r H2 (g.trans s2) (RV.start (l.lift x λa e=>R.ofree (g.free e)) g) h2
def zu(F:FD X.prog X.w X.K X.mg X.base k x ps T)(hr:Room k X.A)(q:EA M X (e::es) t)(j:Gl X x:=by rfl)(d:D_ x:=by decide)(l:S_ X e es:=by rfl)(a:B_ X es pos:=by rfl):ED M X (.Call (.Name x p) (e::es) [] pos) (Ye ps.length T t):=λH_=>by
 obtain⟨f,fd,ok,b,g,m⟩:=F.ex;exact impE (gl ok hr j m g b .nil gm (q H_) d l a) Ni
def C7(K:W.Frag)(H:Hp)(O:List Addr):List D->List V->Prop
 |[],vs=>vs=[]
 |d::Z,vs=>∃v ws,vs=v::ws/\View K H O d v/\C7 K H O Z ws
theorem RVs.views{K:W.Frag}{H0 H:Hp}{O:List Addr}:∀{rs:List EV}{vs:List V},RVs K H0 H O rs vs->C7 K H O (rs.map EV.d) vs
 |[],_,h=>h
 |r::rs,vs,h=>by
  obtain⟨v,ws,e,q,t⟩:=h;exact⟨v,ws,e,q.view,t.views⟩
def Hc(K:W.Frag)(r:List V->Hp->VK->Prop)(s:FT):Prop :=
 ∀(H:Hp)(O:List Addr)(Z:List D)(vs:List V)(φ:EV->Prop)(Q:VK),(∀a,H a=none->a∉O)->C7 K H O Z vs->s Z φ->(∀v r H',Same H H'->RV K H H' O r v->φ r->Q v H')->r vs H Q
def dCB(s:FT)(t:TDs):TD:=λU φ=>t U λa=>s (a.map EV.d) φ
def Nh{r:List V->Hp->VK->Prop}{s:FT}(hl:Hc X.K r s):∀Y H Q,qd X.K H_ (dCB s t) Y H Q->tCB r (Ew X.K H_ t) Y H Q:=λY H Q q=>by
 obtain⟨U,o,R,φ,j,kk⟩:=q;refine⟨U,o,R,_,j,λvs l H1 d g J=>?_⟩;exact hl H1 _ _ vs φ Q (λa e=>R.ofree (d.free e)) g.views J λv r H2 s2 k h2=>kk v r H2 (d.trans s2) (k.start d) h2
def Wm{id:String}{r:List V->Hp->VK->Prop}{s:FT}(u:qu X (.builtin id) r)(hl:Hc X.K r s)(k:X.mg x=none)(g:bootBuiltins x=some (.builtin id))(v:EA M X (e::es) t)(l:Gl X x:=by rfl)(j:x≠"__name__":=by decide)(d:D_ x:=by decide)(q:S_ X e es:=by rfl)(a:B_ X es pos:=by rfl):ED M X (.Call (.Name x p) (e::es) [] pos) (dCB s t):=λH_ =>
 impE (Km u l k g (v H_) j d q a) (Nh hl)
def qp{T:String}{r:List V->Hp->VK->Prop}{s:FT}(u:qu X (.type T) r)(hl:Hc X.K r s)(k:X.mg x=none)(g:bootBuiltins x=some (.type T))(v:EA M X (e::es) t)(l:Gl X x:=by rfl)(j:x≠"__name__":=by decide)(d:D_ x:=by decide)(q:S_ X e es:=by rfl)(a:B_ X es pos:=by rfl):ED M X (.Call (.Name x p) (e::es) [] pos) (dCB s t):=λH_ =>
 impE (V8 u l k g (v H_) j d q a) (Nh hl)
def sLen:FT:=λZ φ=>match Z with
 |[.lst l]=>φ (dv (.int l.length))
 |[.tup l]=>φ (dv (.int l.length))
 |[.scr l]=>φ (dv (.int l.length))
 |[.str z]=>z.length<=sizeLine/\φ (dv (.int z.length))
 |_=>False
def Ky:Hc X.K (λE H Q=>(∃p ys,E=[.ref p]/\(SqL X.K H p ys\/SqT X.K H p ys)/\Q (.int ys.length) H)\/∃z,E=[.str z]/\z.length<=sizeLine/\Q (.int z.length) H) sLen:=by
 intro H O Z vs φ Q ho d h k;unfold sLen at h;split at h
 ·obtain⟨v,ws,rfl,⟨a,E,rfl,q,r⟩,rfl⟩:=d;refine .inl ⟨a,E,rfl,.inl (SqL.of q),?_⟩;rw[r.length];exact k _ _ H (Same.refl H) aH h
 ·obtain⟨v,ws,rfl,⟨a,E,rfl,q,r⟩,rfl⟩:=d;refine .inl ⟨a,E,rfl,.inr q.1,?_⟩;rw[r.length];exact k _ _ H (Same.refl H) aH h
 ·obtain⟨v,ws,rfl,⟨a,rfl,q⟩,rfl⟩:=d;refine .inl ⟨a,_,rfl,.inl q.seq,?_⟩;rw[zLm];exact k _ _ H (Same.refl H) aH h
 ·obtain⟨v,ws,rfl,e,rfl⟩:=d;cases (show v=_ from e);exact .inr ⟨_,rfl,h.1,k _ _ H (Same.refl H) aH h.2⟩
 exact h.elim
def ue(d:X.mg "len" = none)(k:EA M X (e::es) t)(g:Gl X "len":=by rfl)(j:S_ X e es:=by rfl)(a:B_ X es pos:=by rfl):ED M X (.Call (.Name "len" p) (e::es) [] pos) (dCB sLen t) :=
 Wm (Ut.or Us) Ky d PySem.boot_len k g aB aB j a
end
def EV.sto(r:EV):EV:=⟨match r.k with
 |.fre=>.own
 |.new=>.val
 | k=>k,r.d⟩
def EV.ret(r:EV):EV:=⟨match r.k with
 |.own=>.fre
 | k=>k,r.d⟩
def setS:DE->Nat->EV->DE
 |[],_,_=>[]
 |_::r,0,v=>some v::r
 |x::r,i+1,v=>x::setS r i v
theorem ym:∀(U:DE)(i:Nat)(v:EV),setS U i v=U.set i (some v)
 |[],_,_=>rfl
 |_::_,0,_=>rfl
 |x::r,i+1,v=>by rw[setS,ym r i v,List.set_cons_succ]
def Con1.grow{K:W.Frag}{H H':Hp}{O O':List Addr}{d:D}{a:Addr}(h:Con1 K H O d a)(s:∀ u,H a=some u->H' a=some u)(g:Grow O O' H H'):Con1 K H' O' d a:=by
 cases d with
 |lst Z=>obtain⟨E,q,r⟩:=h;exact⟨E,s _ q,zr.grow g _ _ r⟩
 |dk ks Z=>obtain⟨E,q,l,n,r⟩:=h;exact⟨E,s _ q,l,n,zr.grow g _ _ r⟩
 |fd m=>exact s _ h
 |_=>exact h.elim
def Con1.mtb{K:W.Frag}{H:Hp}{O:List Addr}{d:D}{a:Addr}(h:Con1 K H O d a):(∃u,H a=some u)/\(∀E,H a≠some (.tup E))/\∀ob u,H a≠some (.frz ob u):=by
 cases d with
 |lst Z=>obtain⟨E,q,r⟩:=h;exact⟨⟨_,q⟩,(λE z=>by rw[q]at z;cases z),(λob u z=>by rw[q]at z;cases z)⟩
 |dk ks Z=>obtain⟨E,q,r⟩:=h;exact⟨⟨_,q⟩,(λE z=>by rw[q]at z;cases z),(λob u z=>by rw[q]at z;cases z)⟩
 |fd m=>have q:H a=some (j7 a m):=h;exact⟨⟨_,q⟩,(λE z=>by rw[q]at z;cases z),(λob u z=>by rw[q]at z;cases z)⟩
 |_=>exact h.elim
def REnv.setV(R:REnv K H_ H Y U o)(i:Nat)(h:Rep K H (o.map Prod.snd) d v):REnv K H_ H (Y.set i (some v)) (setS U i (dv d)) o where
 same:=R.same
 fresh:=R.fresh
 trk:=R.trk
 mtb:=R.mtb
 nda:=R.nda
 len:=by rw[ym,zaF,zaF];exact R.len
 slots:=λj r e=>by
  rw[ym]at e;by_cases hj:j=i
  ·subst hj;have hl:j<U.length:=by
    rcases zcX j U.length with z|z
    ·exact z
    rw[zcM (by rw[zaF];exact z)]at e
    cases e
   rw[zaL hl]at e;cases e;exact⟨v,zaL (by rw[R.len];exact hl),.inl ⟨rfl,h⟩⟩
  rw[zaC (Ne.symm hj)]at e;obtain⟨w,a,q⟩:=R.slots j r e;exact⟨w,by rw[zaC (Ne.symm hj)];exact a,q⟩
def REnv.setO(R:REnv K H_ H Y U o)(s:Same H H')(i:Nat)(v:H a=none)(c:Con1 K H' (a::o.map Prod.snd) d a) :
  REnv K H_ H' (Y.set i (some (.ref a))) (setS U i (dO d)) ((i,a)::o)/\Grow (o.map Prod.snd) (((i,a)::o).map Prod.snd) H H':=by
 have g:Grow (o.map Prod.snd) (((i,a)::o).map Prod.snd) H H':=by
  refine⟨λb u h n=>⟨s b u h,λz=>?_⟩,λb E h=>s b _ h,λb ob u h=>s b _ h⟩;rw[zaG]at z;rcases zam.mp z with z|z
  ·exact zl h v z
  exact n z
 refine⟨?_,g⟩;have x:=R.to s;exact {
  same:=x.same
  fresh:=λp l=>by
   rcases zam.mp l with rfl|l
   ·exact R.same.free v
   exact R.fresh p l
  trk:=λp l=>by
   rcases zam.mp l with rfl|l
   ·exact c.mtb.1
   exact x.trk p l
  mtb:=λp l=>by
   rcases zam.mp l with rfl|l
   ·exact c.mtb.2
   exact x.mtb p l
  nda:=by
   rw[zaG,zaR];exact⟨λz=>R.ofree v z,R.nda⟩
  len:=by rw[ym,zaF,zaF];exact R.len
  slots:=λj r e=>by
   rw[ym]at e;by_cases hj:j=i
   ·subst hj;have hl:j<U.length:=by
     rcases zcX j U.length with z|z
     ·exact z
     rw[zcM (by rw[zaF];exact z)]at e
     cases e
    rw[zaL hl]at e;cases e;exact⟨_,zaL (by rw[R.len];exact hl),.inr ⟨rfl,a,rfl,zao ..,c⟩⟩
   rw[zaC (Ne.symm hj)]at e;obtain⟨w,y,q⟩:=R.slots j r e;refine⟨w,by rw[zaC (Ne.symm hj)];exact y,?_⟩
   rcases q with⟨k,q⟩|⟨k,a',e1,m,B⟩
   ·exact .inl ⟨k,RepN.grow g _ _ q⟩
   exact .inr ⟨k,a',e1,zal _ m,B.grow (λu q=>s _ _ q) g⟩}
def REnv.put(R:REnv K H_ H Y U o)(s:Same H H')(i:Nat)(h:RV K H H' (o.map Prod.snd) r v)(e:r.k≠.own) :
  ∃o',REnv K H_ H' (Y.set i (some v)) (setS U i r.sto) o'/\Grow (o.map Prod.snd) (o'.map Prod.snd) H H':=by
 obtain⟨k,d⟩:=r;cases k with
 |val=>exact⟨_,(R.to s).setV i h,Grow.same s⟩
 |own=>exact absurd rfl e
 |fre =>
  obtain⟨a,rfl,m,n,c⟩:=h;exact⟨_,R.setO s i m c⟩
 |new=>exact⟨_,(R.to s).setV i (RepN.rep (λa z=>z.1) _ _ h),Grow.same s⟩
theorem W4:∀{o:List (Nat×Addr)},(o.map Prod.snd).Nodup->∀{p q:Nat×Addr},p∈o->q∈o->p.2=q.2->p=q
 |[],_,_,_,h,_,_=>nomatch h
 |x::o,nd,p,q,hp,hq,e=>by
  rw[zaG,zaR]at nd;rcases zam.mp hp with J|hp
  ·rcases zam.mp hq with h2|hq
   ·rw[J,h2]
   exact absurd (zah.mpr ⟨q,hq,by rw[<- e,J]⟩) nd.1
  rcases zam.mp hq with h2|hq
  ·exact absurd (zah.mpr ⟨p,hp,by rw[e,h2]⟩) nd.1
  exact W4 nd.2 hp hq e
def REnv.chg(R:REnv K H_ H Y U o){i:Nat}{a:Addr}{d d':D}{ho:HO}(L:U[i]?=some (some (dO d)))(y:Y[i]?=some (some (.ref a)))(l:(i,a)∈o)(x:(∀ E,ho≠.tup E)/\∀ ob u,ho≠.frz ob u)(c:(∀ Z E,Reps K H (o.map Prod.snd) Z E->Reps K (upd H a ho) (o.map Prod.snd) Z E)->Con1 K (upd H a ho) (o.map Prod.snd) d' a) :
  REnv K H_ (upd H a ho) Y (setS U i (dO d')) o/\Grow (o.map Prod.snd) (o.map Prod.snd) H (upd H a ho):=by
 have M:a∈o.map Prod.snd:=zah.mpr ⟨_,l,rfl⟩;obtain⟨m1,m2⟩:=R.mtb _ l;have g:Grow (o.map Prod.snd) (o.map Prod.snd) H (upd H a ho) :=
  ⟨λb u h n=>⟨by rw[zj (show b≠a from λz=>n (by rw[z];exact M))];exact h,n⟩,λb E h=>by rw[zj (show b≠a from λz=>m1 E (by rw[<- z];exact h))];exact h,λb ob u h=>by rw[zj (show b≠a from λz=>m2 ob u (by rw[<- z];exact h))];exact h⟩
 refine⟨?_,g⟩;exact {
  same:=λb u h=>by
   have:b≠a:=λz=>by
    have:=R.fresh _ l;rw[<- z,h]at this;cases this
   rw[zj this];exact R.same b u h
  fresh:=R.fresh
  trk:=λp B=>by
   by_cases e:p.2=a
   ·exact⟨ho,by rw[e];exact zm⟩
   rw[zj e];exact R.trk p B
  mtb:=λp B=>by
   by_cases e:p.2=a
   ·rw[e,zm];exact⟨λE z=>x.1 E (zaT z),λob u z=>x.2 ob u (zaT z)⟩
   rw[zj e];exact R.mtb p B
  nda:=R.nda
  len:=by rw[ym,zaF];exact R.len
  slots:=λj r e=>by
   rw[ym]at e;by_cases hj:j=i
   ·subst hj;have hl:j<U.length:=(zag.mp L).1;rw[zaL hl]at e;cases e;obtain⟨v,h1,q⟩:=R.slots j _ L;rcases q with⟨k,_⟩|⟨_,a',e1,m',_⟩
    ·cases k
    have I:a'=a:=by
     rw[y]at h1;cases h1;cases e1;rfl
    subst I;exact⟨v,h1,.inr ⟨rfl,a',e1,l,c λZ E q=>zr.grow g _ _ q⟩⟩
   rw[zaC (Ne.symm hj)]at e;obtain⟨w,N,q⟩:=R.slots j r e;refine⟨w,N,?_⟩;rcases q with⟨k,q⟩|⟨k,a',e1,m',O⟩
   ·exact .inl ⟨k,RepN.grow g _ _ q⟩
   refine .inr ⟨k,a',e1,m',O.grow (λu q=>?_) g⟩;have G:a'≠a:=λz=>by
    exact hj (zbZ Prod.fst (W4 R.nda m' l z))
   rw[zj G];exact q}
section
variable{st:Stmt}{rest:List Stmt}{t u:TDS}{e:Expr}{te:TD}{tc:TDb}{pos:Pos}
def sNil:TDS:=λU ds=>ds.nx U
def sSeq(t u:TDS):TDS:=λU ds=>t U {ds with nx:=λρ'=>u ρ' ds}
def x5:SDs M X [] sNil:=λH_=>gx bh λD Y H h=>by
 obtain⟨U,o,R,ds,d,a,_⟩:=h;exact a U Y H o Grow.refl R d
def zh(J:SD M X st t)(h2:SDs M X rest u):SDs M X (st::rest) (sSeq t u):=λH_=>gx (wc (J H_) (h2 H_)) λD Y H h=>by
 obtain⟨U,o,R,ds,v,r,l,k,j⟩:=h;refine⟨U,o,R,_,v,λρ' σ' H' o' g x q=>?_,l,k,j⟩;exact⟨ρ',o',x,ds,q,λd a H2 o2 g2 R2 e=>r d a H2 o2 (g.trans g2) R2 e,λd a H2 o2 g2 R2 e=>l d a H2 o2 (g.trans g2) R2 e,λd a H2 o2 g2 R2 e=>k d a H2 o2 (g.trans g2) R2 e,j⟩
def y0(J:SD M X st t):SDs M X [st] t:=λH_=>sj (J H_)
def Ly:SD M X st (λ_ _=>False):=λH_=>impS Kb λD Y H h=>by
 obtain⟨_,_,_,_,a,_⟩:=h;exact a.elim
def sRet(te:TD):TDS:=λU ds=>te U λr=>ds.rt r.ret
theorem RV.ret{K:W.Frag}{H_ H H':Hp}{Y:St}{U:DE}{o:List (Nat×Addr)}(R:REnv K H_ H Y U o){r:EV}{v:V}(h:RV K H H' (o.map Prod.snd) r v):RV K H_ H' [] r.ret v:=by
 obtain⟨k,d⟩:=r;cases k with
 |val=>exact RepN.sub (O':=[]) (λ_ z=>absurd z aE) _ _ h
 |own =>
  obtain⟨a,e,m,c⟩:=h;obtain⟨p,j,ep⟩:=zah.mp m;subst ep;exact⟨p.2,e,R.fresh p j,by simp,c.sub λb g=>by
   have:b=p.2:=by simpa using g
   rw[this];exact m⟩
 |fre =>
  obtain⟨a,e,m,n,c⟩:=h;exact⟨a,e,R.same.free m,by simp,c.sub λb g=>by
   have:b=a:=by simpa using g
   rw[this];exact zao ..⟩
 |new=>exact RepN.to (Same.refl H') (λa z=>⟨by simp,R.same.free z.2⟩) _ _ h
def y9(j:ED M X e te):SD M X (.Return (some e) pos) (sRet te):=λH_=>impS (j9 (j H_)) λD Y H h=>by
 obtain⟨U,o,R,ds,k,u,q,l,g⟩:=h;refine⟨U,o,R,_,k,λv r H1 a d J=>?_⟩;exact g v r.ret H1 (R.same.trans a) (RV.ret R d) J
def sIf(tc:TDb)(t u:TDS):TDS:=λU ds=>tc U λc=>(c=true->t U ds)/\(c=false->u U ds)
def wr{c:Expr}{a b:List Stmt}(z:ET M X c tc)(G:SDs M X a t)(B:SDs M X b u):SD M X (.If c a b pos) (sIf tc t u):=λH_=>impS (Ov (z H_) (G H_) (B H_)) λD Y H h=>by
 obtain⟨U,o,R,ds,I,x,r,q,l⟩:=h;refine⟨U,o,R,_,I,λc H1 k J=>?_⟩;have g:Grow (o.map Prod.snd) (o.map Prod.snd) H H1:=Grow.same k;have kk:∀{v:TDS},v U ds->Nj X.K H_.1 v D Y H1:=λy=>⟨U,o,R.to k,ds,y,λe d H2 o2 g2 R2 j=>x e d H2 o2 (g.trans g2) R2 j,λe d H2 o2 g2 R2 j=>r e d H2 o2 (g.trans g2) R2 j,λe d H2 o2 g2 R2 j=>q e d H2 o2 (g.trans g2) R2 j,l⟩;cases c with
 |true=>exact iteT (kk (J.1 rfl))
 |false=>exact iteF (kk (J.2 rfl))
def sCut(t:TDS):TDS:=λU ds=>∃h1:DE->Prop,t U {ds with nx:=h1}/\∀ρ',h1 ρ'->ds.nx ρ'
def tu(h:SD M X st t):SD M X st (sCut t):=λH_=>impS (h H_) λD Y H h=>by
 obtain⟨U,o,R,ds,⟨h1,q,r⟩,l,k,j,g⟩:=h;exact⟨U,o,R,_,q,λa d H2 o2 g2 R2 e=>l a d H2 o2 g2 R2 (r a e),k,j,g⟩
def sSet(i:Nat)(te:TD):TDS:=λU ds=>te U λr=>(match r.k with|.own=>False|_=>True)/\ds.nx (setS U i r.sto)
def u6{r:EV}(h:match r.k with|.own=>False|_=>True):r.k≠.own:=by
 obtain⟨k,d⟩:=r;cases k with
 |own=>exact h.elim
 |val=>exact λz=>nomatch z
 |fre=>exact λz=>nomatch z
 |new=>exact λz=>nomatch z
def zy(i:Nat){x:Str}(z:X.N.Nodup)(u:ED M X e te)(hi:X.N[i]?=some x:=by rfl)(k:Loc X.env.scope x:=by first|exact zeJ rfl|exact zdJ rfl)(l:swapsWith e (some (.Name x pos')) pos.line X.env=pure false:=by rfl)(q:X.fn x=true\/X.env.scope.names.lookup x=some .local:=by first|exact .inl rfl|exact .inr rfl|assumption):SD M X (.Assign [.Name x pos'] e pos) (sSet i te):=λH_=>impS (d9 z hi k (u H_) l q) λD Y H h=>by
 obtain⟨U,o,R,ds,y,j,h1,I,G⟩:=h;refine⟨U,o,R,_,y,λv r H1 a d J=>?_⟩;obtain⟨o',B,g⟩:=R.put a i d (u6 J.1);exact j _ _ H1 o' g B J.2
abbrev TGD:=D->DE->(DE->Prop)->Prop
def d5(K:W.Frag)(g2:TG)(g:TGD):Prop:=∀(H_ H:Hp)(Y:St)(U:DE)(o:List (Nat×Addr))(d:D)(v:V)(L:DE->Prop)(Q:St->Hp->Prop),REnv K H_ H Y U o->Rep K H (o.map Prod.snd) d v->g d U L ->
 (∀ρ' σ',REnv K H_ H σ' ρ' o->L ρ'->Q σ' H)->g2 v Y H Q
def gN(i:Nat):TGD:=λd U L=>L (setS U i (dv d))
def x3{K:W.Frag}(i:Nat):d5 K (sn i) (gN i):=λH_ H Y U o d v L Q R h a k=>k _ _ (R.setV i h) a
def gT2(i j:Nat):TGD:=λd U L=>match d with
 |.tup [a,b]=>L (setS (setS U i (dv a)) j (dv b))
 |_=>False
def uz{K:W.Frag}(i j:Nat):d5 K (gTup K 2 (jg (sn i) (jg (sn j) gNil))) (gT2 i j):=λH_ H Y U o d v L Q R h e k=>by
 unfold gT2 at e;split at e
 ·rename_i a b;obtain⟨p,E,rfl,q,r⟩:=h;obtain⟨g,r1,rfl,J,v2,r2,rfl,h2,rfl⟩:=r;refine⟨p,_,rfl,q.1,rfl,g,_,rfl,v2,_,rfl,rfl,?_⟩;have l:=R.setV i J;have R2:=l.setV j h2;exact k _ _ R2 e
 exact e.elim
def sUn(te:TD)(g:TGD):TDS:=λU ds=>te U λr=>(match r.k with|.own=>False|_=>True)/\g r.d U ds.nx
def B6{tg:Expr}{g2:TG}(y:ED M X e te)(x:PG X tg g2)(hl:d5 X.K g2 g)(u:swapsWithSole [tg] e pos.line X.env=pure false:=by rfl)(l:swappedStores [tg] e X.env=pure none:=by rfl)(J:(assignEach [tg] X.env).map (·.2)=[assign tg X.env]:=by rfl):SD M X (.Assign [tg] e pos) (sUn te g):=λH_=>impS (Bs (y H_) x u l J) λD Y H h=>by
 obtain⟨U,o,R,ds,z,k,h1,I,G⟩:=h;refine⟨U,o,R,_,z,λv r H1 a j J=>?_⟩;exact hl H_.1 H1 Y U o r.d v _ _ (R.to a) (j.solid (u6 J.1)) J.2 λρ' σ' B q=>k ρ' σ' H1 o (Grow.same a) B q
structure ItD(K:W.Frag)(h1:It)(Z:List D)(P:Hp->List Addr->Prop):Prop where
 go:∀(H:Hp)(O:List Addr)(i:Nat)(d:D),P H O->Z[i]?=some d->h1.go i H/\∀x H',h1.yld i H x H'->Same H H'/\Rep K H' O d x
 stop:∀(H:Hp)(O:List Addr),P H O->h1.stop Z.length H
 keep:∀(O O':List Addr)(H H':Hp),P H O->Grow O O' H H'->P H' O'
abbrev TID:=DE->(List D->Prop)->Prop
def Pi(K:W.Frag)(H_:Hp)(t:TID):TI:=λY H R=>∃U o,REnv K H_ H Y U o/\∃φ,t U φ/\∀h1 Z P H',Same H H'->ItD K h1 Z P->P H' (o.map Prod.snd)->φ Z->R h1 H'
def EI(G:Hp->Prop)(X:Cx)(tg iter:Expr)(t:TID):Prop:=∀H_:{H:Hp // G H},PI X tg iter (Pi X.K H_.1 t)
def sFor(ti:TID)(g:TGD)(tb:TDS):TDS:=λU ds=>ti U λZ=>∃P:Nat->DE->Prop,P 0 U/\(∀i d U,Z[i]?=some d->P i U->g d U λρ'=>tb ρ' {ds with nx:=P (i+1),ct:=P (i+1),bk:=ds.nx})/\∀U,P Z.length U->ds.nx U
def rj{tg iter:Expr}{g2:TG}(hi:EI M X tg iter ti)(hg:PG X tg g2)(hl:d5 X.K g2 g)(hb:SDs M X body tb)(hc:X.calm=true:=by rfl)(hp:PassesOwn (model X.prog X.w) X.A X.env X.xe:=by exact PassesOwn.never)(hs:∀ x,foldedSetIterable iter X.env x=pure x:=by intro _;rfl):SD M X (.For tg iter body [] pos) (sFor ti g tb):=λH_=>impS (Ow hp hc (hi H_) hg (hb H_) hs) λD Y H h=>by
 obtain⟨U,o,R,ds,hZ,W,k2,k3,k4⟩:=h;refine⟨U,o,R,_,hZ,λh1 Z PJ H1 Q I hP Zh=>?_⟩;obtain⟨P,p0,l,N⟩:=Zh;refine⟨λi m σ' H'=>m=Z.length-i/\i<=Z.length/\∃ρ' o',Grow (o.map Prod.snd) (o'.map Prod.snd) H1 H'/\REnv X.K H_ H' σ' ρ' o'/\P i ρ',⟨_,rfl,zbG _,U,o,Grow.refl,R.to Q,p0⟩,?_⟩;rintro i m σ' H' ⟨rfl,a3,ρ',o',g',R',V⟩;have u:=I.keep _ _ _ _ hP g';have gg:Grow (o.map Prod.snd) (o'.map Prod.snd) H H':=(Grow.same Q).trans g';by_cases hlt:i<Z.length
 ·have ed:Z[i]?=some Z[i]:=by simp[hlt]
  obtain⟨j1,j2⟩:=I.go H' _ i _ u ed;refine .inr ⟨j1,λk H2=>∃d o2,Grow (o.map Prod.snd) (o2.map Prod.snd) H1 H2/\REnv X.K H_ H2 k d o2/\P (i+1) d,λk H2 ⟨d,o2,g2,R2,p2⟩=>⟨_,(by omega:Z.length-(i+1)<Z.length-i),rfl,hlt,d,o2,g2,R2,p2⟩,λx H2 y=>?_⟩
  obtain⟨s2,rp⟩:=j2 x H2 y;refine hl H_.1 H2 σ' ρ' o' _ x _ _ (R'.to s2) rp (l i _ ρ' ed V) λG a0 R3 q3=>?_;have z:Grow (o.map Prod.snd) (o'.map Prod.snd) H1 H2:=g'.trans (Grow.same s2);have L:Grow (o.map Prod.snd) (o'.map Prod.snd) H H2:=gg.trans (Grow.same s2);exact⟨G,o',R3,_,q3,λa j O r v B q=>⟨a,r,z.trans v,B,q⟩,λa j O r v B q=>W a j O r (L.trans v) B q,λa j O r v B q=>⟨a,r,z.trans v,B,q⟩,k4⟩
 have e:i=Z.length:=by omega
 subst e;exact .inl ⟨I.stop H' _ u,W ρ' σ' H' o' gg R' (N ρ' V)⟩
end
section
variable{tg e:Expr}{te:TD}{t:TDs}{pos:Pos}
def impI{t t':TI}(h:PI X tg iter t)(i:∀ Y H R,t' Y H R->t Y H R):PI X tg iter t':=λpn s Y H R I q=>h pn s Y H R I (i Y H R q)
def PV(X:Cx)(tg:Expr)(r:V->Hp->(It->Hp->Prop)->Prop):Prop :=
 ∀(pn:List (Addr×Obj))(s:Shared)(Y:St)(H:Hp)(x:V)(v:Value)(R:It->Hp->Prop),Inv X pn Y H s->RelV x v->r x H R->wpAny (model X.prog X.w) X.A (pyIter v) (PIE X pn Y tg R) X.xe s
def By{l:Expr}{r:V->Hp->(It->Hp->Prop)->Prop}(hl:PE X l tl)(e:PV X tg r):PI X tg l (λY H R=>tl Y H λx H1=>r x H1 R):=λpn s Y H R I h =>
 thn (hl pn s Y H _ I h) λv a ⟨x,H1,g,r1,d⟩=>e pn a Y H1 x v R g r1 d
def Fz:PV X tg (λx H R=>∃a,x=.ref a/\(∃E,SqL X.K H a E)/\R (Itl X.K a) H):=by
 intro pn d Y H1 x v R g r1 j;obtain⟨a,e,⟨E,k⟩,q⟩:=j;subst e;cases r1;obtain⟨its,r,p,u⟩:=g.list k;refine zdH p.isList ?_;refine⟨d.heap.objs.size,[d.heap.objs.size],_,_,H1,rfl,g.kept (t':=d.toks) λb o e=>zac _ e,O4 a _,⟨_,zad _ rfl,rfl,rfl⟩,λb l=>?_,q⟩;have e:b=d.heap.objs.size:=by simpa using l
 subst e;exact g.fpOk (zaj _) (g.hok.fresh (zaj _))
def Hu:PV X tg (λx H R=>∃a,x=.ref a/\(∃E,SqT X.K H a E)/\R (Itt X.K a) H):=by
 intro pn d Y H1 x v R g r1 j;obtain⟨a,e,⟨E,k⟩,q⟩:=j;subst e;cases r1;obtain⟨its,r,p,u⟩:=g.tuple k;refine zcP (show d.heap.IsTuple a its.toArray from p) ?_;refine⟨d.heap.objs.size,[d.heap.objs.size],_,_,H1,rfl,g.kept (t':=d.toks) λb o e=>zac _ e,P1 a _,⟨_,zad _ rfl,rfl,rfl⟩,λb l=>?_,q⟩;have e:b=d.heap.objs.size:=by simpa using l
 subst e;exact g.fpOk (zaj _) (g.hok.fresh (zaj _))
def Bp:PV X tg (λx H R=>∃z,x=.str z/\R (Itv z.cps.size (C8 z)) H):=by
 intro pn a Y H1 x v R g r1 j;obtain⟨z,e,q⟩:=j;subst e;obtain⟨t,rfl⟩:=r1;have lay:∀(T:String),(∀A:Around,A.handled=none->Walks X.prog X.w A a.heap.objs.size [a.heap.objs.size] [a.heap.objs.size] z.cps.size (SignAt z) (λi h=>h.IsStrIter a.heap.objs.size T z t i)) ->
   (∀(A:Around)(i:Nat)(s:Shared)(Q:Value->Shared->Prop)(xs:Value->Shared->Prop),s.heap.IsStrIter a.heap.objs.size T z t i->Q (.ref a.heap.objs.size) s->wpAny (model X.prog X.w) A (pyIter (.ref a.heap.objs.size)) Q xs s) ->
   ["enumerate","zip","dict_itemiterator","dict_reverseitemiterator","odict_iterator","itertools.zip_longest","itertools.pairwise"].contains T=false ->
   PIE X pn Y tg R (.ref a.heap.objs.size) {a with heap:=a.heap.push {cls:=.type T,data:=.fields #[.str z t,.int 0 0]}}:=λT W k hT=>by
  have r:Inv X pn Y H1 {a with heap:=a.heap.push {cls:=.type T,data:=.fields #[.str z t,.int 0 0]}}:=g.kept (t':=a.toks) λb u e=>zac _ e;refine⟨a.heap.objs.size,[a.heap.objs.size],_,_,H1,rfl,r,Lm W k hT,⟨_,zad _ rfl,rfl,rfl⟩,λb l=>?_,q⟩;have e:b=a.heap.objs.size:=by simpa using l
  subst e;exact g.fpOk (zaj _) g.fresh
 cases ha:z.cps.all (·<128)
 ·exact wpAny_pyIter_wide ha (lay "str_iterator" (λA d=>Walks.strWide d _ z t) (λA i s Q xs st q=>wpAny_pyIter_striter_wide st q) aB)
 exact wpAny_pyIter_ascii ha (lay "str_ascii_iterator" (λA d=>Walks.strAscii d _ z t) (λA i s Q xs st q=>wpAny_pyIter_striter_ascii st q) aB)
def Vo:D->Option (List D)
 |.lst Z=>some Z
 |.tup Z=>some Z
 |.scr ns=>some (ns.map D.int)
 |.str z=>some (z.cps.toList.map λc=>D.str ⟨#[c]⟩)
 |_=>none
def iSeq(te:TD):TID:=λU φ=>te U λr=>(match r.k with|.own=>False|_=>True)/\match Vo r.d with
 |some Z=>φ Z
 |none=>False
def z0n{K:W.Frag}{a:Addr}{Z:List D}:ItD K (Itl K a) Z (λH O=>∃E,H a=some (.lst E)/\a∉O/\Reps K H O Z E) where
 go:=λH O i d ⟨E,q,n,r⟩ e=>by
  obtain⟨v,j,k⟩:=r.get e;refine⟨⟨E,v,SqL.of q,j⟩,λx H' y=>?_⟩;obtain⟨e1,y⟩:=y;subst e1;have:=y E (SqL.of q);rw[j]at this;cases this;exact⟨Same.refl _,k⟩
 stop:=λH O ⟨E,q,n,r⟩=>⟨E,SqL.of q,by rw[r.length];exact zaj _⟩
 keep:=λO O' H H' ⟨E,q,n,r⟩ g=>⟨E,(g.keep _ _ q n).1,(g.keep _ _ q n).2,zr.grow g _ _ r⟩
def Gb{K:W.Frag}{a:Addr}{Z:List D}:ItD K (Itt K a) Z (λH O=>∃E,SqT K H a E/\Reps K H O Z E) where
 go:=λH O i d ⟨E,q,r⟩ e=>by
  obtain⟨v,j,k⟩:=r.get e;refine⟨⟨E,v,q,j⟩,λx H' y=>?_⟩;obtain⟨e1,y⟩:=y;subst e1;have:=y E q;rw[j]at this;cases this;exact⟨Same.refl _,k⟩
 stop:=λH O ⟨E,q,r⟩=>⟨E,q,by rw[r.length];exact zaj _⟩
 keep:=λO O' H H' ⟨E,q,r⟩ g=>⟨E,Oa g.tups g.frzs q,zr.grow g _ _ r⟩
def z0l{K:W.Frag}{a:Addr}{ns:List Int}:ItD K (Itl K a) (ns.map D.int) (λH _=>Scr K H a ns) where
 go:=λH O i d q e=>by
  rw[zai]at e;cases en:ns[i]? with
  |none=>rw[en]at e;cases e
  |some n =>
   rw[en]at e;cases e;have j:(ns.map V.int)[i]?=some (.int n):=by rw[zai,en];rfl
   refine⟨⟨_,_,q.seq,j⟩,λx H' y=>?_⟩;obtain⟨e1,y⟩:=y;subst e1;have:=y _ q.seq;rw[j]at this;cases this;exact⟨Same.refl _,rfl⟩
 stop:=λH O q=>⟨_,q.seq,by rw[zLm,zLm];exact zaj _⟩
 keep:=λO O' H H' q g=>Ri g.frzs q
def z0k{K:W.Frag}{z:Str}:ItD K (Itv z.cps.size (C8 z)) (z.cps.toList.map λc=>D.str ⟨#[c]⟩) (λ_ _=>True) where
 go:=λH O i d _ e=>by
  rw[zai]at e;cases en:z.cps.toList[i]? with
  |none=>rw[en]at e;cases e
  |some n =>
   rw[en]at e;cases e;have hl:=(zag.mp en).1;refine⟨(show i<z.cps.size by simpa using hl),λx H' y=>?_⟩
   obtain⟨e1,c,a,ex⟩:=y;subst e1 ex;have:z.cps.toList[i]?=some c:=by rw[zfK];exact a
   rw[en]at this;cases this;exact⟨Same.refl _,rfl⟩
 stop:=λH O _=>by show _=_;simp
 keep:=λ_ _ _ _ _ _=>trivial
def rngD(lo:Int)(n:Nat):List D:=(List.range n).map λ(i:Nat)=>D.int (lo+(i:Int))
def z0m{K:W.Frag}{lo:Int}{n:Nat}:ItD K (Itr lo n) (rngD lo n) (λ_ _=>True) where
 go:=λH O i d _ e=>by
  unfold rngD at e;rw[zai]at e;cases en:(List.range n)[i]? with
  |none=>rw[en]at e;cases e
  |some m =>
   rw[en]at e;cases e;have hl:=(zag.mp en).1;rw[zfH]at hl;have:m=i:=by
    rw[List.getElem?_range hl]at en;exact(zaT en).symm
   subst this;refine⟨hl,λx H' y=>?_⟩;obtain⟨e1,ex⟩:=y;subst e1 ex;exact⟨Same.refl _,rfl⟩
 stop:=λH O _=>by show n<=_;unfold rngD;simp
 keep:=λ_ _ _ _ _ _=>trivial
def PV.or{r d:V->Hp->(It->Hp->Prop)->Prop}(h:PV X tg r)(h':PV X tg d):PV X tg (λx H R=>r x H R\/d x H R):=λpn s Y H x v R I a q=>q.elim (h pn s Y H x v R I a) (h' pn s Y H x v R I a)
def xu(u:ED M X e te):EI M X tg e (iSeq te):=λH_=>impI (By (u H_) (Fz.or (Hu.or Bp))) λY H R q=>by
 obtain⟨U,o,y,φ,j,k⟩:=q;refine⟨U,o,y,_,j,λv r H1 g l J=>?_⟩;obtain⟨x,J⟩:=J;have rp:=l.solid (u6 x);obtain⟨kd,d⟩:=r;cases d with
 |lst Z =>
  obtain⟨a,E,rfl,q,n,r⟩:=rp;exact .inl ⟨a,rfl,⟨E,SqL.of q⟩,k _ _ _ H1 g z0n ⟨E,q,n,r⟩ J⟩
 |tup Z =>
  obtain⟨a,E,rfl,q,r⟩:=rp;exact .inr (.inl ⟨a,rfl,⟨E,q.1⟩,k _ _ _ H1 g Gb ⟨E,q.1,r⟩ J⟩)
 |scr ns =>
  obtain⟨a,rfl,q⟩:=rp;exact .inl ⟨a,rfl,⟨_,q.seq⟩,k _ _ _ H1 g z0l q J⟩
 |str z =>
  cases (show v=_ from rp)
  exact .inr (.inr ⟨z,rfl,k _ _ _ H1 g z0k trivial J⟩)
 |_=>exact J.elim
def iR1(t:TDs):TID:=λU φ=>t U λa=>match a with
 |[⟨_,.int j⟩]=>-(2 ^ 62)<=j/\j<2 ^ 62/\φ (rngD 0 j.toNat)
 |_=>False
def ub{a:Expr}(u:X.mg "range" = none)(y:EA M X [a] t)(x:Gl X "range":=by rfl)(r:starEach [a] X.env=[(false,eval a X.env)]:=by rfl):EI M X tg (.Call (.Name "range" p) [a] [] pos) (iR1 t):=λH_=>impI (N0 x u (y H_) r) λY H R q=>by
 obtain⟨U,o,z,φ,e,k⟩:=q;refine⟨U,o,z,_,e,λvs B H1 g d J=>?_⟩;split at J
 ·rename_i kd j;obtain⟨v,ws,rfl,l,rfl⟩:=d;cases (show v=_ from l.view);exact⟨j,rfl,J.1,J.2.1,k _ _ _ H1 g z0m trivial J.2.2⟩
 exact J.elim
end
section
variable{scope:Scope}{T F:List Str}{js:List Nat}{tg iter elt:Expr}{ifs:List Expr}{pos:Pos}{ti:TID}{g2:TG}{g:TGD}{tc:TDb}{te:TD}
def ρ0(n:Nat)(js:List Nat)(U:DE):DE:=List.replicate n none++js.map λj=>slot U j
def ixO(n:Nat)(js:List Nat)(j:Nat):Nat:=if j∈js then n+js.idxOf j else n+js.length+1+j
theorem qx:∀{U:DE}{i:Nat}{r:EV},slot U i=some r ↔ U[i]?=some (some r)
 |[],_,_=>by simp[slot]
 |x::_,0,_=>by simp[slot]
 |_::l,i+1,r=>by rw[slot,zdW];exact qx (U:=l)
def Yo{K:W.Frag}{H_ H H':Hp}{Y:St}{U:DE}{o:List (Nat×Addr)}{n:Nat}{js:List Nat}{D:Addr}{ys:List V}(R:REnv K H_ H Y U o)(M:js.Nodup)(G:H D=none)(s:Same H H')(x:H' D=some (.lst ys))(L:List Str)(hT:L.length=n) :
  REnv K H_ H' (st0 L js Y) (ρ0 n js U) ((n+js.length,D)::o.map λp=>(ixO n js p.1,p.2)):=by
 have h1:((n+js.length,D)::o.map λp=>(ixO n js p.1,p.2)).map Prod.snd=D::o.map Prod.snd:=by
  rw[zaG,zaZ];rfl
 have g:Grow (o.map Prod.snd) (D::o.map Prod.snd) H H':=⟨λb u h N=>⟨s b u h,λz=>(zam.mp z).elim (λe=>zl h G e) N⟩,λb E h=>s b _ h,λb ob u h=>s b _ h⟩;have I:=R.to s;exact {
  same:=I.same
  fresh:=λp d=>by
   rcases zam.mp d with rfl|d
   ·exact R.same.free G
   obtain⟨q,y,rfl⟩:=zah.mp d;exact R.fresh q y
  trk:=λp d=>by
   rcases zam.mp d with rfl|d
   ·exact⟨_,x⟩
   obtain⟨q,y,rfl⟩:=zah.mp d;exact I.trk q y
  mtb:=λp d=>by
   rcases zam.mp d with rfl|d
   ·exact⟨(λE z=>by rw[x]at z;cases z),(λob u z=>by rw[x]at z;cases z)⟩
   obtain⟨q,y,rfl⟩:=zah.mp d;exact I.mtb q y
  nda:=by
   rw[h1,zaR];exact⟨R.ofree G,R.nda⟩
  len:=by
   unfold st0 ρ0;simp[hT]
  slots:=λi r e=>by
   rw[h1];unfold ρ0 at e;have hi:n<=i:=by
    rcases zcX i n with z|z
    ·rw[zbF (by simpa using z),zbO]at e
     split at e <;> cases e
    exact z
   rw[zbD (by simpa using hi),zbH,zai]at e
   cases ej:js[i-n]? with
   |none=>rw[ej]at e;cases e
   |some j =>
    rw[ej]at e;have Q:slot U j=some r:=zaT e;obtain⟨v,O,q⟩:=R.slots j r (si Q);refine⟨v,?_,?_⟩
    ·unfold st0;rw[zbD (by simpa [hT] using hi),zbH,zai,hT,ej]
     show some ((Y[j]?).join)=_;rw[O];rfl
    rcases q with⟨k,q⟩|⟨k,a,e1,m,c⟩
    ·exact .inl ⟨k,RepN.grow g _ _ q⟩
    refine .inr ⟨k,a,e1,zal _ (zah.mpr ⟨_,m,?_⟩),c.grow (λu q=>s _ _ q) g⟩;have l:j∈js:=zan ej;have B:js.idxOf j=i-n:=by
     have J:=(zag.mp ej);have h2:=List.getElem_idxOf (List.idxOf_lt_length_iff.mpr l);exact(zeN M).mp (h2.trans J.2.symm)
    show(ixO n js j,a)=(i,a);unfold ixO;rw[zaM l,B]
    congr 1
    omega}
def bYes:TDb:=λ_ φ=>φ true
def Pp(ti:TID)(n:Nat)(js:List Nat)(g:TGD)(tc:TDb)(te:TD):TD:=λU φ=>ti U λZ=>∃f:D->Option D,Z.length<=100000 /\
 (∀d∈Z,g d (ρ0 n js U) λρ'=>tc ρ' λc=>(c=true->te ρ' λr=>(match r.k with|.own=>False|_=>True)/\f d=some r.d)/\(c=false->f d=none))/\φ (df (.lst (Z.filterMap f)))
def EIf(G:Hp->Prop)(X:Cx)(ifs:List Expr)(t:TDb):Prop:=∀H_:{H:Hp // G H},PIf X ifs (bw X.K H_.1 t)
def w5:EIf M X [] bYes:=λH_ pn s Y H Q I h=>by
 obtain⟨U,o,R,φ,a,k⟩:=h;exact Th pn s Y H Q I (k true H (Same.refl H) a)
def Zg{c:Expr}(h:ET M X c tc):EIf M X [c] tc:=λH_=>E5 (h H_)
def RV.anew{K:W.Frag}{H0 H:Hp}{O:List Addr}{r:EV}{v:V}(h:RV K H0 H O r v)(p:xx r):RepN K H (λa=>a∉O/\H0 a=none) r.d v:=by
 obtain⟨k,d⟩:=r;cases k with
 |val=>exact RepN.toN _ _ p h
 |own=>exact p.elim
 |new=>exact h
 |fre =>
  obtain⟨a,rfl,m,n,c⟩:=h;cases d with
  |lst Z=>obtain⟨E,q,r⟩:=c;exact⟨a,E,rfl,q,⟨n,m⟩,zr.toN _ _ p r⟩
  |dk ks Z=>obtain⟨E,q,l,e,r⟩:=c;exact⟨a,E,rfl,q,⟨n,m⟩,l,e,zr.toN _ _ p r⟩
  |fd m'=>exact⟨a,rfl,c,n,m⟩
  |_=>exact c.elim
def okP(b:Bool)(r:EV):Prop:=match b with
 |true=>xx r
 |false=>match r.k with
  |.own=>False
  |_=>True
def kdP:Bool->Kd
 |true=>.new
 |false=>.fre
def z3v(b:Bool)(n:Nat)(js:List Nat)(g:TGD)(tc:TDb)(te:TD)(U:DE)(Z:List D)(φ:EV->Prop):Prop:=∃(P:Nat->List D->Prop)(A:Nat->List D->EV->Prop)(B:Nat->List D->Prop),Z.length<=10000000/\P 0 [] /\
 (∀(i:Nat)(d:D)(es:List D),Z[i]?=some d->es.length<=i->P i es->(g d (ρ0 n js U) λρ'=>tc ρ' λc=>(c=true->te ρ' (A i es))/\(c=false->B i es))/\(∀r,A i es r->okP b r/\P (i+1) (es++[r.d]))/\(B i es->P (i+1) es))/\∀es,P Z.length es->φ ⟨kdP b,.lst es⟩
def Yx{H_:Hp}{W:DE->List D->(EV->Prop)->Prop}(b:Bool)(nd:js.Nodup)(hl:d5 X.K g2 g)(hW:∀ U Z φ,W U Z φ->z3v b T.length js g tc te U Z φ):∀Y H Q,qd X.K H_ (λU φ=>ti U λZ=>W U Z φ) Y H Q->P5 (Pi X.K H_ ti) T js g2 (bw X.K H_ tc) (qd X.K H_ te) Y H Q:=λY H Q q=>by
  obtain⟨U,o,R,φ,a0,k⟩:=q;refine⟨U,o,R,_,a0,λh1 Z P H1 L I hP hw j a=>?_⟩;obtain⟨PP,PA,PB,a6,P0,N,a4⟩:=hW _ _ _ hw;have R1:=R.to L;have gD:∀{H':Hp},Same H1 H'->Grow (o.map Prod.snd) (j::o.map Prod.snd) H1 H':=λs=>⟨λb u h nb=>⟨s b u h,λz=>(zam.mp z).elim (λe=>zl h a e) nb⟩,λb E h=>s b _ h,λb ob u h=>s b _ h⟩;refine⟨λi m ys H'=>m=Z.length-i/\i<=Z.length/\Same H1 H'/\H' j=some (.lst ys)/\∃es,es.length<=i/\PP i es/\zr X.K H' (λc=>c∉j::o.map Prod.snd/\(b=true->H1 c=none)) es ys,
   ⟨_,rfl,zbG _,y4 a _,zm,[],zaj _,P0,rfl⟩,?_⟩
  rintro i m ys H' ⟨rfl,a7,s2,B,es,le,pe,rp⟩;refine⟨B,?_⟩;have O:=I.keep _ _ _ _ hP (gD s2);by_cases hlt:i<Z.length
  ·have ed:Z[i]?=some Z[i]:=by simp[hlt]
   obtain⟨j1,j2⟩:=I.go H' _ i _ O ed;refine .inr ⟨j1,λzs H2=>Same H1 H2/\H2 j=some (.lst zs)/\∃es,es.length<=i+1/\PP (i+1) es/\zr X.K H2 (λc=>c∉j::o.map Prod.snd/\(b=true->H1 c=none)) es zs,λzs H2 ⟨a1,a2,a3⟩=>⟨_,(by omega:Z.length-(i+1)<Z.length-i),rfl,hlt,a1,a2,a3⟩,λx H2 y=>?_⟩
   obtain⟨s3,rx⟩:=j2 x H2 y;have l:=s2.trans s3;have ds:=s3 _ _ B;have hO:((T.length+js.length,j)::o.map λp=>(ixO T.length js p.1,p.2)).map Prod.snd=j::o.map Prod.snd:=by
    rw[zaG,zaZ];rfl
   obtain⟨t1,t2,t3⟩:=N i _ es ed le pe;refine hl H_ H2 (st0 T js Y) (ρ0 T.length js U) _ _ x _ _ (Yo (n:=T.length) R1 nd a l ds T rfl) (by rw[hO];exact rx) t1 λρ' σ' R' q'=>?_
   refine⟨ρ',_,R',_,q',λc H3 G h4=>?_⟩;have V:=G _ _ ds;cases c with
   |false =>
    exact iteF ⟨l.trans G,V,es,zfI le,t3 (h4.2 rfl),zr.to (s3.trans G) aA _ _ rp⟩
   |true =>
    refine iteT ⟨ρ',_,R'.to G,_,h4.1 rfl,λv r H4 s5 rv h5=>?_⟩;obtain⟨h5,h6⟩:=t2 r h5;have M:=s5 _ _ V;have rd:RepN X.K H4 (λc=>c∉j::o.map Prod.snd/\(b=true->H1 c=none)) r.d v:=by
     cases b with
     |true=>exact RepN.to (Same.refl _) (λc z=>⟨hO▸z.1,λ_=>(l.trans G).free z.2⟩) _ _ (rv.anew h5)
     |false=>exact RepN.to (Same.refl _) (λc z=>⟨hO▸z,nofun⟩) _ _ (rv.solid (u6 h5))
    refine⟨M,zbA (show ys.length<=10000000 by rw[rp.length];omega) aB,⟨λb u h=>?_,zm,es++[r.d],by rw[zLa];exact zbK le,h6,?_⟩⟩
    ·rw[zj (zl h a)];exact s5 _ _ (G _ _ (l b u h))
    refine zr.go (λb E h=>?_) (λb ob u h=>?_) (λb u z h=>⟨?_,z⟩) _ _ ((zr.to (s3.trans (G.trans s5)) aA _ _ rp).append (zr.one rd))
    ·rw[zj (λz=>by rw[z,M]at h;cases h)];exact h
    ·rw[zj (λz=>by rw[z,M]at h;cases h)];exact h
    rw[zj (λy=>z.1 (zam.mpr (.inl y)))];exact h
  have e:i=Z.length:=by omega
  subst e;refine .inl ⟨I.stop H' _ O,?_⟩;refine k (.ref j) ⟨kdP b,.lst es⟩ H' (L.trans s2) ?_ (a4 es pe);cases b with
  |true=>exact⟨j,ys,rfl,B,⟨R.ofree (L.free a),L.free a⟩,zr.to (Same.refl _) (λb z=>⟨λy=>z.1 (zal _ y),L.free (z.2 rfl)⟩) _ _ rp⟩
  |false=>exact⟨j,rfl,L.free a,R.ofree (L.free a),ys,B,zr.to (Same.refl _) (λb z=>z.1) _ _ rp⟩
def Mw(b:Bool)(ti:TID)(n:Nat)(js:List Nat)(g:TGD)(tc:TDb)(te:TD):TD:=λU φ=>ti U λZ=>∃P:Nat->List D->Prop,Z.length<=10000000/\P 0 [] /\
 (∀(i:Nat)(d:D)(es:List D),Z[i]?=some d->es.length<=i->P i es->g d (ρ0 n js U) λρ'=>tc ρ' λc=>(c=true->te ρ' λr=>okP b r/\P (i+1) (es++[r.d]))/\(c=false->P (i+1) es))/\∀es,P Z.length es->φ ⟨kdP b,.lst es⟩
def Yy{H_:Hp}{b:Bool}(q:js.Nodup)(hl:d5 X.K g2 g):∀Y H Q,qd X.K H_ (Mw b ti T.length js g tc te) Y H Q->P5 (Pi X.K H_ ti) T js g2 (bw X.K H_ tc) (qd X.K H_ te) Y H Q :=
 Yx b q hl λU Z φ ⟨P,hl,k,a,j⟩=>⟨P,_,_,hl,k,λi d es e l p=>⟨a i d es e l p,λ_ h=>h,λh=>h⟩,j⟩
def bv(k:js.Nodup)(hl:d5 X.K g2 g):∀Y H Q,qd X.K H_ (Pp ti T.length js g tc te) Y H Q->P5 (Pi X.K H_ ti) T js g2 (bw X.K H_ tc) (qd X.K H_ te) Y H Q :=
 Yx false k hl λU Z φ Zh=>by
  obtain⟨f,hl,a,j⟩:=Zh;refine⟨λi es=>es=(Z.take i).filterMap f,λi es r=>okP false r/\(Z[i]?).bind f=some r.d,λi es=>(Z[i]?).bind f=none,zak hl aB,rfl,λi d es e _ p=>?_,λes p=>?_⟩
  ·have l:(Z[i]?).bind f=f d:=by rw[e];rfl
   have tk:(Z.take (i+1)).filterMap f=es++(f d).toList:=by
    rw[show es=_ from p,List.take_succ,e,zfL];cases e:f d <;> simp[e]
   dsimp only
   rw[tk,l];exact⟨a d (zan e),λr h=>⟨h.1,by rw[h.2];rfl⟩,λh=>by rw[h];simp⟩
  rw[show es=_ from p,zeA];exact j
def sr(hi:EI M X tg iter ti)(S:zx X.env.scope scope T F)(a:Paired (λx j=>X.N[j]?=some x) F js)(d:js.Nodup)(q:∀ cl C fp s H,PG (yp X (T++F) scope cl C fp s H) tg g2)(l:Zt T.length g2)(hl:d5 X.K g2 g)(e:∀ cl C fp s H,EIf M (yp X (T++F) scope cl C fp s H) ifs tc)(r:∀ cl C fp s H,ED M (yp X (T++F) scope cl C fp s H) elt te)(u:X.calm=true:=by rfl)(k:∀ x,foldedSetIterable iter X.env x=pure x:=by intro _;rfl):ED M X (.ListComp elt [⟨tg,iter,ifs,0⟩] scope pos) (Pp ti T.length js g tc te):=λH_ =>
 impE (To (tc:=bw X.K H_.1 tc) (te:=qd X.K H_.1 te) u (hi H_) S a q l (λcl C fp s H=>e cl C fp s H H_) (λcl C fp s H=>r cl C fp s H H_) k) (bv d hl)
def vn(i:Nat)(V:X.N.Nodup)(hi:EI M X tg iter ti)(S:zx X.env.scope scope T F)(e:Paired (λx j=>X.N[j]?=some x) F js)(q:js.Nodup)(h1:∀ cl C fp s H,PG (yp X (T++F) scope cl C fp s H) tg g2)(I:Zt T.length g2)(hl:d5 X.K g2 g)(B:∀ cl C fp s H,EIf M (yp X (T++F) scope cl C fp s H) ifs tc)(L:∀ cl C fp s H,ED M (yp X (T++F) scope cl C fp s H) elt te)(O:X.calm=true:=by rfl)(G:∀ x,foldedSetIterable iter X.env x=pure x:=by intro _;rfl)(z:X.N[i]?=some y:=by rfl)(a:X.env.scope.names.lookup y=some .local:=by rfl)(d:swapsWith (.ListComp elt [⟨tg,iter,ifs,0⟩] scope pos) (some (.Name y py)) spos.line X.env=pure true:=by rfl):SD M X (.Assign [.Name y py] (.ListComp elt [⟨tg,iter,ifs,0⟩] scope pos) spos) (sSet i (Pp ti T.length js g tc te)):=λH_ =>
 impS (k6 (tc:=bw X.K H_.1 tc) (te:=qd X.K H_.1 te) O V z (.inl a) (hi H_) S e h1 I (λcl C fp s H=>B cl C fp s H H_) (λcl C fp s H=>L cl C fp s H H_) d G (.inr a)) λD Y H h=>by
  obtain⟨U,o,R,ds,Q,u,k2,k3,k4⟩:=h;refine bv q hl Y H _ ⟨U,o,R,_,Q,λv r H1 k l J=>?_⟩;obtain⟨o',W,g'⟩:=R.put k i l (u6 J.1);exact u _ _ H1 o' g' W J.2
end
section
variable{x:Str}{e a b:Expr}{es:List Expr}{t:TDs}{p pos:Pos}
structure Kit(K:W.Frag):Prop where
 ne:∀q∈([("NoneType","int"),("NoneType","bool"),("NoneType","str"),("NoneType","tuple"),("NoneType","list"),("NoneType","dict"),("bool","str"),("bool","tuple"),("bool","list"),("bool","dict"),
  ("int","bool"),("int","str"),("int","tuple"),("int","list"),("int","dict"),("str","int"),("str","bool"),("str","tuple"),("str","list"),("str","dict"),
  ("tuple","int"),("tuple","bool"),("tuple","str"),("tuple","list"),("tuple","dict"),("list","int"),("list","bool"),("list","str"),("list","tuple"),("list","dict"),
  ("dict","int"),("dict","bool"),("dict","str"),("dict","tuple"),("dict","list")]:List (String×String)),W.kitOne K (.type q.1) (.type q.2)=some false
 bi:W.kitOne K (.type "bool") (.type "int")=some true
def Nq{K:W.Frag}:Kit K:=by
 constructor
 ·intro q a;simp only[zam,zaH,zbM]at a;rcases a with rfl|rfl|rfl|rfl|rfl|rfl|rfl|rfl|rfl|rfl|rfl|rfl|rfl|rfl|rfl|rfl|rfl|rfl|rfl|rfl|rfl|rfl|rfl|rfl|rfl|rfl|rfl|rfl|rfl|rfl|rfl|rfl|rfl|rfl|rfl <;> kernel_rfl
 kernel_rfl
def J6{K:W.Frag}{T:String}:W.kitOne K (.type T) (.type T)=some true:=by
 unfold W.kitOne;rw[zaM aE]
def Uu:bootBuiltins "int" = some (.type "int"):=by decide +kernel
def Pu:bootBuiltins "bool" = some (.type "bool"):=by decide +kernel
def vz:bootBuiltins "tuple" = some (.type "tuple"):=by decide +kernel
def fm:bootBuiltins "list" = some (.type "list"):=by decide +kernel
def fq:bootBuiltins "dict" = some (.type "dict"):=by decide +kernel
def cf:bootBuiltins "isinstance" = some (.builtin "isinstance"):=by decide +kernel
def z0c{K:W.Frag}(a T:String)(h:(a,T)∈([("NoneType","int"),("NoneType","bool"),("NoneType","str"),("NoneType","tuple"),("NoneType","list"),("NoneType","dict"),("bool","str"),("bool","tuple"),("bool","list"),("bool","dict"),
  ("int","bool"),("int","str"),("int","tuple"),("int","list"),("int","dict"),("str","int"),("str","bool"),("str","tuple"),("str","list"),("str","dict"),
  ("tuple","int"),("tuple","bool"),("tuple","str"),("tuple","list"),("tuple","dict"),("list","int"),("list","bool"),("list","str"),("list","tuple"),("list","dict"),
  ("dict","int"),("dict","bool"),("dict","str"),("dict","tuple"),("dict","list")]:List (String×String))):W.kitOne K (.type a) (.type T)=some false:=Nq.ne (a,T) h
def Hg:D->String
 |.non=>"NoneType"
 |.bl _=>"bool"
 |.int _=>"int"
 |.str _=>"str"
 |.tup _=>"tuple"
 |.lst _=>"list"
 |.dk _ _=>"dict"
 |.ty _=>"type"
 |.cn _=>"tuple"
 |.scr _=>"list"
 |.fo _=>"exc"
 |.fd _=>"exc"
 |.ob _ _ _=>"exc"
def J7:List (String×String):=[("NoneType","int"),("NoneType","bool"),("NoneType","str"),("NoneType","tuple"),("NoneType","list"),("NoneType","dict"),("bool","str"),("bool","tuple"),("bool","list"),("bool","dict"),
  ("int","bool"),("int","str"),("int","tuple"),("int","list"),("int","dict"),("str","int"),("str","bool"),("str","tuple"),("str","list"),("str","dict"),
  ("tuple","int"),("tuple","bool"),("tuple","str"),("tuple","list"),("tuple","dict"),("list","int"),("list","bool"),("list","str"),("list","tuple"),("list","dict"),
  ("dict","int"),("dict","bool"),("dict","str"),("dict","tuple"),("dict","list")]
def isN(a T:String):Option Bool:=if a=T then some true else if a = "bool"/\T = "int" then some true else if (a,T)∈J7 then some false else none
def isT(d:D)(T:String):Option Bool:=match d with
 |.ty _=>none
 |.cn _=>none
 |.scr _=>none
 |.fo _=>none
 |.fd _=>none
 |.ob _ _ _=>none
 |d=>isN (Hg d) T
def D6{K:W.Frag}{a T:String}{b:Bool}(h:isN a T=some b):W.kitOne K (.type a) (.type T)=some b:=by
 unfold isN at h;split at h
 ·rename_i q;cases h;subst q;exact J6
 split at h
 ·rename_i q;cases h;obtain⟨rfl,rfl⟩:=q;exact Nq.bi
 split at h
 ·rename_i q;cases h;exact z0c a T q
 cases h
def D5{K:W.Frag}{d:D}{T:String}{b:Bool}(h:isT d T=some b):W.kitOne K (.type (Hg d)) (.type T)=some b:=by
 cases d with
 |ty _=>cases h
 |cn _=>cases h
 |scr _=>cases h
 |fo _=>cases h
 |fd _=>cases h
 |ob _ _ _=>cases h
 |_=>exact D6 h
def S7:isT .non "int" = some false:=(aB:isN "NoneType" "int" = some false)
def Vs:isT .non "bool" = some false:=(aB:isN "NoneType" "bool" = some false)
def W0:isT .non "tuple" = some false:=(aB:isN "NoneType" "tuple" = some false)
def Pl(b:Bool):isT (.bl b) "int" = some true:=(aB:isN "bool" "int" = some true)
def Sg(b:Bool):isT (.bl b) "bool" = some true:=(aB:isN "bool" "bool" = some true)
def Vx(b:Bool):isT (.bl b) "tuple" = some false:=(aB:isN "bool" "tuple" = some false)
def Sd(i:Int):isT (.int i) "int" = some true:=(aB:isN "int" "int" = some true)
def Vv(i:Int):isT (.int i) "bool" = some false:=(aB:isN "int" "bool" = some false)
def Sa(i:Int):isT (.int i) "str" = some false:=(aB:isN "int" "str" = some false)
def W2(i:Int):isT (.int i) "tuple" = some false:=(aB:isN "int" "tuple" = some false)
def S6(x:Str):isT (.str x) "int" = some false:=(aB:isN "str" "int" = some false)
def Vr(x:Str):isT (.str x) "bool" = some false:=(aB:isN "str" "bool" = some false)
def Tz(x:Str):isT (.str x) "str" = some true:=(aB:isN "str" "str" = some true)
def Xz(x:Str):isT (.str x) "tuple" = some false:=(aB:isN "str" "tuple" = some false)
def Tx(l:List D):isT (.tup l) "int" = some false:=(aB:isN "tuple" "int" = some false)
def Vq(l:List D):isT (.tup l) "bool" = some false:=(aB:isN "tuple" "bool" = some false)
def Xy(l:List D):isT (.tup l) "tuple" = some true:=(aB:isN "tuple" "tuple" = some true)
def Vp(l:List D):isT (.tup l) "list" = some false:=(aB:isN "tuple" "list" = some false)
def S8(l:List D):isT (.lst l) "int" = some false:=(aB:isN "list" "int" = some false)
def Vu(l:List D):isT (.lst l) "bool" = some false:=(aB:isN "list" "bool" = some false)
def W1(l:List D):isT (.lst l) "tuple" = some false:=(aB:isN "list" "tuple" = some false)
def Vt(l:List D):isT (.lst l) "list" = some true:=(aB:isN "list" "list" = some true)
def Pk(k:List Key)(l:List D):isT (.dk k l) "int" = some false:=(aB:isN "dict" "int" = some false)
def Sf(k:List Key)(l:List D):isT (.dk k l) "bool" = some false:=(aB:isN "dict" "bool" = some false)
def Vw(k:List Key)(l:List D):isT (.dk k l) "tuple" = some false:=(aB:isN "dict" "tuple" = some false)
def Se(k:List Key)(l:List D):isT (.dk k l) "dict" = some true:=(aB:isN "dict" "dict" = some true)
def Ha:qu X (.builtin "isinstance") (λE H Q=>∃d x T b,E=[x,.ty T]/\Rep X.K H [] d x/\isT d T=some b/\Q (.bl b) H):=by
 intro pn s Y H E us Q I r h;obtain⟨d,x,T,b,rfl,rp,e,q⟩:=h;obtain⟨u,v,rfl,j,y⟩:=Cf r;cases y;have k:=D5 (K:=X.K) e;have g:∀tk,EP X pn Y Q (.bool b) {s with toks:=tk}:=λtk=>⟨.bl b,H,I.tok tk,rfl,q⟩;cases d with
 |non=>cases (show x=_ from rp);exact sy I j .non k g
 |bl c=>cases (show x=_ from rp);exact sy I j (.bl c) k g
 |int c=>cases (show x=_ from rp);exact sy I j (.int c) k g
 |str c=>cases (show x=_ from rp);exact sy I j (.str c) k g
 |ty _=>cases e
 |cn _=>cases e
 |scr _=>cases e
 |fo _=>cases e
 |fd _=>cases e
 |ob _ _ _=>cases e
 |lst Z=>obtain⟨a,E,rfl,l,_⟩:=rp;exact sy I j (.lst l) k g
 |dk ks Z=>obtain⟨a,E,rfl,l,_⟩:=rp;exact sy I j (.dK l) k g
 |tup Z =>
  obtain⟨a,E,rfl,l,_⟩:=rp;cases (show u=Value.ref a from j);obtain⟨its,_,p,_⟩:=I.tuple l.1;obtain⟨o,J,h2,_⟩:=p;exact zeE W.kitx_tuple I.kIn ⟨o,J,h2⟩ k nofun g
def sIsI:FT:=λZ φ=>match Z with
 |[d,.ty T]=>match isT d T with
  |some b=>φ (dv (.bl b))
  |none=>False
 |_=>False
def wz(l:X.mg "isinstance" = none)(u:EA M X (e::es) t)(q:Gl X "isinstance":=by rfl)(r:S_ X e es:=by rfl)(a:B_ X es pos:=by rfl):ED M X (.Call (.Name "isinstance" p) (e::es) [] pos) (dCB sIsI t) :=
 Wm Ha (λH O Z vs φ Q ho j h k=>by
  unfold sIsI at h;split at h
  ·split at h
   ·rename_i d T b x;obtain⟨v,ws,rfl,J,v2,g,rfl,h2,rfl⟩:=j;cases (show v2=_ from h2);exact⟨_,v,_,_,rfl,J.rep0,x,k _ _ H (Same.refl H) aH h⟩
   exact h.elim
  exact h.elim) l cf u q aB aB r a
def sTupC:FT:=λZ φ=>match Z with
 |[.lst l]=>φ (dv (.tup l))
 |[.tup l]=>φ (dv (.tup l))
 |_=>False
def uc(j:X.mg "tuple" = none)(y:EA M X (e::es) t)(u:Gl X "tuple":=by rfl)(x:S_ X e es:=by rfl)(d:B_ X es pos:=by rfl):ED M X (.Call (.Name "tuple" p) (e::es) [] pos) (dCB sTupC t) :=
 qp jw (λH O Z vs φ Q ho g h k=>by
  unfold sTupC at h;split at h
  ·obtain⟨v,ws,rfl,⟨a,E,rfl,q,r⟩,rfl⟩:=g;exact⟨a,E,rfl,.inl ⟨SqL.of q,λl hl=>k _ _ _ (y4 hl _) (V2 hl r) h⟩⟩
  ·obtain⟨v,ws,rfl,⟨a,E,rfl,q,r⟩,rfl⟩:=g;exact⟨a,E,rfl,.inr ⟨q.1,k (.ref a) (dv (.tup _)) H (Same.refl H) ⟨a,E,rfl,q,r⟩ h⟩⟩
  exact h.elim) j vz y u aB aB x d
def sListC:FT:=λZ φ=>match Z with
 |[.lst l]=>φ (df (.lst l))
 |[.tup l]=>φ (df (.lst l))
 |_=>False
def cu(j:X.mg "list" = none)(y:EA M X (e::es) t)(u:Gl X "list":=by rfl)(x:S_ X e es:=by rfl)(d:B_ X es pos:=by rfl):ED M X (.Call (.Name "list" p) (e::es) [] pos) (dCB sListC t) :=
 qp Ur (λH O Z vs φ Q ho g h k=>by
  unfold sListC at h;split at h
  ·obtain⟨v,ws,rfl,⟨a,E,rfl,q,r⟩,rfl⟩:=g;exact⟨a,E,rfl,.inl (SqL.of q),λl hl=>k _ _ _ (y4 hl _) (b5 ho hl r) h⟩
  ·obtain⟨v,ws,rfl,⟨a,E,rfl,q,r⟩,rfl⟩:=g;exact⟨a,E,rfl,.inr q.1,λl hl=>k _ _ _ (y4 hl _) (b5 ho hl r) h⟩
  exact h.elim) j fm y u aB aB x d
def sIntC:FT:=λZ φ=>match Z with
 |[.bl b]=>φ (dv (.int (if b then 1 else 0)))
 |[.int i]=>φ (dv (.int i))
 |_=>False
def Wj(g:X.mg "int" = none)(q:EA M X (e::es) t)(j:Gl X "int":=by rfl)(l:S_ X e es:=by rfl)(a:B_ X es pos:=by rfl):ED M X (.Call (.Name "int" p) (e::es) [] pos) (dCB sIntC t) :=
 qp L6 (λH O Z vs φ Q ho d h k=>by
  unfold sIntC at h;split at h
  ·obtain⟨v,ws,rfl,J,rfl⟩:=d;cases (show v=_ from J);exact .inr ⟨_,rfl,k _ _ H (Same.refl H) aH h⟩
  ·obtain⟨v,ws,rfl,J,rfl⟩:=d;cases (show v=_ from J);exact .inl ⟨_,rfl,k _ _ H (Same.refl H) aH h⟩
  exact h.elim) g Uu q j aB aB l a
end
section
variable{x:Str}{e:Expr}{te:TD}{apos np cpos pos:Pos}
def sApp(i:Nat)(te:TD):TDS:=λU ds=>match slot U i with
 |some ⟨.own,.lst Z⟩=>te U λr=>(match r.k with|.own=>False|_=>True)/\Z.length<=100000/\ds.nx (setS U i (dO (.lst (Z++[r.d]))))
 |_=>False
def b4(i:Nat)(W:ED M X e te)(hN:X.N[i]?=some x:=by rfl)(O:Vis X.env.scope x:=by walk_at "o")(hd:D_ x:=by decide)(y:(x==("__classdict__" : Str))=false:=by decide)(Q:∀ {ta tb:TE},PE X (.Name x np) ta->PE X e tb->PS X (.Expr (.Call (.Attribute (.Name x np) "append" apos) [e] [] cpos) pos) (Lr (tBM X.K "list" Ta ta (P4 tb tNil))):=by
   intro ta tb J h2;exact gk (Kn zdX PySem.F.slot_list_append PySem.F.type_list_append bp J (yr h2 uv))) :
  SD M X (.Expr (.Call (.Attribute (.Name x np) "append" apos) [e] [] cpos) pos) (sApp i te):=λH_=>impS (Q (vi hN O hd y) (W H_)) λD Y H h=>by
 obtain⟨U,o,R,ds,l,L,k2,k3,k4⟩:=h;unfold sApp at l;split at l
 ·rename_i Z es;obtain⟨v0,g,h1⟩:=R.slots i _ (si es);rcases h1 with⟨k,_⟩|⟨_,a,rfl,m,c⟩
  ·cases k
  obtain⟨E,G,B⟩:=c;refine⟨.ref a,g,.inl ⟨rfl,E,SqL.of G⟩,?_⟩;refine⟨U,o,R,_,l,λv r H1 j I J=>?_⟩;obtain⟨h0,hl,V⟩:=J;have u:=j _ _ G;have R1:=R.to j;have q:=zr.grow (Grow.same j) _ _ B;refine⟨a,E,v,rfl,rfl,u,?_,?_⟩
  ·rw[B.length];exact zbA hl aB
  obtain⟨R2,g2⟩:=R1.chg (d':=.lst (Z++[r.d])) (ho:=.lst (E++[v])) (si es) g m ⟨λ_ z=>(by cases z),λ_ _ z=>(by cases z)⟩ λgr=>⟨E++[v],zm,gr _ _ (q.append (zr.one (I.solid (u6 h0))))⟩
  exact L _ Y _ o ((Grow.same j).trans g2) R2 V
 exact l.elim
end
variable{P:Program}
def yx(n:Nat)(Z:List D):DE:=Z.map (λd=>some (dv d))++List.replicate (n-Z.length) none
def Gh{x a:Str}{st:Stmt}{f:Addr}{fd:FuncData}{N ps:List Str}{k:Nat}{T:FT}(F:Fun K x a st f fd)(S:zv N ps (ze st))(u:∀ (qZ:Value) (A:Around) (outer:List Env) (s:Shared) (H:Hp) (xs:XK) (Z:List D) (φ:EV->Prop),Room k (A.deeper (envOfC a (ze st) s.heap.objs.size f qZ))->Z.length=ps.length->T Z φ ->
   ∃ t,SDs (λ_=>True) (cxOf CX0 P w K mg base N a (ze st) f qZ A outer s H xs).nox (yu st) t/\t (yx N.length Z) {nx:=λ_=>φ (dv .non),rt:=λr=>xx r/\φ r}):FnOk P w K mg base CX0 (k+1) f fd ps (spD K ps.length T):=by
 refine F.ok S (λvs H Q xs h=>?_) (λqZ A outer s H vs Q xs hr h=>?_)
 ·obtain⟨Z,φ,hl,r,_⟩:=h;rw[r.length,hl]
 obtain⟨Z,φ,hl,r,hT,kk⟩:=h;obtain⟨t,y,B⟩:=u qZ A outer s H xs Z φ hr hl hT;have j:=r.length;refine⟨Nj K H t,y ⟨H,zaA⟩,yx N.length Z,[],⟨Same.refl H,(λ_ z=>absurd z aE),(λ_ z=>absurd z aE),(λ_ z=>absurd z aE),zcD,λi r' e=>?_,?_⟩,_,B,λρ' σ' H' o' g h1 q=>?_,λ_ _ _ _ _ _ q=>q.elim,λ_ _ _ _ _ _ q=>q.elim,λv r' H' s' d q=>kk v r' H' s' d q.1 q.2⟩
 ·unfold yx at e;rcases zcX i Z.length with hi|hi
  ·rw[zbF (by simpa using hi),zai]at e
   have l:Z[i]?=some Z[i]:=by simp[hi]
   rw[l]at e;have I:some (dv Z[i])=some r':=zaT e;cases I;obtain⟨v,G,d⟩:=r.get l;refine⟨v,?_,.inl ⟨rfl,d⟩⟩;unfold ZZ.start;rw[zbF (by rw[zLm,j];exact hi),zai,G]
   rfl
  rw[zbD (by simpa using hi),zbO]at e
  split at e <;> cases e
 ·unfold ZZ.start yx;simp[j]
 exact kk .non (dv .non) H' h1.same rfl trivial q
def u9{x a:Str}{st:Stmt}{f:Addr}{fd:FuncData}{N ps:List Str}{k:Nat}{T:FT}(F:Fun K x a st f fd)(S:zv N ps (ze st))(b:wq K fd ps [])(m:mg x=some (.ref f))(d:∀ (qZ:Value) (A:Around) (outer:List Env) (s:Shared) (H:Hp) (xs:XK) (Z:List D) (φ:EV->Prop),Room k (A.deeper (envOfC a (ze st) s.heap.objs.size f qZ))->Z.length=ps.length->T Z φ ->
   ∃ t,SDs (λ_=>True) (cxOf CX0 P w K mg base N a (ze st) f qZ A outer s H xs).nox (yu st) t/\t (yx N.length Z) {nx:=λ_=>φ (dv .non),rt:=λr=>xx r/\φ r}):FD P w K mg base (k+1) x ps T:=⟨f,fd,Gh F S d,b,F.kp,m⟩
def lawT:FT:=λZ φ=>∃ns:List Int,Z=[.scr ns]/\ns.length<=63/\φ (dv (.bl true))
def Yt{E:Array Value}{x:Value}(hi:s.heap.IsTupleIter it l i)(hl:s.heap.IsTuple l E)(e:E[i]?=some x)(k:∀ g,g.IsTupleIter it l (i+1)->Heap.SameBut it s.heap g->Q x {s with heap:=g}):wpAny (model P w) A (Builtin.SmallTypes.nextOf (.ref it)) Q xs s:=by
 obtain⟨o,ho,j,hd⟩:=id hi;obtain⟨q,a,_,r,d⟩:=hl;unfold Builtin.SmallTypes.nextOf;refine zaa (zbX (name:=Str.ofString "__next__") hi.typeIs zdK (zbY zdK hi.typeIs F.entry_tuple_iterator_next ?_ (F.args_tuple_iterator_next_1 _)));show wpAny _ _ (field (.ref it) 0 >>= _) _ _ s;refine zaa (zbW ho hd (x:=.ref l) rfl ?_);show wpAny _ _ (if (Value.ref l==Value.none)=true then _ else _) _ _ s
 rw[zaJ (show ¬ ((Value.ref l==Value.none)=true) from zbE)];show wpAny _ _ (field (.ref it) 1 >>= _) _ _ s;refine zaa (zbW ho hd (x:=.int i 0) rfl ?_);show wpAny _ _ (seqItems? (.ref l) >>= _) _ _ s;refine zaa (zcU a d ?_);simp only[zdQ,e];refine zaa (wpAny_setField ho hd aE (zab ⟨x,rfl,zab (k _ ⟨_,Heap.get?_update_self _ ho (Obj.isFreed_of_fields (Obj.data_mapFields hd _)),(Obj.cls_mapFields ..).trans j,?_⟩ (Heap.SameBut.update ..))⟩))
 rw[Obj.data_mapFields hd];simp[rawInt]
def bo{E:Array Value}(k:A.handled=none)(hi:s.heap.IsTupleIter it l i)(hl:s.heap.IsTuple l E)(q:E[i]?=none)(r:∀ g e,Heap.ExtBut it s.heap g->(∃ o,g.get? e=some o/\o.cls=.type "StopIteration")->xs (.ref e) {s with heap:=g}):wpAny (model P w) A (Builtin.SmallTypes.nextOf (.ref it)) Q xs s:=by
 obtain⟨o,ho,y,hd⟩:=id hi;obtain⟨u,d,_,v,j⟩:=hl;unfold Builtin.SmallTypes.nextOf;refine zaa (zbX (name:=Str.ofString "__next__") hi.typeIs zdK (zbY zdK hi.typeIs F.entry_tuple_iterator_next ?_ (F.args_tuple_iterator_next_1 _)));show wpAny _ _ (field (.ref it) 0 >>= _) _ _ s;refine zaa (zbW ho hd (x:=.ref l) rfl ?_);show wpAny _ _ (if (Value.ref l==Value.none)=true then _ else _) _ _ s
 rw[zaJ (show ¬ ((Value.ref l==Value.none)=true) from zbE)];show wpAny _ _ (field (.ref it) 1 >>= _) _ _ s;refine zaa (zbW ho hd (x:=.int i 0) rfl ?_);show wpAny _ _ (seqItems? (.ref l) >>= _) _ _ s;refine zaa (zcU d j ?_);simp only[zdQ,q];refine zaa (wpAny_rule (zaa (wpAny_setField ho hd aE ?_)))
 show wpAny _ _ (newExc (.type "StopIteration") [] >>= _) _ _ _;refine zaa ?_;simp only[newExc,newTuple];refine zaa (zbT ?_ (by size_fits))
 refine zaa (m:=firstArgMember _ _) (wpAny_of_eq (a:=Value.none) (by first|rfl|(simp only[firstArgMember];rfl)) ?_)
 refine zbT ?_ (by size_fits)
 simp only[raiseNew];refine zaa (wpAny_handled ?_)
 first|rw[show A.in1.handled=none from k]|rw[k]
 exact zaa (zab (wpAny_throw (r _ _ (((Heap.SameBut.update ..).extBut.push _).push _) ⟨_,zad _ rfl,rfl⟩)))
def SqAt(b:Bool)(h:Heap)(l:Addr)(E:Array Value):Prop:=match b with
 |true=>h.IsTuple l E
 |false=>h.IsList l E
def ItAt(b:Bool)(h:Heap)(it l:Addr)(i:Nat):Prop:=match b with
 |true=>h.IsTupleIter it l i
 |false=>h.IsListIter it l i
theorem SqAt.at{b:Bool}{h g:Heap}{l:Addr}{E:Array Value}(x:SqAt b h l E)(k:∀ o,h.get? l=some o->g.get? l=some o):SqAt b g l E:=by
 cases b with
 |true=>exact Heap.IsTuple.at (show h.IsTuple l E from x) k
 |false=>exact Heap.IsList.at (show h.IsList l E from x) k
theorem ItAt.at{b:Bool}{h g:Heap}{it l:Addr}{i:Nat}(x:ItAt b h it l i)(k:∀ o,h.get? it=some o->g.get? it=some o):ItAt b g it l i:=by
 cases b with
 |true=>exact Heap.IsTupleIter.at (show h.IsTupleIter it l i from x) k
 |false=>exact Heap.IsListIter.at (show h.IsListIter it l i from x) k
def gp{E:Array Value}{x:Value}(hi:ItAt b s.heap it l i)(hl:SqAt b s.heap l E)(a:E[i]?=some x)(d:∀ g,ItAt b g it l (i+1)->Heap.SameBut it s.heap g->Q x {s with heap:=g}):wpAny (model P w) A (Builtin.SmallTypes.nextOf (.ref it)) Q xs s:=by
 cases b with
 |true=>exact Yt hi hl a d
 |false=>exact wpAny_nextOf_list_item hi hl a d
def Vh{E:Array Value}(d:A.handled=none)(hi:ItAt b s.heap it l i)(hl:SqAt b s.heap l E)(a:E[i]?=none)(j:∀ g e,Heap.ExtBut it s.heap g->(∃ o,g.get? e=some o/\o.cls=.type "StopIteration")->xs (.ref e) {s with heap:=g}):wpAny (model P w) A (Builtin.SmallTypes.nextOf (.ref it)) Q xs s:=by
 cases b with
 |true=>exact bo d hi hl a j
 |false=>exact wpAny_nextOf_list_end d hi hl a j
structure ZAt(b1 b2:Bool)(g:Heap)(z ti to i1 i2 l1 l2:Addr)(f:Value)(k:Nat):Prop where
 zz:IsZip g z ti to f
 its:IsPair g ti (.ref i1) (.ref i2)
 out:∃a b,IsPair g to a b
 one:ItAt b1 g i1 l1 k
 two:ItAt b2 g i2 l2 k
structure ZNe(z ti to i1 i2:Addr):Prop where
 ab:ti≠z
 ac:to≠z
 ad:i1≠z
 ae:i2≠z
 bc:ti≠to
 bd:ti≠i1
 be:ti≠i2
 cd:to≠i1
 ce:to≠i2
 de:i1≠i2
def ZOff(z to d a c:Addr):Prop:=c≠z/\c≠to/\c≠d/\c≠a
def Lh{Y W:Bool}{k:Nat}{E ys:Array Value}{x y:Value}{Q:Value->Shared->Prop}(D:ZNe z ti to i1 i2)(d1:ZOff z to i1 i2 l1)(d2:ZOff z to i1 i2 l2)(ds:ZAt Y W s.heap z ti to i1 i2 l1 l2 .none k)(t1:SqAt Y s.heap l1 E)(t2:SqAt W s.heap l2 ys)(hx:E[k]?=some x)(hy:ys[k]?=some y)(hQ:∀ g,ZAt Y W g z ti to i1 i2 l1 l2 (rawInt s.heap.objs.size) (k+1)->IsPair g s.heap.objs.size x y->(∀ c o,ZOff z to i1 i2 c->s.heap.get? c=some o->g.get? c=some o)->Q (.ref s.heap.objs.size) {s with heap:=g}) :
  wpAny (model P w) A (Builtin.«zip.__next__» ⟨[.ref z],[]⟩) (λa3 s'=>∃v,a3=.done (.ret v)/\Q v s') xs s:=by
 obtain⟨N,O,⟨a,b,a0⟩,J,h2⟩:=ds;show wpAny _ _ (field (.ref z) 2 >>= _) _ _ _;refine zaa (zbW N rfl (x:=.bool false) rfl ?_);show wpAny _ _ (field (.ref z) 3 >>= _) _ _ _;refine zaa (zbW N rfl (x:=.ref ti) rfl ?_);refine zaa (zcU O rfl ?_);show wpAny _ _ (Builtin.SmallTypes.ownedTupleIsFree (.ref z) >>= _) _ _ _;refine zaa ?_;unfold Builtin.SmallTypes.ownedTupleIsFree;refine zaa (zbW N rfl (x:=.none) rfl (zab ?_));simp only[zfG];refine zaa (wpAny_rule ?_);refine zaa (zbW N rfl (x:=.ref to) rfl ?_);refine zaa (zbV N aE λg1 z1 r=>?_)
 replace z1:IsZip g1 z ti to .ellipsis:=z1
 refine zaa ?_;simp only[List.zipIdx_cons,List.zipIdx_nil,List.forIn_cons,List.forIn_nil];refine zaa (zaa (wpAny_onRaise ?_));show wpAny _ _ (Builtin.SmallTypes.nextOf (.ref i1) >>= _) _ _ _;refine zaa (gp (J.at λo e=>r.extBut _ o D.ad e) (t1.at λo e=>r.extBut _ o d1.1 e) hx λg2 p2 s2=>zab ?_);have I:IsPair g2 to a b:=s2.extBut _ _ D.cd (r.extBut _ _ D.ac a0);refine zaa (zcU I rfl (zaa (wpAny_updateSeq_pair I λg3 l u=>?_)))
 replace l:IsPair g3 to x b:=l
 refine zaa (wpAny_letGo (zab (zaa (zaa (wpAny_onRaise ?_)))));show wpAny _ _ (Builtin.SmallTypes.nextOf (.ref i2) >>= _) _ _ _;refine zaa (gp (h2.at λo e=>u.extBut _ o D.ce.symm (s2.extBut _ o D.de.symm (r.extBut _ o D.ae e))) (t2.at λo e=>u.extBut _ o d2.2.1 (s2.extBut _ o d2.2.2.1 (r.extBut _ o d2.1 e))) hy λg4 p4 L=>zab ?_);have G:IsPair g4 to x b:=L.extBut _ _ D.ce l;refine zaa (zcU G rfl (zaa (wpAny_updateSeq_pair G λd j h1=>?_)))
 replace j:IsPair d to x y:=j
 refine zaa (wpAny_letGo (zab (zab (zaa (zcU j rfl (zaa (wpAny_newTuple ?_)))))));have sz:d.objs.size=s.heap.objs.size:=by rw[h1.1,L.1,u.1,s2.1,r.1]
 have z5:IsZip d z ti to .ellipsis:=h1.extBut _ _ D.ac.symm (L.extBut _ _ D.ae.symm (u.extBut _ _ D.ac.symm (s2.extBut _ _ D.ad.symm z1)));have M:∀c o,ZOff z to i1 i2 c->s.heap.get? c=some o->d.get? c=some o:=λc o q e=>h1.extBut _ _ q.2.1 (L.extBut _ _ q.2.2.2 (u.extBut _ _ q.2.1 (s2.extBut _ _ q.2.2.1 (r.extBut _ _ q.1 e))));have q1:ItAt Y d i1 l1 (k+1):=p2.at λo e=>h1.extBut _ o D.cd.symm (L.extBut _ o D.de (u.extBut _ o D.cd.symm e));have q2:ItAt W d i2 l2 (k+1):=p4.at λo e=>h1.extBut _ o D.ce.symm e;have lz:z<d.objs.size:=zae z5;show wpAny _ _ (Builtin.SmallTypes.ownedTupleHandOut (.ref z) (.ref d.objs.size) >>= _) _ _ _;refine zaa ?_;unfold Builtin.SmallTypes.ownedTupleHandOut;have z6:IsZip (d.push {cls:=.type "tuple",data:=.seq #[x,y]}) z ti to .ellipsis:=zac _ z5;refine zaa (zbV z6 aE λg7 z7 s7=>?_)
 replace z7:IsZip g7 z ti to (rawInt d.objs.size):=z7
 refine zbV z7 aE λV R s8=>?_
 replace R:IsZip V z ti to (rawInt d.objs.size):=R
 have B:∀c o,c≠z->d.get? c=some o->V.get? c=some o:=λc o c1 e=>s8.extBut _ _ c1 (s7.extBut _ _ c1 (zac _ e));have pr:IsPair V d.objs.size x y:=s8.extBut _ _ (zeR lz) (s7.extBut _ _ (zeR lz) (zad _ rfl));rw[sz]at R pr;refine zab ⟨_,rfl,?_⟩;show Q (.ref d.objs.size) _;rw[sz];exact hQ V ⟨R,B _ _ D.ab (M _ _ ⟨D.ab,D.bc,D.bd,D.be⟩ O),⟨_,_,B _ _ D.ac j⟩,q1.at λo e=>B _ o D.ad e,q2.at λo e=>B _ o D.ae e⟩ pr λc o q e=>B c o q.1 (M c o q e)
def Gw{E ys:Array Value}{Q:Fin->Shared->Prop}(V:A.handled=none)(D:ZNe z ti to i1 i2)(d1:ZOff z to i1 i2 l1)(d2:ZOff z to i1 i2 l2)(ds:ZAt b1 b2 s.heap z ti to i1 i2 l1 l2 .none k)(t1:SqAt b1 s.heap l1 E)(t2:SqAt b2 s.heap l2 ys)(y:E[k]?=none\/ys[k]?=none)(W:∀ g e,(∀ c o,ZOff z to i1 i2 c->s.heap.get? c=some o->g.get? c=some o)->(∃ o,g.get? e=some o/\o.cls=.type "StopIteration")->xs (.ref e) {s with heap:=g}) :
  wpAny (model P w) A (Builtin.«zip.__next__» ⟨[.ref z],[]⟩) Q xs s:=by
 obtain⟨v,I,⟨a,b,G⟩,J,h2⟩:=ds;show wpAny _ _ (field (.ref z) 2 >>= _) _ _ _;refine zaa (zbW v rfl (x:=.bool false) rfl ?_);show wpAny _ _ (field (.ref z) 3 >>= _) _ _ _;refine zaa (zbW v rfl (x:=.ref ti) rfl ?_);refine zaa (zcU I rfl ?_);show wpAny _ _ (Builtin.SmallTypes.ownedTupleIsFree (.ref z) >>= _) _ _ _;refine zaa ?_;unfold Builtin.SmallTypes.ownedTupleIsFree;refine zaa (zbW v rfl (x:=.none) rfl (zab ?_));simp only[zfG];refine zaa (wpAny_rule ?_);refine zaa (zbW v rfl (x:=.ref to) rfl ?_);refine zaa (zbV v aE λg1 B l=>?_)
 replace B:IsZip g1 z ti to .ellipsis:=B
 refine zaa ?_;simp only[List.zipIdx_cons,List.zipIdx_nil,List.forIn_cons,List.forIn_nil];refine zaa (zaa (wpAny_onRaise ?_));show wpAny _ _ (Builtin.SmallTypes.nextOf (.ref i1) >>= _) _ _ _;cases hx:E[k]? with
 |none =>
  refine zaa (Vh V (J.at λo e=>l.extBut _ o D.ad e) (t1.at λo e=>l.extBut _ o d1.1 e) hx λg2 e s2 h1=>?_);obtain⟨oe,d,j⟩:=h1;have N:IsZip g2 z ti to .ellipsis:=s2 _ _ D.ad.symm B;have L:e≠z:=λx=>by subst x;rw[N]at d;cases d;simp at j
  exact zbV N aE λg3 _ r=>W g3 e (λc o q x=>r.extBut _ _ q.1 (s2 _ _ q.2.2.1 (l.extBut _ _ q.1 x))) ⟨oe,r.extBut _ _ L d,j⟩
 |some x =>
  have hy:ys[k]?=none:=by rcases y with h|h;rw[hx]at h;cases h;exact h
  refine zaa (gp (J.at λo e=>l.extBut _ o D.ad e) (t1.at λo e=>l.extBut _ o d1.1 e) hx λg2 p2 s2=>zab ?_);have u:IsPair g2 to a b:=s2.extBut _ _ D.cd (l.extBut _ _ D.ac G);refine zaa (zcU u rfl (zaa (wpAny_updateSeq_pair u λg3 Y r=>?_)));refine zaa (wpAny_letGo (zab (zaa (zaa (wpAny_onRaise ?_)))));show wpAny _ _ (Builtin.SmallTypes.nextOf (.ref i2) >>= _) _ _ _;refine zaa (Vh V (h2.at λo e=>r.extBut _ o D.ce.symm (s2.extBut _ o D.de.symm (l.extBut _ o D.ae e))) (t2.at λo e=>r.extBut _ o d2.2.1 (s2.extBut _ o d2.2.2.1 (l.extBut _ o d2.1 e))) hy λg4 e R h1=>?_);obtain⟨oe,d,j⟩:=h1;have M:IsZip g4 z ti to .ellipsis:=R _ _ D.ae.symm (r.extBut _ _ D.ac.symm (s2.extBut _ _ D.ad.symm B));have L:e≠z:=λx=>by subst x;rw[M]at d;cases d;simp at j
  exact zbV M aE λg5 _ O=>W g5 e (λc o q x=>O.extBut _ _ q.1 (R _ _ q.2.2.2 (r.extBut _ _ q.2.1 (s2.extBut _ _ q.2.2.1 (l.extBut _ _ q.1 x))))) ⟨oe,O.extBut _ _ L d,j⟩
def N9{E ys:Array Value}{x y:Value}{Q:Option Value->Shared->Prop}(D:ZNe z ti to i1 i2)(d1:ZOff z to i1 i2 l1)(d2:ZOff z to i1 i2 l2)(ds:ZAt b1 b2 s.heap z ti to i1 i2 l1 l2 .none k)(t1:SqAt b1 s.heap l1 E)(t2:SqAt b2 s.heap l2 ys)(e:E[k]?=some x)(d:ys[k]?=some y)(j:∀ g,ZAt b1 b2 g z ti to i1 i2 l1 l2 (rawInt s.heap.objs.size) (k+1)->IsPair g s.heap.objs.size x y->(∀ c o,ZOff z to i1 i2 c->s.heap.get? c=some o->g.get? c=some o)->Q (some (.ref s.heap.objs.size)) {s with heap:=g}) :
  wpAny (model P w) A (pyNext (.ref z)) Q xs s:=by
 have ty:s.TypeIs (.ref z) "zip":=⟨_,ds.zz,rfl⟩;unfold pyNext;exact zaa (zfS (zbX (name:=Str.ofString "__next__") ty zfV (zbY zfV ty F.entry_zip_next (Lh D d1 d2 ds t1 t2 e d λg a b c=>zab (j g a b c)) (F.args_zip_next_1 _))))
def Kr{E ys:Array Value}{Q:Option Value->Shared->Prop}(j:A.handled=none)(D:ZNe z ti to i1 i2)(d1:ZOff z to i1 i2 l1)(d2:ZOff z to i1 i2 l2)(ds:ZAt b1 b2 s.heap z ti to i1 i2 l1 l2 .none k)(t1:SqAt b1 s.heap l1 E)(t2:SqAt b2 s.heap l2 ys)(a:E[k]?=none\/ys[k]?=none)(r:∀ g,(∀ c o,ZOff z to i1 i2 c->s.heap.get? c=some o->g.get? c=some o)->Q none {s with heap:=g}):wpAny (model P w) A (pyNext (.ref z)) Q xs s:=by
 have ty:s.TypeIs (.ref z) "zip":=⟨_,ds.zz,rfl⟩;unfold pyNext;refine zaa (zfS (zbX (name:=Str.ofString "__next__") ty zfV (zbY zfV ty F.entry_zip_next (Gw j D d1 d2 ds t1 t2 a λg e d l=>?_) (F.args_zip_next_1 _))));obtain⟨o,ho,q⟩:=l;refine zaa (zfO (T:="StopIteration") (b:=true) ⟨o,ho,q⟩ isSubtype_stop ?_);exact zab (r _ d)
def Gc(b:Bool):String:=match b with
 |true=>"tuple_iterator"
 |false=>"list_iterator"
abbrev zh1(b1:Bool)(h:Heap)(l1:Addr):Heap:=h.push {cls:=.type (Gc b1),data:=.fields #[.ref l1,.int 0 0]}
abbrev zh2(b1 b2:Bool)(h:Heap)(l1 l2:Addr):Heap:=(zh1 b1 h l1).push {cls:=.type (Gc b2),data:=.fields #[.ref l2,.int 0 0]}
abbrev zh3(b1 b2:Bool)(h:Heap)(l1 l2:Addr):Heap:=(zh2 b1 b2 h l1 l2).push {cls:=.type "tuple",data:=.seq #[.ref h.objs.size,.ref (zh1 b1 h l1).objs.size]}
abbrev zh4(b1 b2:Bool)(h:Heap)(l1 l2:Addr):Heap:=(zh3 b1 b2 h l1 l2).push {cls:=.type "tuple",data:=.seq #[.none,.none]}
abbrev zh5(b1 b2:Bool)(h:Heap)(l1 l2:Addr):Heap:=(zh4 b1 b2 h l1 l2).push {cls:=.type "zip",data:=.fields #[.none,.bool false,.bool false,.ref (zh2 b1 b2 h l1 l2).objs.size,.ref (zh3 b1 b2 h l1 l2).objs.size]}
def Gv(e a:Bool)(l1 l2:Addr)(E ys:Array Value) :
  Meets (Builtin.«zip.__new__» ⟨[.type "zip",.ref l1,.ref l2],[]⟩) (λ_ R s=>SqAt e s.heap l1 E/\SqAt a s.heap l2 ys/\R (.ok (.ret (.ref (zh4 e a s.heap l1 l2).objs.size))) {s with heap:=zh5 e a s.heap l1 l2}) :=
 .of_wp λprog w A R s h=>by
  obtain⟨k,g,d,tk,j⟩:=s;obtain⟨a1,a2,h⟩:=h;have l:=sub_zip;cases e <;> cases a
  ·have e:Heap.IsList (Shared.heap ⟨k,g,d,tk,j⟩) l1 E:=a1;have a:Heap.IsList (Shared.heap ⟨k.push {cls:=.type "list_iterator",data:=.fields #[.ref l1,.int 0 0]},g,d,tk,j⟩) l2 ys:=Heap.IsList.push a2 _;wp_walk using zdH e,zdH a;exact⟨_,rfl,h⟩
  ·have e:Heap.IsList (Shared.heap ⟨k,g,d,tk,j⟩) l1 E:=a1;have a:Heap.IsTuple (Shared.heap ⟨k.push {cls:=.type "list_iterator",data:=.fields #[.ref l1,.int 0 0]},g,d,tk,j⟩) l2 ys:=Heap.IsTuple.push a2 _;wp_walk using zdH e,zcP a;exact⟨_,rfl,h⟩
  ·have e:Heap.IsTuple (Shared.heap ⟨k,g,d,tk,j⟩) l1 E:=a1;have a:Heap.IsList (Shared.heap ⟨k.push {cls:=.type "tuple_iterator",data:=.fields #[.ref l1,.int 0 0]},g,d,tk,j⟩) l2 ys:=Heap.IsList.push a2 _;wp_walk using zcP e,zdH a;exact⟨_,rfl,h⟩
  have e:Heap.IsTuple (Shared.heap ⟨k,g,d,tk,j⟩) l1 E:=a1;have a:Heap.IsTuple (Shared.heap ⟨k.push {cls:=.type "tuple_iterator",data:=.fields #[.ref l1,.int 0 0]},g,d,tk,j⟩) l2 ys:=Heap.IsTuple.push a2 _;wp_walk using zcP e,zcP a;exact⟨_,rfl,h⟩
def Li{E ys:Array Value}(t1:SqAt b1 s.heap l1 E)(t2:SqAt b2 s.heap l2 ys)(h:∀ g,ZAt b1 b2 g (s.heap.objs.size+4) (s.heap.objs.size+2) (s.heap.objs.size+3) s.heap.objs.size (s.heap.objs.size+1) l1 l2 .none 0->(∀ c o,s.heap.get? c=some o->g.get? c=some o)->Q (.ref (s.heap.objs.size+4)) {s with heap:=g}) :
  wpAny (model P w) A (call (.type "zip") [.ref l1,.ref l2]) Q xs s:=by
 refine callType_new F.called_zip aB (F.typeCall_zip_2 _ _) (F.newCall_zip_2 _ _) (λa=>F.args_object_init_3 a _ _) F.entry_zip_new (Gv b1 b2 l1 l2 E ys) ⟨t1,t2,?_⟩
 have k:(zh1 b1 s.heap l1).objs.size=s.heap.objs.size+1:=zcT ..;have j:(zh2 b1 b2 s.heap l1 l2).objs.size=s.heap.objs.size+2:=by rw[zcT,k]
 have d:(zh3 b1 b2 s.heap l1 l2).objs.size=s.heap.objs.size+3:=by rw[zcT,j]
 have q:(zh4 b1 b2 s.heap l1 l2).objs.size=s.heap.objs.size+4:=by rw[zcT,d]
 have l:(zh5 b1 b2 s.heap l1 l2).get? (zh4 b1 b2 s.heap l1 l2).objs.size=some _:=zad _ rfl;have r:(zh5 b1 b2 s.heap l1 l2).get? (zh3 b1 b2 s.heap l1 l2).objs.size=some _:=zac _ (zad _ rfl);have g3:(zh5 b1 b2 s.heap l1 l2).get? (zh2 b1 b2 s.heap l1 l2).objs.size=some _:=zac _ (zac _ (zad _ rfl));have g2:(zh5 b1 b2 s.heap l1 l2).get? (zh1 b1 s.heap l1).objs.size=some _:=zac _ (zac _ (zac _ (zad _ rfl)));have g1:(zh5 b1 b2 s.heap l1 l2).get? s.heap.objs.size=some _:=zac _ (zac _ (zac _ (zac _ (zad _ rfl))));show _/\_;rw[j,d,q]at l;rw[k,j]at g3;rw[d]at r;rw[k]at g2;rw[q];exact⟨⟨_,l,rfl⟩,h _ ⟨l,g3,⟨_,_,r⟩,(by cases b1 <;> exact⟨_,g1,rfl,rfl⟩),(by cases b2 <;> exact⟨_,g2,rfl,rfl⟩)⟩ λc o e=>zac _ (zac _ (zac _ (zac _ (zac _ e))))⟩
def ItAt.there(x:ItAt b h it l i):∃o,h.get? it=some o/\∀v,o.data≠.cell v:=by
 cases b with
 |true =>
  obtain⟨o,e,c,d⟩:=(show h.IsTupleIter it l i from x);exact⟨o,e,λv q=>by rw[d]at q;cases q⟩
 |false =>
  obtain⟨o,e,c,d⟩:=(show h.IsListIter it l i from x);exact⟨o,e,λv q=>by rw[d]at q;cases q⟩
def SqK(b:Bool)(K:W.Frag)(H:Hp)(l:Addr)(E:List V):Prop:=match b with
 |true=>SqT K H l E
 |false=>SqL K H l E
def P7(I:Inv X pn Y H s)(h:SqK b X.K H l E):∃its,Vals E its/\SqAt b s.heap l its.toArray:=by
 cases b with
 |true =>
  obtain⟨its,r,p,_⟩:=I.tuple h;exact⟨its,r,(show s.heap.IsTuple l its.toArray from p)⟩
 |false =>
  obtain⟨its,r,p,_⟩:=I.list h;exact⟨its,r,p.isList⟩
def Hn(I:Inv X pn Y H s)(h:SqK b X.K H l E)(h':SqK b X.K H l ys):E=ys:=by
 cases b with
 |true=>exact I.tuple_inj h h'
 |false=>exact I.list_inj h h'
def ui{l c:Addr}(I:Inv X pn Y H s)(h:SqK b X.K H l E)(f:FpOk X pn H c):l≠c:=by
 have d:∀{o:Obj},X.K.lookup l=some o->l≠c:=λ{o} a z=>by
  subst z;have e:=I.ok.mod.kin _ _ a;rcases f.2.2.2.1 with q|q
  ·exact I.ok.noex _ _ e q
  exact absurd (zaU (zae e) I.ok.bsz) (Nat.not_lt.mpr q)
 cases b with
 |true =>
  rcases h with(h|⟨o,h⟩)|⟨o,its,n,a,_⟩
  ·exact zl h f.1
  ·exact zl h f.1
  exact d a
 |false =>
  rcases h with(h|⟨o,h⟩)|⟨o,its,n,a,_⟩
  ·exact zl h f.1
  ·exact zl h f.1
  exact d a
def Itz(d a:Bool)(K:W.Frag)(l1 l2:Addr):It :=
 ⟨λi H=>∃E ys x y,SqK d K H l1 E/\SqK a K H l2 ys/\E[i]?=some x/\ys[i]?=some y,
  λi H v H'=>∃T x y,H T=none/\v=.ref T/\(∀E,SqK d K H l1 E->E[i]?=some x)/\(∀ys,SqK a K H l2 ys->ys[i]?=some y)/\H'=upd H T (.tup [x,y]),
  λi H=>∃E ys,SqK d K H l1 E/\SqK a K H l2 ys/\(E.length<=i\/ys.length<=i)⟩
def Ll{P:Program}{w:World}{K:W.Frag}{es:List Expr}{kk:Nat}{tp:Pos}{b1 b2:Bool}{z ti to l j l1 l2:Addr}(D:ZNe z ti to l j) :
  Turn P w K (.Tuple es kk tp) (Itz b1 b2 K l1 l2) [z,ti,to,l,j] z (λi h=>ZAt b1 b2 h z ti to l j l1 l2 .none i) where
 mem:=by simp
 obj:=λi h ds b d=>by
  obtain⟨hz,B,⟨u,v,r⟩,J,h2⟩:=ds;obtain⟨o1,e1,d1⟩:=J.there;obtain⟨o2,e2,d2⟩:=h2.there;simp only[zam,zaH,zbM]at d;rcases d with rfl|rfl|rfl|rfl|rfl
  ·exact⟨_,hz,λv q=>(by cases q)⟩
  ·exact⟨_,B,λv q=>(by cases q)⟩
  ·exact⟨_,r,λv q=>(by cases q)⟩
  ·exact⟨o1,e1,λv q=>d1 v q⟩
  exact⟨o2,e2,λv q=>d2 v q⟩
 keep:=λi h h' ds k=>by
  obtain⟨hz,B,⟨u,v,r⟩,J,h2⟩:=ds;exact⟨k z aE _ hz,k ti aE _ B,⟨u,v,k to aE _ r⟩,J.at λo e=>k l aE o e,h2.at λo e=>k j aE o e⟩
 item:=by
  intro X hP hw hK Q i pn s Y H xs I L ds hg;subst hP hw hK;obtain⟨E,ys,x,y,e1,e2,h1,hy⟩:=hg;obtain⟨a4,r1,g1⟩:=P7 I e1;obtain⟨a3,r2,g2⟩:=P7 I e2;obtain⟨u,hu,ru⟩:=r1.get h1;obtain⟨v,hv,rv⟩:=r2.get hy;have O:=L z aE
  have G:=L to aE
  have f1:=L l aE
  have f2:=L j aE
  have M:∀b ho,H b=some ho->ZOff z to l j b:=λb ho e=>⟨zl e O.1,zl e G.1,zl e f1.1,zl e f2.1⟩;refine N9 D ⟨ui I e1 O,ui I e1 G,ui I e1 f1,ui I e1 f2⟩ ⟨ui I e2 O,ui I e2 G,ui I e2 f1,ui I e2 f2⟩ ds g1 g2 (x:=u) (y:=v) (by simpa using hu) (by simpa using hv) λg Z2 pr R=>?_
  have hn:H s.heap.objs.size=none:=I.fresh;have a:∀b,b∉[z,to,l,j]->ZOff z to l j b:=λb d=>by
   simp only[zam,zaH,zbM,not_or]at d;exact d
  have un:Un (frs X.stack) [z,to,l,j] H (upd H s.heap.objs.size (.tup [x,y])) s.heap g :=
   ⟨λb o q _ _ h1=>R b o (a b h1) q,λb o q _ _ h1=>⟨o.slots,R b o (a b h1) q⟩,λb o q n _=>by rw[zj (zaY (zae q))];exact n,λb o q h1=>⟨o,R b o (a b h1) q⟩,
    λb V q=>by rw[zj (zl q hn)];exact q,λb o V q=>by rw[zj (zl q hn)];exact q,λb ps q=>⟨#[],by rw[zj (zl q hn),q];simp⟩⟩
  have hok:HOk X.prog X.w (upd H s.heap.objs.size (.tup [x,y])) g:=λb o e=>by
   by_cases d:b=s.heap.objs.size
   ·subst d;rw[zm]at e;cases e;refine⟨by simp only[zLc,zLn];rw[zaV];decide,[u,v],.cons ru (.cons rv .nil),⟨_,pr,rfl,_,rfl⟩,_,pr,rfl⟩
   rw[zj d]at e;refine(I.hok b o e).stay (λc ob Q q=>R c ob ?_ q) (λc q=>by rw[zj (zl q hn)];exact q) λc V q=>by rw[zj (zl q hn)];exact q
   rcases Q with rfl|Q
   ·exact M _ _ e
   exact M _ _ Q
  have I2:Inv X pn Y (upd H s.heap.objs.size (.tup [x,y])) {s with heap:=g}:=I.call' (s':={s with heap:=g}) (ch:=[z,to,l,j]) rfl un hok I.bare λb d=>by
   have a0:b∈[z,ti,to,l,j]:=by
    simp only[zam,zaH,zbM]at d ⊢;rcases d with rfl|rfl|rfl|rfl <;> simp
   have q:=L b a0;exact⟨q.2.2.2.1,q.2.1,q.2.2.2.2.1,q.2.2.2.2.2⟩
  have N:∀b∈[z,ti,to,l,j],upd H s.heap.objs.size (.tup [x,y]) b=none:=λb d=>by
   have lb:b<s.heap.objs.size:=by
    obtain⟨hz,B,⟨u,v,r⟩,J,h2⟩:=ds;obtain⟨_,q1,_⟩:=J.there;obtain⟨_,q2,_⟩:=h2.there;simp only[zam,zaH,zbM]at d;rcases d with rfl|rfl|rfl|rfl|rfl
    ·exact zae hz
    ·exact zae B
    ·exact zae r
    ·exact zae q1
    exact zae q2
   rw[zj (zaY lb)];exact(L b d).1
  refine⟨_,rfl,wpAny_letOwnedTupleGo_zip Z2.zz λg2 z3 sb=>?_⟩;refine⟨.ref s.heap.objs.size,_,I2.turned (t':=s.toks) (λb o d e=>sb.extBut b o d e) (N z aE) O.2.1 O.2.2.2.1 O.2.2.2.2.1 O.2.2.2.2.2,rfl,⟨_,x,y,hn,rfl,(λV q=>by rw[<- Hn I e1 q];exact h1),(λV q=>by rw[<- Hn I e2 q];exact hy),rfl⟩,?_,N⟩
  obtain⟨_,B,⟨u2,v2,r⟩,J,h2⟩:=Z2;exact⟨z3,sb.extBut _ _ D.ab B,⟨u2,v2,sb.extBut _ _ D.ac r⟩,J.at λo e=>sb.extBut _ o D.ad e,h2.at λo e=>sb.extBut _ o D.ae e⟩
 done:=by
  intro X hP hw hK Q i pn s Y H xs I L ds hg;subst hP hw hK;obtain⟨E,ys,e1,e2,a6⟩:=hg;obtain⟨a4,r1,g1⟩:=P7 I e1;obtain⟨a3,r2,g2⟩:=P7 I e2;have O:=L z aE
  have G:=L to aE
  have f1:=L l aE
  have f2:=L j aE
  have M:∀b ho,H b=some ho->ZOff z to l j b:=λb ho e=>⟨zl e O.1,zl e G.1,zl e f1.1,zl e f2.1⟩;have a8:=r1.length;have a7:=r2.length;refine Kr (I.ok.hd Q) D ⟨ui I e1 O,ui I e1 G,ui I e1 f1,ui I e1 f2⟩ ⟨ui I e2 O,ui I e2 G,ui I e2 f1,ui I e2 f2⟩ ds g1 g2 ?_ λg R=>?_
  ·rcases a6 with q|q
   ·exact .inl (by simp;omega)
   exact .inr (by simp;omega)
  refine⟨rfl,?_⟩;have a:∀b,b∉[z,to,l,j]->ZOff z to l j b:=λb d=>by
   simp only[zam,zaH,zbM,not_or]at d;exact d
  have un:Un (frs X.stack) [z,to,l,j] H H s.heap g :=
   ⟨λb o q _ _ h1=>R b o (a b h1) q,λb o q _ _ h1=>⟨o.slots,R b o (a b h1) q⟩,λb o q n _=>n,λb o q h1=>⟨o,R b o (a b h1) q⟩,
    λb V q=>q,λb o V q=>q,λb ps q=>⟨#[],by rw[q];simp⟩⟩
  refine I.call' (s':={s with heap:=g}) (ch:=[z,to,l,j]) rfl un (λb o e=>(I.hok b o e).stay (λc ob Q q=>R c ob ?_ q) aA λc V q=>q) I.bare λb d=>?_
  ·rcases Q with rfl|Q
   ·exact M _ _ e
   exact M _ _ Q
  have a0:b∈[z,ti,to,l,j]:=by
   simp only[zam,zaH,zbM]at d ⊢;rcases d with rfl|rfl|rfl|rfl <;> simp
  have q:=L b a0;exact⟨q.2.2.2.1,q.2.1,q.2.2.2.2.1,q.2.2.2.2.2⟩
 self:=λ_ _ _ _ _ ds h=>wpAny_pyIter_zip ds.zz h
def L9:bootBuiltins "zip" = some (.type "zip"):=by kernel_rfl
def iZip(K:W.Frag)(ta:TA):TI:=λY H R=>ta Y H λvs H1=>∃b1 b2 l1 l2 E ys,vs=[.ref l1,.ref l2]/\SqK b1 K H1 l1 E/\SqK b2 K H1 l2 ys/\R (Itz b1 b2 K l1 l2) H1
def Bx{X:Cx}{es:List Expr}{kk:Nat}{tp:Pos}{a b:Expr}{ta:TA}{p pos:Pos}(M:Gl X "zip")(L:X.mg "zip" = none)(O:PA X [a,b] ta)(N:starEach [a,b] X.env=(false,eval a X.env)::starEach [b] X.env:=by rfl)(r:(backTo pos (starEach [b] X.env)).any (·.1)=false:=by rfl):PI X (.Tuple es kk tp) (.Call (.Name "zip" p) [a,b] [] pos) (iZip X.K ta):=by
 intro pn s Y H R I h;refine zdB (Yz I M L L9 ?_ aB aB)
 refine zdI (thn (O pos pn s Y H _ I h) λus d Zh=>?_) N r;obtain⟨vs,H1,l,r1,V,Q,l1,l2,E,ys,e,e1,e2,q⟩:=Zh;subst e;obtain⟨u,v,rfl,G,B⟩:=Cf r1;cases G;cases B;obtain⟨k,r1,g1⟩:=P7 l e1;obtain⟨j,r2,g2⟩:=P7 l e2;refine Li (E:=k.toArray) (ys:=j.toArray) g1 g2 λg ds h1=>wpAny_pyIter_zip ds.zz ?_;have D:ZNe (d.heap.objs.size+4) (d.heap.objs.size+2) (d.heap.objs.size+3) d.heap.objs.size (d.heap.objs.size+1):=by
  constructor <;> (intro z;exact absurd (show(_:Nat)=_ from z) aD)
 refine⟨_,_,_,_,H1,rfl,l.kept (t':=d.toks) h1,Ll D,ds,λb y=>?_,q⟩;have x:d.heap.objs.size<=b:=by
  simp only[zam,zaH,zbM]at y;rcases y with rfl|rfl|rfl|rfl|rfl
  ·exact zeB _ _
  ·exact zeB _ _
  ·exact zeB _ _
  ·exact zaj _
  exact zeB _ _
 exact l.fpOk x (l.hok.fresh x)
structure FlyB(P:Program)(w:World)(outer:List Env)(H:Hp)(h:Heap)(H':Hp)(B:Heap)(h':Heap):Prop where
 un:Un (frs outer) [] H H' h h'
 hok:HOk P w H' h'
 cov:∀b o,h'.get? b=some o->b∉frs outer->(H' b≠none\/∃o0,h.get? b=some o0)->B.get? b=some o
def CX1(P:Program)(w:World):CXT:=λouter H s xs e s'=>∃(a C:Addr)(t:Value)(H':Hp)(B:Heap),e=.ref a/\s'.os=s.os/\AllBare s'.gens/\FlyB P w outer H s.heap H' B s'.heap /\
 Heap.FlyingW B outer a (.ref C) t s'.heap/\xs (.ref C) none H'
def sg(t b:Int):Int:=if b<0 then -(Int.gcd t b:Int) else Int.gcd t b
def rt(t b:Int):Int×Int:=(t.fdiv (sg t b),b.fdiv (sg t b))
open PySem.Builtin.Int (intBits)
def fdOk{i j:Int}{m:Nat}(h:j≠0)(a:intBits j<=m)(d:m<=8999:=by omega):FdOk i j:=by
 refine⟨h,?_⟩;unfold intBits at a;rw[zaJ (by simpa using h)]at a
 omega
def El{n:Nat}{i:Int}:okD n (.int i)=True:=by cases n <;> rfl
def Ap{n:Nat}{i:Bool}:okD n (.bl i)=True:=by cases n <;> rfl
def Ej{n:Nat}:okD n (.str i)=True:=by cases n <;> rfl
def Ek{n:Nat}:okD n .non=True:=by cases n <;> rfl
def qm{a b:Int}:eqD (.int a) (.int b)=(a==b):=rfl
def ql{a b:Str}:eqD (.str a) (.str b)=(a==b):=rfl
def z1b{a b:Bool}:eqD (.bl a) (.bl b)=(a==b):=rfl
def w2(g:Int->Int->(EV->Prop)->Prop):FT:=λZ φ=>match Z with
 |[.int a,.int b]=>g a b φ
 |_=>False
def w1(g:Int->(EV->Prop)->Prop):FT:=λZ φ=>match Z with
 |[.int a]=>g a φ
 |_=>False
def Gy{g:Int->(EV->Prop)->Prop}{φ:EV->Prop}(h:w1 g Z φ):∃a,Z=[.int a]/\g a φ:=by
 unfold w1 at h;split at h
 ·exact⟨_,rfl,h⟩
 exact h.elim
def Hi:FT:=w1 λ_ φ=>φ (dv (.bl true))
def r2(g:Int->Int->Int->Int->(EV->Prop)->Prop):FT:=λZ φ=>match Z with
 |[.tup [.int a,.int b],.tup [.int c,.int d]]=>g a b c d φ
 |_=>False
def Ks{x y:Int}(d:intBits x<=3000)(a:intBits y<=3000):IntMulOk x y:=IntMulOk.of_bits (zak d aB) (zak a aB)
def z3y{α:Type}{x:α}{l:List α}:atI (x::l) 0=some x:=by
 rw[show(0:Int)=((0:Nat):Int) from rfl];exact fu rfl
def z3x{α:Type}{x y:α}{l:List α}:atI (x::y::l) 1=some y:=by
 rw[show(1:Int)=((1:Nat):Int) from rfl];exact fu rfl
def z3w{α:Type}{x y z:α}{l:List α}:atI (x::y::z::l) 2=some z:=by
 rw[show(2:Int)=((2:Nat):Int) from rfl];exact fu rfl
variable{κ:Type}[DecidableEq κ]
def valV(kvs:List (κ×V))(k:κ):Option V:=(kvs.find? λa=>decide (a.1=k)).map (·.2)
def putK(kvs:List (κ×V))(k:κ)(v:V):List (κ×V) :=
 if (kvs.any λa=>decide (a.1=k))=true then kvs.map (λa=>if a.1=k then(a.1,v) else a) else kvs++[(k,v)]
def Sv(kvs:List (κ×V))(k:κ):List (κ×V):=kvs.filter λa=>decide (a.1≠k)
def cg{p:κ×V}{r:List (κ×V)}{k:κ}(e:p.1=k):valV (p::r) k=some p.2:=by simp[valV,zdR,e]
def ci{p:κ×V}{r:List (κ×V)}{k:κ}(e:¬ p.1=k):valV (p::r) k=valV r k:=by simp[valV,zdR,e]
theorem Rc(k:κ):∀kvs:List (κ×V),(kvs.any λa=>decide (a.1=k))=(valV kvs k).isSome
 |[]=>rfl
 |p::r=>by
  rw[zdV];by_cases e:p.1=k
  ·simp only[cg e,zaX e,Bool.true_or,Option.isSome_some]
  rw[ci e,zaP e,Bool.false_or];exact Rc k r
def bz(kvs:List (κ×V))(k:κ)(v:V):(putK kvs k v).length<=kvs.length+1:=by
 unfold putK;split
 ·rw[zLm];omega
 rw[zLa,zLc,zLn];omega
def RelO.isSome_eq{o:Option V}{u:Option Value}(r:RelO o u):o.isSome=u.isSome:=by
 cases o with
 |none=>cases u with
  |none=>rfl
  |some _=>exact(show False from r).elim
 |some _=>cases u with
  |none=>exact(show False from r).elim
  |some _=>rfl
theorem RelO.getD{o:Option V}{u:Option Value}{d:V}{d':Value}(r:RelO o u)(a:RelV d d'):RelV (o.getD d) (u.getD d'):=by
 cases o with
 |none=>cases u with
  |none=>exact a
  |some _=>exact(show False from r).elim
 |some _=>cases u with
  |none=>exact(show False from r).elim
  |some _=>exact r
def KV.val{kvs:List (κ×V)}{vs:List (κ×Value)}(r:KV kvs vs)(k:κ):RelO (valV kvs k) (valueAt vs k):=by
 unfold KV at r
 induction r with
 |nil=>exact zdA
 |@cons p q ps qs h t ih =>
  obtain⟨J,h2⟩:=h;by_cases e:p.1=k
  ·have a:q.1=k:=J.symm.trans e;have b:valueAt (q::qs) k=some q.2:=by simp[valueAt,zdR,a]
   rw[cg e,b];exact h2
  have a:¬ q.1=k:=λz=>e (J.trans z);have b:valueAt (q::qs) k=valueAt qs k:=by simp[valueAt,zdR,a]
  rw[ci e,b];exact ih
theorem KV.any{kvs:List (κ×V)}{vs:List (κ×Value)}(r:KV kvs vs)(k:κ):(kvs.any λa=>decide (a.1=k))=vs.any λa=>decide (a.1=k):=by
 unfold KV at r
 induction r with
 |nil=>rfl
 |cons h t ih=>rw[zdV,zdV,ih,h.1]
def KV.repl{kvs:List (κ×V)}{vs:List (κ×Value)}(r:KV kvs vs)(k:κ){y:V}{u:Value}(d:RelV y u) :
  KV (kvs.map λa=>if a.1=k then(a.1,y) else a) (vs.map λa=>if a.1=k then(a.1,u) else a):=by
 unfold KV at r ⊢
 induction r with
 |nil=>exact .nil
 |@cons p q ps qs h t ih =>
  rw[zaG,zaG];refine .cons ?_ ih;obtain⟨J,h2⟩:=h;by_cases e:p.1=k
  ·rw[zaM e,zaM (J.symm.trans e)];exact⟨J,d⟩
  rw[zaJ e,zaJ (λz=>e (J.trans z))];exact⟨J,h2⟩
def KV.put{kvs:List (κ×V)}{vs:List (κ×Value)}(r:KV kvs vs)(k:κ){y:V}{u:Value}(a:RelV y u):KV (putK kvs k y) (stored vs k u):=by
 unfold putK stored;rw[r.any k];by_cases e:(vs.any λd=>decide (d.1=k))=true
 ·rw[zaM e,zaM e];exact r.repl k a
 rw[zaJ e,zaJ e];exact Paired.snoc r ⟨rfl,a⟩
def KV.drop{kvs:List (κ×V)}{vs:List (κ×Value)}(r:KV kvs vs)(k:κ):KV (Sv kvs k) (PySem.without vs k):=by
 unfold KV at r ⊢;unfold Sv PySem.without
 induction r with
 |nil=>exact .nil
 |@cons p q ps qs h t ih =>
  obtain⟨J,h2⟩:=h;rw[zcE,zcE];by_cases e:p.1=k
  ·have a:¬ decide (p.1≠k)=true:=by simp[e]
   have b:¬ decide (q.1≠k)=true:=by simp[J.symm.trans e]
   rw[zaJ a,zaJ b];exact ih
  have d:¬ q.1=k:=λz=>e (J.trans z);have a:decide (p.1≠k)=true:=by simp[e]
  have b:decide (q.1≠k)=true:=by simp[d]
  rw[zaM a,zaM b];exact .cons ⟨J,h2⟩ ih
theorem KV.length{kvs:List (κ×V)}{vs:List (κ×Value)}(r:KV kvs vs):kvs.length=vs.length:=zfQ r
def Jw(kvs:List (κ×V))(k:κ):(Sv kvs k).length<=kvs.length:=List.length_filter_le _ _
def Vm{P:Program}{w:World}{k:Key}{u:Value}(r:RelV (kV k) u):(x4 P w).is k u=true:=by
 cases k with
 |inl i=>obtain⟨t,e⟩:=(show ∃t,u=Value.int i t from r);subst e;exact Ts P w i t
 |inr x=>obtain⟨t,e⟩:=(show ∃t,u=Value.str x t from r);subst e;exact Tr P w x t
theorem Vn{P:Program}{w:World}:∀{ks:List Key}{us:List Value},Vals (ks.map kV) us->ItemsAre (x4 P w) ks us
 |[],_,r=>by rw[zeV]at r;cases r;exact .nil
 |k::ks,_,r=>by
  rw[zaG]at r;cases r with
  |cons h t=>exact .cons (Vm h) (Vn t)
abbrev KT(H:Hp):List (List Key×V)->List (List Key×Addr×Value)->Prop:=Paired λp q=>p.1=q.1/\H q.2.1=some (.tup (p.1.map kV))/\RelV p.2 q.2.2
def KT.val{H:Hp}{kvs:List (List Key×V)}{E:List (List Key×Addr×Value)}(r:KT H kvs E)(k:List Key):RelO (valV kvs k) ((atKey E k).map (·.2)):=by
 induction r with
 |nil=>exact zdA
 |@cons p q ps qs h t ih =>
  obtain⟨J,_,h2⟩:=h;by_cases e:p.1=k
  ·have a:q.1=k:=J.symm.trans e;have b:atKey (q::qs) k=some q.2:=by simp[atKey,zdR,a]
   rw[cg e,b];exact h2
  have a:¬ q.1=k:=λz=>e (J.trans z);have b:atKey (q::qs) k=atKey qs k:=by simp[atKey,zdR,a]
  rw[ci e,b];exact ih
def KT.repl{H:Hp}{kvs:List (List Key×V)}{E:List (List Key×Addr×Value)}(r:KT H kvs E)(k:List Key){y:V}{u:Value}(d:RelV y u) :
  KT H (kvs.map λa=>if a.1=k then(a.1,y) else a) (E.map (putAt k u)):=by
 induction r with
 |nil=>exact .nil
 |@cons p q ps qs h t ih =>
  rw[zaG,zaG];refine .cons ?_ ih;obtain⟨J,h2,g⟩:=h;unfold putAt;by_cases e:p.1=k
  ·rw[zaM e,zaM (J.symm.trans e)];exact⟨J,h2,d⟩
  rw[zaJ e,zaJ (λz=>e (J.trans z))];exact⟨J,h2,g⟩
def KT.put{H:Hp}{kvs:List (List Key×V)}{E:List (List Key×Addr×Value)}(r:KT H kvs E)(k:List Key){b:Addr}{y:V}{u:Value}(g:H b=some (.tup (k.map kV)))(a:RelV y u) :
  KT H (putK kvs k y) (storedH E k b u):=by
 have e:(kvs.any λd=>decide (d.1=k))=(atKey E k).isSome:=by
  rw[Rc,(r.val k).isSome_eq,Option.isSome_map]
 unfold putK storedH;rw[e];by_cases q:(atKey E k).isSome=true
 ·rw[zaM q,zaM q];exact r.repl k a
 rw[zaJ q,zaJ q];exact Paired.snoc r ⟨rfl,g,a⟩
def KT.keeps{H H':Hp}{kvs:List (List Key×V)}{E:List (List Key×Addr×Value)}(r:KT H kvs E)(a:∀ b ys,H b=some (.tup ys)->H' b=some (.tup ys)):KT H' kvs E :=
 Paired.mapP r λ_ _ z=>⟨z.1,a _ _ z.2.1,z.2.2⟩
def Bd{u:HO}(ok:HOk P w H h)(e:Rd H a u):yy P w H h a u:=e.ok ok
def Po{kvs:List (Key×V)}(ok:HOk P w H h)(e:Rd H a (.dK kvs)):kvs.length<=sizeLine/\(a==sysModules)=false/\∃vs,KV kvs vs/\h.DictOf (x4 P w) a vs :=
 show yy P w H h a (.dK kvs) from Bd ok e
def Mr{kvs:List (Key×V)}(ok:HOk P w H h)(e:H a=some (.dK kvs)):kvs.length<=sizeLine/\(a==sysModules)=false/\∃vs,KV kvs vs/\h.DictOf (x4 P w) a vs:=Po ok (.inl e)
def Vl{ks:List Key}(ok:HOk P w H h)(e:H a=some (.tup (ks.map kV))):(tupleKind (x4 P w)).is h ks a:=by
 obtain⟨_,its,r,⟨o,J,h2,n,d⟩,_⟩:=(show yy P w H h a (.tup (ks.map kV)) from ok a _ e);exact⟨o,its.toArray,n,J,h2,d,by simpa using Vn r⟩
def Mq{kvs:List (List Key×V)}(ok:HOk P w H h)(e:Rd H a (.dT kvs)):kvs.length<=sizeLine/\(a==sysModules)=false /\
  ∃E,KT H kvs E/\h.DictOfH (tupleKind (x4 P w)) a E:=by
 obtain⟨z,y,E,r,o,es,ep,J,h2,k,j,g⟩:=(show yy P w H h a (.dT kvs) from Bd ok e);refine⟨z,y,E,r,o,es,ep,J,h2,k,j,λx d=>?_,g⟩;have all:∀{l:List (List Key×V)}{m:List (List Key×Addr×Value)},KT H l m->∀x∈m,(tupleKind (x4 P w)).is h x.1 x.2.1:=by
  intro l m q
  induction q with
  |nil=>intro x d;exact nomatch d
  |@cons p q ps qs hq t ih =>
   intro x d;rcases zam.mp d with e|d
   ·subst e;exact Vl ok (by rw[<- hq.1];exact hq.2.1)
   exact ih x d
 exact all r x d
def z3o{kvs:List (List Key×V)}(ok:HOk P w H h)(e:H a=some (.dT kvs)):kvs.length<=sizeLine/\(a==sysModules)=false /\
  ∃E,KT H kvs E/\h.DictOfH (tupleKind (x4 P w)) a E:=Mq ok (.inl e)
def DGet(H:Hp)(a:Addr)(y:V)(r:Option V):Prop :=
 (∃kvs k,Rd H a (.dK kvs)/\y=kV k/\r=valV kvs k)\/∃kvs k b,Rd H a (.dT kvs)/\y=.ref b/\H b=some (.tup (k.map kV))/\r=valV kvs k
def DPut(H:Hp)(a:Addr)(y v:V)(H':Hp):Prop :=
 (∃kvs k,H a=some (.dK kvs)/\y=kV k/\kvs.length<sizeLine/\H'=upd H a (.dK (putK kvs k v))) \/
 ∃kvs k b,H a=some (.dT kvs)/\y=.ref b/\H b=some (.tup (k.map kV))/\kvs.length<sizeLine/\H'=upd H a (.dT (putK kvs k v))
def DGet.k{H:Hp}{a:Addr}{kvs:List (Key×V)}{k:Key}(e:H a=some (.dK kvs)):DGet H a (kV k) (valV kvs k):=.inl ⟨kvs,k,.inl e,rfl,rfl⟩
def DGet.t{H:Hp}{a b:Addr}{kvs:List (List Key×V)}{k:List Key}(e:H a=some (.dT kvs))(d:H b=some (.tup (k.map kV))):DGet H a (.ref b) (valV kvs k):=.inr ⟨kvs,k,b,.inl e,rfl,d,rfl⟩
def DPut.k{H:Hp}{a:Addr}{kvs:List (Key×V)}{k:Key}{v:V}(e:H a=some (.dK kvs))(hl:kvs.length<sizeLine):DPut H a (kV k) v (upd H a (.dK (putK kvs k v))):=.inl ⟨kvs,k,e,rfl,hl,rfl⟩
def DPut.t{H:Hp}{a b:Addr}{kvs:List (List Key×V)}{k:List Key}{v:V}(e:H a=some (.dT kvs))(d:H b=some (.tup (k.map kV)))(hl:kvs.length<sizeLine) :
  DPut H a (.ref b) v (upd H a (.dT (putK kvs k v))):=.inr ⟨kvs,k,b,e,rfl,d,hl,rfl⟩
variable{y:V}{u r:Value}{o:Option V}
def Inv.big(I:Inv X pn Y H s):sysModules<s.heap.objs.size:=by
 have h:mainGlobals<s.heap.objs.size:=(I.mod.glob.keeps I.bk).lt;exact Nat.lt_trans aB h
def Ul{Q:Value->Shared->Prop}(hu:A.units+1<cLine)(I:Inv X pn Y H s)(g:DGet H a y (some v))(D:RelV y u)(h:∀ q s',Inv X pn Y H s'->RelV v q->Q q s') :
  wpAny (model X.prog X.w) A (getItem (.ref a) u) Q xs s:=by
 rcases g with⟨kvs,k,e,B,l⟩|⟨kvs,k,b,e,B,h1,l⟩
 ·subst B;obtain⟨z,hd,vs,j,dd⟩:=Po I.hok e;obtain⟨q,r,d⟩:=RelO.some_of (v:=v) (o:=valueAt vs k) (by rw[l];exact j.val k)
  exact wpAny_getItem_of (Vm D) dd.mapOf r (h q _ (I.tok _) d)
 subst B;cases (show u=Value.ref b from D);obtain⟨z,hd,E,j,dd⟩:=Mq I.hok e;obtain⟨q,r,d⟩:=RelO.some_of (v:=v) (o:=(atKey E k).map (·.2)) (by rw[l];exact j.val k)
 obtain⟨p,G,x⟩:=zar.mp r;refine wpAny_getItem_heap (zeZ hu) (Vl I.hok h1) dd G ?_;rw[x];exact h q _ (I.tok _) d
def d_in{Q:Value->Shared->Prop}(hu:A.units+1<cLine)(I:Inv X pn Y H s)(g:DGet H a y o)(r:RelV y u)(h:∀ s',Inv X pn Y H s'->Q (.bool o.isSome) s') :
  wpAny (model X.prog X.w) A (compareOp .In u (.ref a)) Q xs s:=by
 rcases g with⟨kvs,k,e,j,l⟩|⟨kvs,k,b,e,j,v,l⟩
 ·subst j;obtain⟨z,hd,vs,d,dd⟩:=Po I.hok e;refine wpAny_in_of (Vm r) hd dd.mapOf ?_;rw[<- (d.val k).isSome_eq,<- l];exact h _ (I.tok _)
 subst j;cases (show u=Value.ref b from r);obtain⟨z,hd,E,d,dd⟩:=Mq I.hok e;refine wpAny_in_heap (zeZ hu) (Vl I.hok v) hd dd ?_;have q:=(d.val k).isSome_eq;rw[Option.isSome_map]at q;rw[<- q,<- l];exact h _ (I.tok _)
def Dx{Q:Value->Shared->Prop}(hu:A.units+1<cLine)(I:Inv X pn Y H s)(g:DGet H a y o)(r:RelV y u)(h:∀ s',Inv X pn Y H s'->Q (.bool (!o.isSome)) s') :
  wpAny (model X.prog X.w) A (compareOp .NotIn u (.ref a)) Q xs s:=by
 rcases g with⟨kvs,k,e,j,l⟩|⟨kvs,k,b,e,j,v,l⟩
 ·subst j;obtain⟨z,hd,vs,d,dd⟩:=Po I.hok e;refine wpAny_notIn_of (Vm r) hd dd.mapOf ?_;rw[<- (d.val k).isSome_eq,<- l];exact h _ (I.tok _)
 subst j;cases (show u=Value.ref b from r);obtain⟨z,hd,E,d,dd⟩:=Mq I.hok e;refine wpAny_notIn_heap (zeZ hu) (Vl I.hok v) hd dd ?_;have q:=(d.val k).isSome_eq;rw[Option.isSome_map]at q;rw[<- q,<- l];exact h _ (I.tok _)
def Sy{h':Heap}{t':Nat}{ob:HO}(I:Inv X pn Y H s)(g:Mut (H a))(j:Heap.SameBut a s.heap h')(k:∃ q,h'.get? a=some q)(d:yy X.prog X.w (upd H a ob) h' a ob) :
  Inv X pn Y (upd H a ob) {s with heap:=h',toks:=t'} :=
 I.write (x:=a) (e:=a) g (.inl rfl) (λb q l z=>(j.2 b l).trans z) k d
def Qo{P:Program}{w:World}{H':Hp}{h':Heap}{kvs:List (Key×V)}{vs:List (Key×Value)}(z:kvs.length<=sizeLine)(hd:(a==sysModules)=false)(d:KV kvs vs)(dd:h'.DictOf (x4 P w) a vs) :
  yy P w H' h' a (.dK kvs):=⟨z,hd,vs,d,dd⟩
def Uk{H':Hp}{Q:Unit->Shared->Prop}(hu:A.units+1<cLine)(I:Inv X pn Y H s)(g:DPut H a y v H')(L:RelV y u)(M:RelV v r)(h:∀ s',Inv X pn Y H' s'->Q () s') :
  wpAny (model X.prog X.w) A (setItem (.ref a) u r) Q xs s:=by
 rcases g with⟨kvs,k,e,G,l,h1⟩|⟨kvs,k,b,e,G,O,l,h1⟩
 ·subst G h1;obtain⟨z,hd,vs,d,dd⟩:=Mr I.hok e;have B:vs.length<=sizeLine:=by rw[<- d.length];exact z
  have hl:(putK kvs k v).length<=sizeLine:=by have:=bz kvs k v;omega
  refine wpAny_setItem_pairs (hsz:=B) (Vm L) dd λh' j D=>h _ ?_;have R:∃q,h'.get? a=some q:=let ⟨q,_,_,x,_⟩:=j;⟨q,x⟩
  exact Sy I (by rw[e];exact zdA) D R (Qo hl hd (d.put k M) j)
 subst G h1;cases (show u=Value.ref b from L);obtain⟨z,hd,E,d,dd⟩:=z3o I.hok e;have B:E.length<=sizeLine:=by rw[<- zfQ d];exact z
 have hl:(putK kvs k v).length<=sizeLine:=by have:=bz kvs k v;omega
 refine wpAny_setItem_heap (hsz:=B) (zeZ hu) (Vl I.hok O) dd λh' j D=>h _ ?_;obtain⟨q,es,ep,x,h2,ds,W,_,V⟩:=j;refine Sy I (by rw[e];exact zdA) D ⟨q,x⟩ ⟨hl,hd,_,(d.put k O M).keeps λc ys N=>?_,q,es,ep,x,h2,ds,W,V⟩
 rw[zj (z2w N e nofun)];exact N
variable{kvs:List (Key×V)}{k:Key}
def z3p{v:V}{d:List Value}{Q:Value->Shared->Prop}(I:Inv X pn Y H s)(e:H a=some (.dK kvs))(y:RelV (kV k) u)(l:valV kvs k=some v)(D:d=[]\/∃ x,d=[x])(h:∀ j s',Inv X pn Y (upd H a (.dK (Sv kvs k))) s'->RelV v j->Q j s'):wpAny (model X.prog X.w) A (call (.builtin "dict.pop") (.ref a::u::d)) Q xs s:=by
 obtain⟨z,hd,vs,g,dd⟩:=Mr I.hok e;obtain⟨j,G,B⟩:=RelO.some_of (v:=v) (o:=valueAt vs k) (by rw[<- l];exact g.val k)
 have L:(keyPart u).isSome=true:=by
  cases k with
  |inl i=>obtain⟨t,q⟩:=(show ∃t,u=Value.int i t from y);subst q;rfl
  |inr x=>obtain⟨t,q⟩:=(show ∃t,u=Value.str x t from y);subst q;rfl
 have N:argsOk "dict.pop" ⟨.ref a::u::d,[]⟩:=by
  rcases D with q|⟨x,q⟩
  ·subst q;exact PySem.F.args_dict_pop_2 _ _
  subst q;exact PySem.F.args_dict_pop_3 _ _ _
 refine call_meetsIn zfM dd.typeIs PySem.F.entry_dict_pop N (meets_dict_pop_there (x4 X.prog X.w) a (Vm y) d D L)
  ⟨vs,j,dd,by rw[<- g.length];exact z,G,λh' r h1=>h j _ ?_ B⟩
 have M:∃q,h'.get? a=some q:=let ⟨q,_,_,hq,_⟩:=r;⟨q,hq⟩
 exact Sy I (by rw[e];exact zdA) h1 M (Qo (zak (Jw kvs k) z) hd (g.drop k) r)
def z1h{r:Value}{Q:Value->Shared->Prop}(I:Inv X pn Y H s)(e:H a=some (.dK kvs))(d:RelV (kV k) u)(l:valV kvs k=none)(h:∀ s',Inv X pn Y H s'->Q r s') :
  wpAny (model X.prog X.w) A (call (.builtin "dict.pop") [.ref a,u,r]) Q xs s:=by
 obtain⟨z,hd,vs,g,dd⟩:=Mr I.hok e;have v:valueAt vs k=none:=RelO.none_of (by rw[<- l];exact g.val k)
 have j:(keyPart u).isSome=true:=by
  cases k with
  |inl i=>obtain⟨t,q⟩:=(show ∃t,u=Value.int i t from d);subst q;rfl
  |inr x=>obtain⟨t,q⟩:=(show ∃t,u=Value.str x t from d);subst q;rfl
 exact call_meetsIn zfM dd.typeIs PySem.F.entry_dict_pop (PySem.F.args_dict_pop_3 _ _ _) (meets_dict_pop_default (x4 X.prog X.w) a (Vm d) hd j r) ⟨vs,dd,v,h _ (I.tok _)⟩
def z3q{Q:Value->Shared->Prop}(I:Inv X pn Y H s)(e:Rd H a (.dK kvs))(h:∀ t s',Inv X pn Y H s'->Q (.int kvs.length t) s'):wpAny (model X.prog X.w) A (call (.builtin "len") [.ref a]) Q xs s:=by
 obtain⟨z,hd,vs,d,dd⟩:=Po I.hok e;refine call_len_dict hd dd (by rw[<- d.length];rw[zaV]at z;omega) ?_
 rw[<- d.length];exact h _ _ (I.tok _)
def Sx{X:Cx}{pn:List (Addr×Obj)}{Y:St}{H:Hp}{s:Shared}{a:Addr}{y:V}{o:Option V}(I:Inv X pn Y H s)(g:DGet H a y o):s.TypeIs (.ref a) "dict":=by
 rcases g with⟨kvs,k,e,_,_⟩|⟨kvs,k,b,e,_,_,_⟩
 ·obtain⟨_,_,vs,_,dd⟩:=Po I.hok e;exact dd.typeIs
 obtain⟨_,_,E,_,dd⟩:=Mq I.hok e;exact dd.typeIs
def z2f(td ty tv:TE):TS:=λD Y H=>tv Y H λv H1=>td Y H1 λx H2=>ty Y H2 λy d=>∃a H4,x=.ref a/\DPut d a y v H4/\D.nx Y H4
def z2g(td ty tv:TE)(d:V->V->Hp->VK->Prop):TS:=λD Y H=>td Y H λx H1=>ty Y H1 λy H2=>∃a v,x=.ref a/\DGet H2 a y (some v) /\
 tv Y H2 λy2 g=>d v y2 g λz e=>∃H5,DPut e a y z H5/\D.nx Y H5
section
variable{o i value:Expr}{pos pos' tpos:Pos}{td ty tv:TE}
def E1(hu:X.A.units+1<cLine)(ho:PE X o td)(hi:PE X i ty)(B:PE X value tv)(G:swapsWith value (some (.Subscript o i pos')) pos.line X.env=pure false) :
  PS X (.Assign [.Subscript o i pos'] value pos) (z2f td ty tv):=by
 intro pn s Y H D I h;refine wpAny_Assign_Subscript (thn (B pn s Y H _ I h) λr d ⟨v,H1,N,k,z⟩=>thn (ho pn d Y H1 _ N z) λu s2 ⟨x,H2,M,j,q⟩=>thn (hi pn s2 Y H2 _ M q) λV R Zh=>?_) G;obtain⟨y,W,L,e,a,O,ex,g,l⟩:=Zh;subst ex;obtain rfl:u=Value.ref a:=j;exact Uk hu L g e k λQ h1=>⟨Y,O,h1,l⟩
def E2{op:Operator}{q:V->V->Hp->VK->Prop}(hu:X.A.units+1<cLine)(ho:PE X o td)(hi:PE X i ty)(W:PE X value tv)(k:InOp X op q)(ds:∀ ov d new,augStore i ov d new=(do holding [new,ov,d] (setItem ov d new);release [new,ov,d] [];pure .next)):PS X (.AugAssign (.Subscript o i tpos) op value pos) (z2g td ty tv q):=by
 intro pn s Y H D I h;refine wpAny_AugAssign_SubscriptAny (thn (ho pn s Y H _ I h) λu h1 ⟨x,H1,I1,M,R⟩=>thn (hi pn h1 Y H1 _ I1 R) λd s2 Zh=>?_) ds;obtain⟨y,H2,I2,l,a,v,ex,g,Q⟩:=Zh;subst ex;obtain rfl:u=Value.ref a:=M;refine Ul hu I2 g l λr G I3 j=>thn (W pn G Y H2 _ I3 Q) λw2 B ⟨y2,H3,I4,e,O⟩=>thn (k pn B Y H3 v y2 r w2 _ I4 j e O) λw3 s5 Zh=>?_;obtain⟨z,H4,I5,L,H5,g5,N⟩:=Zh;exact Uk hu I5 g5 l L λs6 I6=>⟨Y,H5,I6,N⟩
end
def Jx{P:Program}{w:World}{H:Hp}(h:Heap)(a:sysModules<h.objs.size):yy P w H (h.push {cls:=.type "dict",data:=.dict #[]}) h.objs.size (.dK []) :=
 ⟨zbG _,zaS.mpr (Ne.symm (zaY a)),[],.nil,Heap.DictOf.new h⟩
def Cy:TE:=λ_ H Q=>∀p,H p=none->Q (.ref p) (upd H p (.dK []))
section
variable{pos:Pos}
def Kl:PE X (.Dict [] [] pos) Cy:=λpn s Y H Q I h =>
 wpAny_Dict_empty ⟨.ref s.heap.objs.size,_,I.laid (a:=s.heap.objs.size) (o:=.dK []) (t':=s.toks) (λ_ _ q=>zac _ q) (zaj _) (Jx s.heap I.big),rfl,h _ (I.hok.fresh (zaj _))⟩
end
def L5:qu X (.builtin "len") (λE H Q=>∃a kvs,E=[V.ref a]/\H a=some (.dK kvs)/\Q (.int kvs.length) H):=by
 intro pn s Y H E us Q I r h;obtain⟨a,kvs,rfl,e,q⟩:=h;obtain⟨u,rfl,d⟩:=Zu r;cases d;exact z3q I (.inl e) λt s' g=>⟨.int kvs.length,H,g,⟨t,rfl⟩,q⟩
instance decMemKey (k:Key) (ks:List Key):Decidable (k∈ks):=decidable_of_iff (ks.any (λx=>decide (x=k))=true) aE
variable{α:Type}
def wk:List Key->List α->Key->Option α
 |k'::ks,d::Z,k=>if k'=k then some d else wk ks Z k
 |_,_,_=>none
def kput(ks:List Key)(k:Key):List Key:=if k∈ks then ks else ks++[k]
def dput:List Key->List α->Key->α->List α
 |k'::ks,d'::Z,k,d=>if k'=k then d::Z else d'::dput ks Z k d
 |_,_,_,d=>[d]
theorem qv:∀(ks:List Key)(E:List V)(k:Key),valV (ks.zip E) k=wk ks E k
 |[],E,k=>by cases E <;> rfl
 |k'::ks,[],k=>rfl
 |k'::ks,x::E,k=>by
  rw[zbP,wk];by_cases e:k'=k
  ·rw[zaM e,cg (by exact e)]
  rw[zaJ e,ci (by exact e),qv ks E k]
theorem gq{α:Type}:∀{ks:List Key}{E:List α}{k:Key},ks.length=E.length->(wk ks E k=none ↔ k∉ks)
 |[],E,k,h=>by cases E <;> simp[wk] at *
 |k'::ks,[],k,h=>by simp at h
 |k'::ks,x::E,k,h=>by
  rw[wk];by_cases e:k'=k
  ·simp[e]
  rw[zaJ e,gq (by simpa using h)]
  simp[e,Ne.symm e]
theorem Nc:∀(ks:List Key)(E:List V)(k:Key)(v:V),k∉ks->(ks.zip E).map (λa=>if a.1=k then(a.1,v) else a)=ks.zip E
 |[],E,k,v,_=>by cases E <;> rfl
 |k'::ks,[],k,v,_=>rfl
 |k'::ks,x::E,k,v,h=>by
  rw[zbP,zaG,Nc ks E k v λz=>h (zal _ z)];rw[zaJ (by intro z;exact h (zam.mpr (.inl z.symm)))]
theorem R8:∀{ks:List Key}{E:List V}{k:Key},ks.length=E.length->(((ks.zip E).any λa=>decide (a.1=k))=true ↔ k∈ks)
 |[],E,k,h=>by cases E <;> simp at *
 |k'::ks,[],k,h=>by simp at h
 |k'::ks,x::E,k,h=>by
  rw[zbP,zdV,Bool.or_eq_true,R8 (by simpa using h)]
  simp[eq_comm]
theorem G3:∀{ks:List Key}{E:List V}{k:Key}{v:V},ks.Nodup->ks.length=E.length->k∈ks->(ks.zip E).map (λa=>if a.1=k then(a.1,v) else a)=ks.zip (dput ks E k v)
 |[],_,_,_,_,_,h=>by cases h
 |k'::ks,[],_,_,_,h,_=>by simp at h
 |k'::ks,x::E,k,v,nd,hl,h=>by
  obtain⟨g,d⟩:=zaR.mp nd;rw[zbP,zaG,dput];by_cases e:k'=k
  ·subst e;rw[zaM rfl,zaM rfl,Nc ks E k' v g,zbP]
  rw[zaJ e,zaJ e,zbP,G3 d (by simpa using hl) ((zam.mp h).resolve_left (Ne.symm e))]
theorem Wp{α:Type}:∀{ks:List Key}{E:List α}{k:Key}{v:α},ks.length=E.length->k∉ks->dput ks E k v=E++[v]
 |[],E,k,v,h,_=>by
  cases E with
  |nil=>rfl
  |cons=>simp at h
 |k'::ks,[],_,_,h,_=>by simp at h
 |k'::ks,x::E,k,v,h,hn=>by
  rw[dput,zaJ (λz=>hn (zam.mpr (.inl z.symm))),Wp (by simpa using h) λz=>hn (zal _ z)]
  rfl
def Rp(a:ks.Nodup)(hl:ks.length=E.length):putK (ks.zip E) k v=(kput ks k).zip (dput ks E k v):=by
 unfold putK kput;by_cases h:k∈ks
 ·rw[zaM ((R8 hl).mpr h),zaM h,G3 a hl h]
 rw[zaJ (λz=>h ((R8 hl).mp z)),zaJ h,Wp hl h,List.zip_append hl];rfl
def Qn{α:Type}:∀{ks:List Key}{E:List α}{k:Key}{v:α},ks.length=E.length->(kput ks k).length=(dput ks E k v).length:=λ{ks E k v} h=>by
 by_cases hk:k∈ks
 ·unfold kput;rw[zaM hk]
  induction ks generalizing E with
  |nil=>cases hk
  |cons k' ks ih =>
   cases E with
   |nil=>simp at h
   |cons x E =>
    rw[dput];by_cases e:k'=k
    ·rw[zaM e];simpa using h
    rw[zaJ e];have:=ih (E:=E) (by simpa using h) ((zam.mp hk).resolve_left (Ne.symm e))
    simp[this]
 rw[Wp h hk];unfold kput;rw[zaJ hk];simp[h]
def X0(d:ks.Nodup):(kput ks k).Nodup:=by
 unfold kput;split
 ·exact d
 rename_i h;exact zaO.mpr ⟨d,by simp,by intro a j b g e;simp at g;subst g;exact h (e▸j)⟩
theorem sw:∀{ks:List Key}{Z:List D}{E:List V}{k:Key},Reps K H O Z E->(∀d,wk ks Z k=some d->∃v,wk ks E k=some v/\Rep K H O d v)/\(wk ks Z k=none->wk ks E k=none)
 |[],Z,E,k,r=>⟨(λd h=>by cases Z <;> cases h),(λ_=>by cases E <;> rfl)⟩
 |k'::ks,[],E,k,r=>by
  cases r
  exact⟨(λd h=>by cases h),λ_=>rfl⟩
 |k'::ks,d'::Z,E,k,r=>by
  obtain⟨v,ws,rfl,q,t⟩:=r;rw[wk,wk];by_cases e:k'=k
  ·rw[zaM e,zaM e];exact⟨(λd h=>by cases h;exact⟨v,rfl,q⟩),(λh=>by cases h)⟩
  rw[zaJ e,zaJ e];exact sw t
theorem b7:∀{ks:List Key}{Z:List D}{E:List V}{k:Key}{d:D}{v:V},Reps K H O Z E->Rep K H O d v->Reps K H O (dput ks Z k d) (dput ks E k v)
 |[],Z,E,k,d,v,r,q=>by
  have e1:dput ([]:List Key) Z k d=[d]:=by cases Z <;> rfl
  have e2:dput ([]:List Key) E k v=[v]:=by cases E <;> rfl
  rw[e1,e2];exact zr.one q
 |k'::ks,[],E,k,d,v,r,q=>by
  cases r
  exact zr.one q
 |k'::ks,d'::Z,E,k,d,v,r,q=>by
  obtain⟨a,ws,rfl,g,t⟩:=r;rw[dput,dput];by_cases e:k'=k
  ·rw[zaM e,zaM e];exact⟨v,ws,rfl,q,t⟩
  rw[zaJ e,zaJ e];exact⟨a,_,rfl,g,b7 t q⟩
def keyD:D->Option Key
 |.int i=>some (.inl i)
 |.str x=>some (.inr x)
 |_=>none
def je{K:W.Frag}{H:Hp}{O:List Addr}{d:D}{v:V}{k:Key}(h:View K H O d v)(e:keyD d=some k):v=kV k:=by
 cases d with
 |int i=>cases e;exact h
 |str i=>cases e;exact h
 |_=>cases e
section
variable{a b e o:Expr}{ta tb:TD}{t:TDs}{pos:Pos}
def Qk:ED M X (.Dict [] [] pos) (λ_ φ=>φ (df (.dk [] []))):=λH_=>impE Kl λY H Q q=>by
 obtain⟨U,o,R,φ,a,k⟩:=q;intro p d;exact k (.ref p) (df (.dk [] [])) _ (y4 d _) ⟨p,rfl,d,R.ofree d,[],zm,rfl,zcD,rfl⟩ a
def G0(hu:X.A.units+1<cLine):OpR X (compareOp .In) (λx y H Q=>∃a kvs k,y=.ref a/\H a=some (.dK kvs)/\x=kV k/\Q (.bl (valV kvs k).isSome) H):=by
 intro pn s Y H x y v u Q I e d h;obtain⟨a,kvs,k,rfl,g,rfl,q⟩:=h;cases d;exact d_in hu I (DGet.k g) e λs' j=>⟨.bl _,H,j,rfl,q⟩
def N4(hu:X.A.units+1<cLine):OpR X (compareOp .NotIn) (λx y H Q=>∃a kvs k,y=.ref a/\H a=some (.dK kvs)/\x=kV k/\Q (.bl (!(valV kvs k).isSome)) H):=by
 intro pn s Y H x y v u Q I e d h;obtain⟨a,kvs,k,rfl,g,rfl,q⟩:=h;cases d;exact Dx hu I (DGet.k g) e λs' j=>⟨.bl _,H,j,rfl,q⟩
def Sj{α:Type}{ks:List Key}{E:List α}(h:ks.length=E.length):(wk ks E k).isSome=decide (k∈ks):=by
 by_cases hk:k∈ks
 ·rw[zaX hk];cases e:wk ks E k with
  |none=>exact absurd hk ((gq h).mp e)
  |some _=>rfl
 rw[zaP hk,(gq h).mpr hk];rfl
def Y3:D->Bool
 |.non=>true
 |.bl _=>true
 |.int _=>true
 |.str _=>true
 |_=>false
def inD(x:D)(l:List D):Bool:=l.any λy=>eqD y x
def sIn(a:Bool):D->D->(EV->Prop)->Prop:=λx y φ=>match y with
 |.dk ks _=>(match keyD x with|some k=>φ (dv (.bl (if a then !decide (k∈ks) else decide (k∈ks))))|none=>False)
 |.lst l=>Y3 x=true/\l.all Y3=true/\φ (dv (.bl (if a then !inD x l else inD x l)))
 |.tup l=>Y3 x=true/\l.all Y3=true/\φ (dv (.bl (if a then !inD x l else inD x l)))
 |.str z=>(match x with|.str p=>φ (dv (.bl (if a then !(!(Builtin.Str.occurrences z p 0 z.length 1).isEmpty) else !(Builtin.Str.occurrences z p 0 z.length 1).isEmpty)))|_=>False)
 |_=>False
def Zb{K:W.Frag}{H:Hp}{O:List Addr}{d:D}{v:V}(h:View K H O d v)(f:Y3 d=true):Y2 v=true/\∀(e:D)(w:V),View K H O e w->Y3 e=true->eqV v w=eqD d e:=by
 cases d with
 |non=>cases (show v=_ from h);exact⟨rfl,λe w a g=>by cases e <;> first|(cases (show w=_ from a);rfl)|cases g⟩
 |bl b=>cases (show v=_ from h);exact⟨rfl,λe w a g=>by cases e <;> first|(cases (show w=_ from a);rfl)|cases g⟩
 |int b=>cases (show v=_ from h);exact⟨rfl,λe w a g=>by cases e <;> first|(cases (show w=_ from a);rfl)|cases g⟩
 |str b=>cases (show v=_ from h);exact⟨rfl,λe w a g=>by cases e <;> first|(cases (show w=_ from a);rfl)|cases g⟩
 |_=>cases f
theorem Sl{K:W.Frag}{H:Hp}{O:List Addr}{x:D}{v:V}(a:View K H O x v)(e:Y3 x=true):∀{l:List D}{E:List V},Reps K H O l E->l.all Y3=true->E.all Y2=true/\inV v E=inD x l
 |[],_,r,_=>by cases r;exact⟨rfl,rfl⟩
 |d::l,E,r,f=>by
  obtain⟨w,ws,rfl,q,t⟩:=r;rw[List.all_cons,zbI]at f;obtain⟨j,g⟩:=Sl a e t f.2;obtain⟨g1,g2⟩:=Zb q.view f.1;refine⟨by rw[List.all_cons,g1,j];rfl,?_⟩
  unfold inV inD at *;rw[zdV,zdV,g,g2 x v a e]
def Tt{K:W.Frag}{d:Bool}:jz K (λx y H Q=>(∃a kvs k,y=.ref a/\H a=some (.dK kvs)/\x=kV k/\Q (.bl (if d then !(valV kvs k).isSome else(valV kvs k).isSome)) H)\/rIn K d x y H Q\/∃i j,x=.str i/\y=.str j/\Q (.bl (if d then !(!(Builtin.Str.occurrences j i 0 j.length 1).isEmpty) else !(Builtin.Str.occurrences j i 0 j.length 1).isEmpty)) H) (sIn d):=by
 intro H O x y D B φ Q ho e u h k;unfold sIn at h;split at h
 ·split at h
  ·rename_i ks Z kk z;obtain⟨a,E,rfl,q,l,G,r⟩:=u;refine .inl ⟨a,_,kk,rfl,q,je e z,?_⟩;rw[qv,Sj (by rw[l,r.length])]
   exact k _ _ H (Same.refl H) aH h
  exact h.elim
 ·obtain⟨g,v,h⟩:=h;obtain⟨a,E,rfl,q,r⟩:=u;obtain⟨g1,g2⟩:=Sl e g r v;refine .inr (.inl ⟨a,E,rfl,.inl (SqL.of q),(Zb e g).1,g1,?_⟩);rw[g2];exact k _ _ H (Same.refl H) aH h
 ·obtain⟨g,v,h⟩:=h;obtain⟨a,E,rfl,q,r⟩:=u;obtain⟨g1,g2⟩:=Sl e g r v;refine .inr (.inl ⟨a,E,rfl,.inr q.1,(Zb e g).1,g1,?_⟩);rw[g2];exact k _ _ H (Same.refl H) aH h
 ·split at h
  ·exact .inr (.inr ⟨_,_,e,u,k _ _ H (Same.refl H) aH h⟩)
  exact h.elim
 exact h.elim
def z3m(hu:X.A.units+64<cLine)(g:ED M X a ta)(e:ED M X b tb)(d:behindInMarks .In b=false:=by with_unfolding_all rfl):ED M X (.Compare a [.In] [b] pos) (d2 (sIn false) ta tb):=Ql ((G0 aD).or (Vd.or Vc)) Tt g e d
def z3k(hu:X.A.units+64<cLine)(g:ED M X a ta)(e:ED M X b tb)(d:behindInMarks .In b=false:=by with_unfolding_all rfl):ET M X (.Compare a [.In] [b] pos) (tBo (d2 (sIn false) ta tb)):=jm ((G0 aD).or (Vd.or Vc)) Tt g e d
def Jp(hu:X.A.units+64<cLine)(g:ED M X a ta)(e:ED M X b tb)(d:behindInMarks .NotIn b=false:=by with_unfolding_all rfl):ET M X (.Compare a [.NotIn] [b] pos) (tBo (d2 (sIn true) ta tb)):=jm ((N4 aD).or (Vb.or Va)) Tt g e d
def sIxx:D->D->(EV->Prop)->Prop:=λx y φ=>match x with
 | .dk ks Z=>(match keyD y with
  | some k=>(match wk ks Z k with
   |some d=>φ (dv d)
   | none=>False)
  | none=>False)
 |x=>sIx2 x y φ
def D4(hu:X.A.units+1<cLine):IxR X (λx y H Q=>∃a kvs k v,x=.ref a/\H a=some (.dK kvs)/\y=kV k/\valV kvs k=some v/\Q v H):=by
 intro value d pn s Y H x y v u Q I r l h z;obtain⟨a,kvs,k,w,rfl,B,rfl,e,q⟩:=h;cases r;have g:DGet H a (kV k) (some w):=by rw[<- e];exact DGet.k B
 exact tail_any (Sx I g) PySem.F.slot_dict_getitem.lookup (Ul hu I g l λG s' D j=>⟨w,H,D,j,q⟩) z
def Kz:jz X.K (λx y H Q=>rIx X.K x y H Q\/∃a kvs k v,x=.ref a/\H a=some (.dK kvs)/\y=kV k/\valV kvs k=some v/\Q v H) sIxx:=by
 intro H O x y u j φ Q ho g e h k;cases x with
 |dk ks Z =>
  obtain⟨a,E,rfl,q,l,I,r⟩:=g;unfold sIxx at h
  dsimp only at h
  split at h
  ·rename_i kk D;split at h
   ·rename_i d G;obtain⟨v,B,z⟩:=(sw (ks:=ks) (k:=kk) r).1 d G;exact .inr ⟨a,_,kk,v,rfl,q,je e D,by rw[qv];exact B,k _ _ H (Same.refl H) (RV.val z) h⟩
   exact h.elim
  exact h.elim
 |_=>exact .inl (Es H O _ y u j φ Q ho g e h k)
def zk(hu:X.A.units+64<cLine)(g:ED M X a ta)(e:ED M X b tb)(d:Ws b:=by intro _ _;rfl):ED M X (.Subscript a b pos) (d2 sIxx ta tb):=λH_=>impE (E8 (Ga.or (D4 aD)) (g H_) (e H_) d) (J3 Kz)
end
section
variable{te tk:TD}
def Ba(i:Nat)(tk te:TD):TDS:=λU ds=>match slot U i with
 | some ⟨.own,.dk ks Z⟩=>te U λr=>tk U λa=>(match r.k with|.own=>False|_=>True)/\Z.length<=100000/\(match keyD a.d with
  |some k=>ds.nx (setS U i (dO (.dk (kput ks k) (dput ks Z k r.d))))
  | none=>False)
 |_=>False
end
def XP(M:Hp->Prop)(X:Cx)(d:DE->Addr->Prop):Prop:=∀(H_:Hp),M H_->∀(U:DE)(o:List (Nat×Addr))(pn:List (Addr×Obj))(Y:St)(H:Hp)(s:Shared)(e:Value)(s':Shared),Inv X pn Y H s->REnv X.K H_ H Y U o ->
 CX1 X.prog X.w X.stack H s (λa _ H'=>Same H H'/\∃C,a=.ref C/\d U C) e s'->X.xe e s'
def sx(r:Reps K H [] Z vs):REnv K H H (ZZ.start N vs) (yx N.length Z) []:=by
 have a:=r.length;refine⟨Same.refl H,(λ_ z=>absurd z aE),(λ_ z=>absurd z aE),(λ_ z=>absurd z aE),zcD,λi r' e=>?_,?_⟩
 ·unfold yx at e;rcases zcX i Z.length with hi|hi
  ·rw[zbF (by simpa using hi),zai]at e
   have d:Z[i]?=some Z[i]:=by simp[hi]
   rw[d]at e;have k:some (dv Z[i])=some r':=zaT e;cases k;obtain⟨v,j,g⟩:=r.get d;refine⟨v,?_,.inl ⟨rfl,g⟩⟩;unfold ZZ.start;rw[zbF (by rw[zLm,a];exact hi),zai,j]
   rfl
  rw[zbD (by simpa using hi),zbO]at e
  split at e <;> cases e
 unfold ZZ.start yx;simp[a]
def La(x y:Str):(x++y).cps.toList=x.cps.toList++y.cps.toList:=by
 show(x.cps++y.cps).toList=_;simp
def cp10(a:0<=j)(J:j<=1000):CPow 10 j=True:=by
 refine eq_true ⟨a,by omega,by decide⟩
def O5{k:Nat}:((10:Int) ^ k=0)=False:=by
 refine eq_false ?_;have:(0:Int)<10 ^ k:=Int.pow_pos aB
 omega
def uk(h:j≠0)(J:j.natAbs<=1000000000000):FdOk i j=True:=eq_true (fdOk (m:=64) h (PySem.intBits_le_iff.mpr aD))
def Uq(l:List D)(k:Nat):cutD l none (some (k:Int))=l.take k:=by
 unfold cutD;rw[ZZ.sIx_none,ZZ.sIx_nat,List.drop_zero,Nat.sub_zero];rw[List.take_eq_take_iff];omega
def ju(l:List D)(k:Nat):cutD l (some (k:Int)) none=l.drop k:=by
 unfold cutD;rw[ZZ.sIx_none,ZZ.sIx_nat];by_cases h:k<=l.length
 ·rw[Nat.min_eq_left h,zfD aE]
 rw[Nat.min_eq_right aD,zeC (zaj _),zeC aD]
 simp
def Uz{α:Type}{l:List α}{i:Int}{x:α}(a:0<=i)(h:l[i.toNat]?=some x):atI l i=some x:=by
 have:=fu h
 rwa [Int.toNat_of_nonneg a]at this
def uw(x m:Int)(h:0<m):0<=x.fmod m/\x.fmod m<m:=⟨Int.fmod_nonneg_of_pos x h,Int.fmod_lt_of_pos x h⟩
def jx{x:Int}(h:x.natAbs<2 ^ m):intBits x<=m:=PySem.intBits_le_iff.mpr h
def Z1(x:Str):x.length=x.cps.toList.length:=by
 show x.cps.size=_;simp
def R7(x y:Str):(x++y).length=x.length+y.length:=by
 rw[Z1,La,zLa,<- Z1,<- Z1]
def ug(Z:List D)(h:∀ φ:List D->Prop,φ Z->ti U φ)(P:Nat->DE->Prop)(e:P 0 U)(a:∀ i d U,Z[i]?=some d->P i U->g d U λρ'=>tb ρ' {ds with nx:=P (i+1),ct:=P (i+1),bk:=ds.nx})(hd:∀ U,P Z.length U->ds.nx U):sFor ti g tb U ds:=h _ ⟨P,e,a,hd⟩
def xa(Z:List D)(h:∀ L:List D->Prop,L Z->ti U L)(f:D->Option D)(hl:Z.length<=100000)(e:∀ d∈Z,g d (ρ0 n js U) λρ'=>tc ρ' λc=>(c=true->te ρ' λr=>(match r.k with|.own=>False|_=>True)/\f d=some r.d)/\(c=false->f d=none))(a:φ (df (.lst (Z.filterMap f)))):Pp ti n js g tc te U φ:=h _ ⟨f,hl,e,a⟩
def rq{lo:Int}(h:(rngD lo n)[i]?=some d):i<n/\d=.int (lo+(i:Int)):=by
 unfold rngD at h;rw[zai]at h;cases e:(List.range n)[i]? with
 |none=>rw[e]at h;cases h
 |some m =>
  rw[e]at h;have hi:=(zag.mp e).1;rw[zfH]at hi;rw[List.getElem?_range hi]at e;cases e;cases h;exact⟨hi,rfl⟩
def g9{lo:Int}:(rngD lo n).length=n:=by unfold rngD;simp
def C4{α β:Type}(f:α->β)(l:List α)(i:Int):atI (l.map f) i=(atI l i).map f:=by
 unfold atI;rw[zLm];cases ixN l.length i with
 |none=>rfl
 |some j=>simp
def ww{k:Nat}{pos:Pos}(g:X.K=K0)(e:X.calm=true)(h:PGs X es t)(d:(assignEach es X.env).length=n:=by rfl)(a:(assignEach es X.env).findIdx? (·.1)=none:=by rfl):PG X (.Tuple es k pos) (gTup K0 n t):=by
 subst g;exact Bz e h d a
def zipD(E ys:List D):List D:=List.zipWith (λx y=>D.tup [x,y]) E ys
def seqD:D->Option (List D)
 |.lst Z=>some Z
 |.tup Z=>some Z
 |.scr ns=>some (ns.map D.int)
 |_=>none
def Lx:seqD (.lst Z)=some Z:=rfl
def Lv:seqD (.tup Z)=some Z:=rfl
def Lw:seqD (.scr ns)=some (ns.map D.int):=rfl
def SeqP(b:Bool)(K:W.Frag)(H:Hp)(O:List Addr)(l:Addr)(d:D):Prop:=match d with
 |.lst Z=>b=false/\∃E,H l=some (.lst E)/\l∉O/\Reps K H O Z E
 |.tup Z=>b=true/\∃E,SqT K H l E/\Reps K H O Z E
 |.scr ns=>b=false/\Scr K H l ns
 |_=>False
def SeqP.of{K:W.Frag}{H:Hp}{O:List Addr}{d:D}{v:V}{Z:List D}(h:Rep K H O d v)(e:seqD d=some Z):∃b l,v=.ref l/\SeqP b K H O l d:=by
 cases d with
 |lst es=>obtain⟨a,E,rfl,q,n,r⟩:=h;exact⟨false,a,rfl,rfl,E,q,n,r⟩
 |tup es=>obtain⟨a,E,rfl,q,r⟩:=h;exact⟨true,a,rfl,rfl,E,q.1,r⟩
 |scr ns=>obtain⟨a,rfl,q⟩:=h;exact⟨false,a,rfl,rfl,q⟩
 |_=>cases e
def SeqP.sq{b:Bool}{K:W.Frag}{H:Hp}{O:List Addr}{l:Addr}{d:D}{Z:List D}(h:SeqP b K H O l d)(e:seqD d=some Z):∃E,SqK b K H l E/\Reps K H O Z E:=by
 cases d with
 |lst es=>obtain⟨rfl,E,q,n,r⟩:=h;cases e;exact⟨E,SqL.of q,r⟩
 |tup es=>obtain⟨rfl,E,q,r⟩:=h;cases e;exact⟨E,q,r⟩
 |scr ns=>obtain⟨rfl,q⟩:=h;cases e;exact⟨_,q.seq,zr.ints ns⟩
 |_=>cases e
theorem SeqP.grow{b:Bool}{K:W.Frag}{H H':Hp}{O O':List Addr}{l:Addr}{d:D}(h:SeqP b K H O l d)(g:Grow O O' H H'):SeqP b K H' O' l d:=by
 cases d with
 |lst es=>obtain⟨rfl,E,q,n,r⟩:=h;exact⟨rfl,E,(g.keep _ _ q n).1,(g.keep _ _ q n).2,zr.grow g _ _ r⟩
 |tup es=>obtain⟨rfl,E,q,r⟩:=h;exact⟨rfl,E,Oa g.tups g.frzs q,zr.grow g _ _ r⟩
 |scr ns=>obtain⟨rfl,q⟩:=h;exact⟨rfl,Ri g.frzs q⟩
 |_=>exact h.elim
def z0j{K:W.Frag}{L h1:Bool}{l1 l2:Addr}{d1 d2:D}{E ys:List D}(e1:seqD d1=some E)(e2:seqD d2=some ys):ItD K (Itz L h1 K l1 l2) (zipD E ys) (λH O=>SeqP L K H O l1 d1/\SeqP h1 K H O l2 d2) where
 go:=λH O i d ⟨k,p2⟩ e=>by
  obtain⟨us,q,r1⟩:=k.sq e1;obtain⟨vs,l,r2⟩:=p2.sq e2;unfold zipD at e;rw[zdL]at e;cases ex:E[i]? with
  |none=>rw[ex]at e;cases e
  |some x =>
   cases ey:ys[i]? with
   |none=>rw[ex,ey]at e;cases e
   |some y =>
    rw[ex,ey]at e;cases e;obtain⟨u,I,Q⟩:=r1.get ex;obtain⟨v,G,N⟩:=r2.get ey;refine⟨⟨us,vs,u,v,q,l,I,G⟩,λz H' M=>?_⟩;obtain⟨T,V,R,hT,rfl,j,a,rfl⟩:=M;have j:=j _ q;have a:=a _ l;rw[I]at j;rw[G]at a;cases j;cases a;have r:Same H (upd H T (.tup [u,v])):=λb w B=>by rw[zj (zl B hT)];exact B
    refine⟨r,T,[u,v],rfl,⟨.inl (.inl zm),zm⟩,?_⟩;exact⟨u,[v],rfl,RepN.grow (Grow.same r) _ _ Q,v,[],rfl,RepN.grow (Grow.same r) _ _ N,rfl⟩
 stop:=λH O ⟨k,p2⟩=>by
  obtain⟨us,q,r1⟩:=k.sq e1;obtain⟨vs,l,r2⟩:=p2.sq e2;refine⟨us,vs,q,l,?_⟩;have J:=r1.length;have h2:=r2.length;unfold zipD;rw[zeP,J,h2];omega
 keep:=λO O' H H' ⟨k,p2⟩ g=>⟨k.grow g,p2.grow g⟩
def iZ(t:TDs):TID:=λU φ=>t U λa=>match a with
 |[⟨k1,d1⟩,⟨k2,d2⟩]=>(match k1 with|.own=>False|_=>True)/\(match k2 with|.own=>False|_=>True)/\match seqD d1,seqD d2 with
  |some E,some ys=>φ (zipD E ys)
  |_,_=>False
 |_=>False
def Qg{es:List Expr}{kk:Nat}{tp:Pos}{a b:Expr}{t:TDs}{p pos:Pos}(D:X.mg "zip" = none)(h1:EA M X [a,b] t)(G:Gl X "zip":=by rfl)(I:starEach [a,b] X.env=(false,eval a X.env)::starEach [b] X.env:=by rfl)(g:(backTo pos (starEach [b] X.env)).any (·.1)=false:=by rfl):EI M X (.Tuple es kk tp) (.Call (.Name "zip" p) [a,b] [] pos) (iZ t):=λH_=>impI (Bx G D (h1 H_) I g) λY H R q=>by
 obtain⟨U,o,O,φ,e,k⟩:=q;refine⟨U,o,O,_,e,λvs V H1 u d J=>?_⟩;split at J
 ·rename_i ds d1 W d2;obtain⟨B,z,J⟩:=J;obtain⟨Q,w1,rfl,x,v2,w2,rfl,v,rfl⟩:=d;have y:=x.solid (u6 B);have p2:=v.solid (u6 z);split at J
  ·rename_i E ys e1 e2;obtain⟨N,l1,rfl,l⟩:=SeqP.of y e1;obtain⟨L,l2,rfl,j⟩:=SeqP.of p2 e2;obtain⟨us,r,_⟩:=l.sq e1;obtain⟨ws,y2,_⟩:=j.sq e2;exact⟨N,L,l1,l2,us,ws,rfl,r,y2,k _ _ _ H1 u (z0j e1 e2) ⟨l,j⟩ J⟩
  exact J.elim
 exact J.elim
def D7:List D->Option (List Int)
 |[]=>some []
 |.int n::r=>(D7 r).map (n::·)
 |_::_=>none
theorem Vy:∀(ns:List Int),D7 (ns.map D.int)=some ns
 |[]=>rfl
 |n::ns=>by rw[zaG,D7,Vy ns];rfl
theorem b6{K:W.Frag}{H:Hp}{O:List Addr}:∀{ns:List Int}{E:List V},Reps K H O (ns.map D.int) E->E=ns.map V.int
 |[],_,h=>h
 |n::ns,E,h=>by
  obtain⟨v,r,rfl,q,t⟩:=h;rw[b6 t];cases (show v=_ from q);rfl
def frzS:DE->Nat->DE
 |[],_=>[]
 |x::r,0=>x.map (λr=>dv r.d)::r
 |x::r,i+1=>x::frzS r i
theorem Qb:∀(U:DE)(i j:Nat),(frzS U i)[j]?=if j=i then U[j]?.map (λx=>x.map λr=>dv r.d) else U[j]?
 |[],i,j=>by simp[frzS]
 |x::r,0,0=>rfl
 |x::r,0,j+1=>by simp[frzS]
 |x::r,i+1,0=>by simp[frzS]
 |x::r,i+1,j+1=>by
  have:=Qb r i j;simp only[frzS,zdW,this];by_cases h:j=i
  ·simp[h]
  rw[zaJ h,zaJ aD]
theorem Qa:∀(U:DE)(i:Nat),(frzS U i).length=U.length
 |[],_=>rfl
 |_::_,0=>rfl
 |x::r,i+1=>by simp[frzS,Qa r i]
def REnv.frz1{K:W.Frag}{H_ H:Hp}{Y:St}{U:DE}{o:List (Nat×Addr)}(R:REnv K H_ H Y U o)(i:Nat):∃o',REnv K H_ H Y (frzS U i) o'/\∀p∈o',p∈o:=by
 refine⟨o.filter λp=>decide (p.1≠i),?_,λp l=>(zcA.mp l).1⟩;have sub:∀p∈o.filter (λp=>decide (p.1≠i)),p∈o:=λp l=>(zcA.mp l).1;have g:∀a∈(o.filter (λp=>decide (p.1≠i))).map Prod.snd,a∈o.map Prod.snd:=λa B=>by
  obtain⟨p,l,e⟩:=zah.mp B;exact zah.mpr ⟨p,sub p l,e⟩
 exact {
  same:=R.same
  fresh:=λp l=>R.fresh p (sub p l)
  trk:=λp l=>R.trk p (sub p l)
  mtb:=λp l=>R.mtb p (sub p l)
  nda:=List.Nodup.sublist (List.Sublist.map _ List.filter_sublist) R.nda
  len:=by rw[Qa];exact R.len
  slots:=λj r e=>by
   rw[Qb]at e;by_cases hj:j=i
   ·rw[zaM hj]at e;cases e1:U[j]? with
    |none=>rw[e1]at e;cases e
    |some x =>
     rw[e1]at e;cases x with
     |none=>cases e
     |some r' =>
      have D:some (dv r'.d)=some r:=zaT e;cases D;obtain⟨v,y,q⟩:=R.slots j r' e1;refine⟨v,y,.inl ⟨rfl,?_⟩⟩;rcases q with⟨_,q⟩|⟨_,a,rfl,m,c⟩
      ·exact RepN.sub g _ _ q
      refine(c.sub g).rep λz=>?_;obtain⟨p,l,ep⟩:=zah.mp z;have:=W4 R.nda (sub p l) m ep;have u:=zbU (zcA.mp l).2;rw[this]at u;exact u hj
   rw[zaJ hj]at e;obtain⟨v,y,q⟩:=R.slots j r e;refine⟨v,y,?_⟩;rcases q with⟨k,q⟩|⟨k,a,e1,m,c⟩
   ·exact .inl ⟨k,RepN.sub g _ _ q⟩
   exact .inr ⟨k,a,e1,zcA.mpr ⟨m,zaX hj⟩,c.sub g⟩}
def sFrz(i:Nat)(t:TDS):TDS:=λU ds=>t (frzS U i) ds
def Oe(i:Nat){X:Cx}{st:Stmt}{t:TDS}(h:SD M X st t):SD M X st (sFrz i t):=λH_=>impS (h H_) λD Y H h=>by
 obtain⟨U,o,R,ds,x,r,q,l,k⟩:=h;obtain⟨o',y,sub⟩:=R.frz1 i;have g:Grow (o.map Prod.snd) (o'.map Prod.snd) H H:=⟨λb u h n=>⟨h,λz=>n (by
  obtain⟨p,v,e⟩:=zah.mp z;exact zah.mpr ⟨p,sub p v,e⟩)⟩,λb E h=>h,λb ob u h=>h⟩
 exact⟨_,o',y,ds,x,λd a H2 o2 g2 R2 j=>r d a H2 o2 (g.trans g2) R2 j,λd a H2 o2 g2 R2 j=>q d a H2 o2 (g.trans g2) R2 j,λd a H2 o2 g2 R2 j=>l d a H2 o2 (g.trans g2) R2 j,k⟩
def cat_tup0{t b:Addr}{ws:List Value}{Q:Value->Shared->Prop}(x:IsTup s.heap t #[])(y:IsTup s.heap b ws.toArray)(J:Q (.ref b) s):wpAny (model prog w) A (binaryOp .Add (.ref t) (.ref b)) Q xs s:=by
 obtain⟨⟨z,dd,q,u⟩,ho,l,n,hd⟩:=id x;obtain⟨⟨r,j,k,g⟩,a,e,v,d⟩:=id y;simp only at l hd e d;subst l hd e d;exact concat_meets ⟨_,ho,rfl⟩ ⟨_,a,rfl⟩ noFill_tuple_add seq_tuple_add zfB zeY (zeT _ _)
   (tuple_addW0 t b #[] ws.toArray n v dd j u g aE) ⟨ho,a,J⟩
def Bf(K:W.Frag):R2:=λx y H Q=>∃a b ys,x=.ref a/\y=.ref b/\SqT K H a []/\SqT K H b ys/\Q (.ref b) H
def Kp:OpR X (binaryOp .Add) (Bf X.K):=by
 intro pn s Y H x y v u Q I g e h;obtain⟨a,b,ys,rfl,rfl,l,k,q⟩:=h;cases g;cases e;obtain⟨its,r1,j,_⟩:=I.tuple l;obtain⟨d,r2,p2,_⟩:=I.tuple k;cases r1;exact ZZ.cat_tup0 j p2 ⟨.ref b,H,I,rfl,q⟩
def bg:List EV->Prop
 |[]=>True
 |r::rs=>xx r/\bg rs
theorem RVs.anew{K:W.Frag}{H0 H:Hp}{O:List Addr}:∀{rs:List EV}{vs:List V},RVs K H0 H O rs vs->bg rs->zr K H (λa=>a∉O/\H0 a=none) (rs.map EV.d) vs
 |[],_,h,_=>h
 |r::rs,vs,h,p=>by
  obtain⟨v,ws,e,J,t⟩:=h;exact⟨v,ws,e,J.anew p.1,RVs.anew t p.2⟩
section
variable{a b e:Expr}{es:List Expr}{t:TDs}{ta tb:TD}{pos:Pos}
def z1i(t:TDs):TD:=λU φ=>t U λa=>bg a/\Nat.ble a.length 1000=true/\φ ⟨.new,.tup (a.map EV.d)⟩
def Dn {x1} (h:EA M X es t):ED M X (.Tuple es x1 pos) (z1i t):=λH_=>impE (N2 (h H_)) λY H Q q=>by
 obtain⟨U,o,R,φ,e,k⟩:=q;refine⟨U,o,R,_,e,λvs l H1 j a J=>⟨by rw[a.length];exact Xx J.2.1,λp g=>?_⟩⟩
 refine k _ ⟨.new,.tup (l.map EV.d)⟩ _ (j.trans (y4 g _)) ⟨p,vs,rfl,⟨SqT.of zm,zm⟩,zr.to (y4 g _) aA _ _ (a.anew J.1)⟩ J.2.2
def Up(ta tb:TD):TD:=λU φ=>ta U λx=>tb U λy=>match x.d,y.d with
 |.tup p,.tup q=>xx x/\xx y/\p.length+q.length<=sizeLine/\φ ⟨.new,.tup (p++q)⟩
 |_,_=>False
def Zi(L:ED M X a ta)(h1:ED M X b tb):ED M X (.BinOp a .Add b pos) (Up ta tb):=λH_=>impE (Ki (N6.or Kp) (L H_) (h1 H_)) λY H Q q=>by
 obtain⟨U,o,R,φ,x,k⟩:=q;refine⟨U,o,R,_,x,λN r1 H1 g r J=>⟨U,o,R.to g,_,J,λv2 r2 H2 s2 l h2=>?_⟩⟩;have I:=λp=>(r.same s2).anew p;have G:=λp=>(l.start g).anew p;obtain⟨V,d1⟩:=r1;obtain⟨O,d2⟩:=r2;cases d1 with
 |tup p =>
  cases d2 with
  |tup q =>
   obtain⟨B,p2,hl,j⟩:=h2;obtain⟨a1,E,rfl,v,r1⟩:=I B;obtain⟨a2,ys,rfl,u,r2⟩:=G p2;have l1:=r1.length;have l2:=r2.length;cases p with
   |nil =>
    have e:E=[]:=zcI l1;subst e;exact .inr ⟨a1,a2,ys,rfl,rfl,v.1,u.1,k _ ⟨.new,.tup q⟩ H2 (g.trans s2) ⟨a2,ys,rfl,u,r2⟩ j⟩
   |cons d p =>
    refine .inl ⟨a1,a2,E,ys,rfl,rfl,v.1,u.1,(λz=>by subst z;cases l1),by rw[l1,l2];exact hl,λz=>?_,λz D y=>?_⟩
    ·subst z;have e:q=[]:=zcI l2.symm;subst e;rw[zaK]at j;exact k _ ⟨.new,.tup (d::p)⟩ H2 (g.trans s2) ⟨a1,E,rfl,v,r1⟩ j
    exact k _ ⟨.new,.tup (d::p++q)⟩ _ ((g.trans s2).trans (y4 y _)) ⟨D,E++ys,rfl,⟨SqT.of zm,zm⟩,zr.to (y4 y _) aA _ _ (r1.append r2)⟩ j
  |_=>exact h2.elim
 |_=>exact h2.elim
def popD(Z:List D):Option (List D×D):=match Z.getLast? with
 |some d=>some (Z.dropLast,d)
 |none=>none
def Ke(Z:List D)(d:D):popD (Z++[d])=some (Z,d):=by
 unfold popD;simp
end
def g1(g:D->(EV->Prop)->Prop):FT:=λZ φ=>match Z with
 |[d]=>g d φ
 |_=>False
def g2(g:D->D->(EV->Prop)->Prop):FT:=λZ φ=>match Z with
 |[d,e]=>g d e φ
 |_=>False
def g3(g:D->D->D->(EV->Prop)->Prop):FT:=λZ φ=>match Z with
 |[d,e,f]=>g d e f φ
 |_=>False
def z3i(h:g2 g Z φ):∃d e,Z=[d,e]/\g d e φ:=by
 unfold g2 at h;split at h
 ·exact⟨_,_,rfl,h⟩
 exact h.elim
def v8{t u:TDS}(h1:DE->Prop)(J:t U {ds with nx:=h1})(h2:∀ ρ2,h1 ρ2->u ρ2 ds):sSeq (sCut t) u U ds:=⟨h1,J,h2⟩
def z_g{t u:TDS}{U:DE}{ds:DZ}(xs:DE)(J:t U {ds with nx:=λU=>U=xs})(h2:u xs ds):sSeq (sCut t) u U ds:=⟨λU=>U=xs,J,λ_ e=>by subst e;exact h2⟩
def StrD(h:Heap)(a:Addr)(kvs:List (Str×Value)):Prop :=
 ∃o es ep,h.get? a=some o/\o.cls=.type "dict"/\o.data=.dict es ep/\es.size=kvs.length/\(∀(i:Nat)(e:DictEntry),es[i]?=some e->∃k v t,kvs[i]?=some (k,v)/\e.key=.str k t/\e.val=v)/\(kvs.map (·.1)).Nodup
def StrD.typeIs{kvs:List (Str×Value)}(h:StrD s.heap a kvs):s.TypeIs (.ref a) "dict":=by
 obtain⟨o,es,ep,g,c,_⟩:=h;exact⟨o,g,c⟩
def cx{Q:Unit->Shared->Prop}(hd:(d==sysModules)=false)(h:Q () s):wpAny (model prog w) A (Builtin.Dict.showsAll d) Q xs s:=by
 unfold Builtin.Dict.showsAll;rw[hd];exact zab h
def T3{o:Obj}{x:Str}{Q:Option Nat->Shared->Prop}(ho:s.heap.get? d=some o)(hd:o.data=.dict es ep)(a:es.all (λe=>isExactStrKey e.key)=true)(hi:i<es.size)(j:(es.findIdx? λe=>e.key.isStr x)=some i)(g:∃ t',es[i].key=.str x t')(h:Q (some i) s) :
  wpAny (model prog w) A (dictFind d (.str x t) hs) Q xs s:=by
 unfold dictFind
 try with_reducible refine zcH ?_
 refine zaa (zcR ho hd ?_)
 dsimp only
 rw[zaM a];unfold foundByValue;rw[j]
 dsimp only
 rw[show es[i]?=some es[i] by simp[hi]]
 dsimp only
 refine zaa (zdS ho hd ?_);obtain⟨t',g⟩:=g;rw[g];refine zaa (SeqAt.EqAt.str_str (A:=A) (s:=s) x t' x t prog w xs _ ?_);refine zaa (zdS ho hd ?_);simp only[bne_self_eq_false,zfA,zfR,zbC,zfG];exact zaa (wpAny_rule (zab h))
def Nx{x y:Str}(h:(Value.str y t).isStr x=true):y=x:=by
 simpa [Value.isStr] using h
def P8{a b:Addr}{u g:List (Str×Value)}{id:String}{Q:Bool->Shared->Prop}(ha:StrD s.heap a u)(hb:StrD s.heap b g)(na:(a==sysModules)=false)(nb:(b==sysModules)=false)(R:u.map (·.1)=g.map (·.1))(hv:∀ (i:Nat) p q,u[i]?=some p->g[i]?=some q->∀ (A:Around) (Q:Bool->Shared->Prop),Q true s->wpAny (model prog w) A (eqBool p.2 q.2) Q xs s)(h:Q true s):wpAny (model prog w) A (Builtin.Dict.samePairs id a b) Q xs s:=by
 obtain⟨o1,x,a3,g1,x1,d1,l1,p1,n1⟩:=ha;obtain⟨o2,d,a0,g2,x2,d2,l2,p2,n2⟩:=hb;have lk:u.length=g.length:=by have:=zbZ List.length R;simpa using this
 have ls:x.size=d.size:=by omega
 have D:d.all (λe=>isExactStrKey e.key)=true:=by
  rw[Array.all_eq_true];intro i hi;obtain⟨k,v,t,_,e,_⟩:=p2 i d[i] (by simp[hi])
  rw[e];rfl
 unfold Builtin.Dict.samePairs;refine zaa (cx na (zaa (cx nb (zaa (zcR g1 d1 (zaa (zcR g2 d2 ?_)))))));rw[zaJ (by simp[ls])]
 refine zaa (zdS g1 d1 ?_);rw[Std.Legacy.Range.forIn_eq_forIn_range'];refine zaa (wpAny_forIn_list _ (λrest r s'=>r=(none,())/\s'=s/\∀i∈rest,i<x.size) _ ?_ ?_ _ _ ⟨rfl,rfl,λi hi=>?_⟩)
 ·rintro i rest _ _ ⟨rfl,rfl,hi⟩;have G:=hi i (zao ..);refine zaa (zcR g1 d1 ?_);have e1:x[i]?=some x[i]:=by simp[G]
  rw[e1];obtain⟨k,v,t,O,ds,Y⟩:=p1 i x[i] e1;have h2:i<d.size:=by omega
  have e2:d[i]?=some d[i]:=by simp[h2]
  obtain⟨k2,v2,t2,r1,r2,W⟩:=p2 i d[i] e2;have M:k=k2:=by
   have:=zbZ (λl=>l[i]?) R;simp[O,r1]at this;exact this
  subst M;have y:(d.findIdx? λe=>e.key.isStr k)=some i:=by
   rw[Array.findIdx?_eq_some_iff_getElem];refine⟨h2,by rw[r2];simp[Value.isStr],λj B=>?_⟩
   have h1:j<d.size:=by omega
   obtain⟨k3,v3,t3,N,V,u3⟩:=p2 j d[j] (by simp[h1])
   intro z;rw[V]at z;have e3:=Nx z;have I:j<(g.map (·.1)).length:=by rw[zLm];exact(zag.mp N).1
   have L:i<(g.map (·.1)).length:=by rw[zLm];exact(zag.mp r1).1
   refine List.pairwise_iff_getElem.mp n2 j i I L B ?_;have a1:=(zag.mp N).2;have a2:=(zag.mp r1).2;rw[List.getElem_map,List.getElem_map,a1,a2];exact e3
  dsimp only
  rw[ds,Y];refine zaa (zcH (zaa ?_));refine T3 g2 d2 D h2 y ⟨t2,r2⟩ ?_;refine zaa (zcR g2 d2 ?_);rw[e2];refine zcH ?_;rw[W];refine hv i (k,v) (k,v2) O r1 _ _ ?_;rw[zaJ aB]
  refine zaa (zdS g1 d1 ?_);rw[zaJ aE]
  exact zab ⟨rfl,rfl,λj B=>hi j (zal _ B)⟩
 ·rintro _ _ ⟨rfl,rfl,_⟩;exact zab h
 have:=List.mem_range'.mp hi;obtain⟨j,B,rfl⟩:=this;simpa using B
def K2{a b:Addr}{e d:List (Str×Value)}(g:StrD s.heap a e)(j:StrD s.heap b d)(l:(a==sysModules)=false)(k:(b==sysModules)=false)(v:e.map (·.1)=d.map (·.1))(r:∀ (i:Nat) p q,e[i]?=some p->d[i]?=some q->∀ A,SeqAt.EqAt A s p.2 q.2 true)(hu:A.units<cLine):SeqAt.RcAt A s (.ref a) (.ref b) true:=λprog w xs Q h=>by
 refine wpAny_richCompare_same_room (op:=.Eq) g.typeIs j.typeIs F.slot_dict_eq ?_ hu;refine zbY F.slot_dict_eq g.typeIs F.entry_dict_eq ?_ (F.args_dict_eq_2 _ _);unfold Builtin.«dict.__eq__»;show wpAny _ _ (Builtin.Dict.dictSlotArgs "__eq__" ⟨[.ref a,.ref b],[]⟩ >>= _) _ _ _;refine zaa ?_;unfold Builtin.Dict.dictSlotArgs;refine zaa (zfN g.typeIs ?_);show wpAny _ _ (pure (Value.ref a,Value.ref b)) _ _ _;refine zab ?_
 dsimp only
 refine zaa (zfO j.typeIs isSubtype_dict_dict ?_);simp only[Bool.not_true,zfA,zfR];refine zaa (zab (zaa (zab (zaa ?_))));exact P8 g j l k v (λi p q J h2 A Q u=>r i p q J h2 A prog w xs Q u) (zab ⟨_,rfl,nofun,h⟩)
def Jr{a b:Addr}(u:StrD s.heap a kvs1)(r:StrD s.heap b kvs2)(j:(a==sysModules)=false)(g:(b==sysModules)=false)(l:kvs1.map (·.1)=kvs2.map (·.1))(k:∀ (i:Nat) p q,kvs1[i]?=some p->kvs2[i]?=some q->∀ A,SeqAt.EqAt A s p.2 q.2 true)(hu:A.units<cLine):SeqAt.EqAt A s (.ref a) (.ref b) true:=by
 by_cases e:a=b
 ·subst e;exact SeqAt.EqAt.same _
 intro prog w xs Q h;unfold eqBool;refine zcH ?_;refine wpAny_ite_split (λd=>absurd (Value.ref.inj (zfT d)) e) (λ_=>?_);exact zaa (K2 u r j g l k hu prog w xs _ (zeG h))
theorem jb{prog:Program}{w:World}{K:Type}[DecidableEq K]{knd:KeyKind prog w K}:∀{es:List DictEntry}{kvs:List (K×Value)},Pairs knd es kvs->∀{i:Nat}{e:DictEntry},es[i]?=some e->∃d,kvs[i]?=some d/\knd.is d.1 e.key=true/\e.val=d.2
 |_,_,.nil,_,_,h=>by simp at h
 |_,_,.cons J h2 r,0,e,h=>by
  simp at h;subst h;exact⟨_,rfl,J,h2⟩
 |_,_,.cons J h2 r,i+1,e,h=>by
  obtain⟨d,a,b⟩:=jb r (i:=i) (by simpa using h)
  exact⟨d,by simpa using a,b⟩
def ja{prog:Program}{w:World}{K:Type}[DecidableEq K]{knd:KeyKind prog w K}{es:List DictEntry}{kvs:List (K×Value)}(h:Pairs knd es kvs):es.length=kvs.length:=by
 induction h with
 |nil=>rfl
 |cons _ _ _ ih=>simp[ih]
def z3b:∀{kvs:List (Key×V)}{vs:List (Key×Value)},KV kvs vs->∀{i:Nat}{p:Key×Value},vs[i]?=some p->∃q,kvs[i]?=some q/\q.1=p.1/\RelV q.2 p.2:=by
 intro kvs vs h
 induction h with
 |nil=>intro i p h;simp at h
 |cons J _ ih =>
  intro i p h;cases i with
  |zero =>
   simp at h;subst h;exact⟨_,rfl,J⟩
  |succ i =>
   obtain⟨q,e,r⟩:=ih (i:=i) (by simpa using h)
   exact⟨q,by simpa using e,r⟩
def z3e(d:D):Prop:=∃(ks:List Str)(ns:List Int),d=.dk (ks.map Sum.inr) (ns.map D.int)
def O9(I:Inv X pn Y H s){a:Addr}{ks:List Str}{ns:List Int}(ha:H a=some (.dK ((ks.map Sum.inr).zip (ns.map V.int))))(l:ks.length=ns.length)(W:ks.Nodup) :
  (a==sysModules)=false/\∃vs:List (Str×Value),StrD s.heap a vs/\vs.map (·.1)=ks/\∀(i:Nat) p,vs[i]?=some p->∃n t,ns[i]?=some n/\p.2=.int n t:=by
 obtain⟨_,ds,D,Q,o,es,ep,g,x,d,k,p,n⟩:=Mr I.hok ha;have l1:D.length=ks.length:=by
  have:=Q.length;rw[zcG,zLm,zLm]at this;omega
 have l2:=ja p;have j:∀(i:Nat)(q:Key×Value),D[i]?=some q->∃x n t,ks[i]?=some x/\ns[i]?=some n/\q=(Sum.inr x,.int n t):=by
  intro i q G;obtain⟨O,B,L,h1⟩:=z3b Q G;rw[zcV]at B;obtain⟨u,r⟩:=B;rw[zai]at u r;cases ex:ks[i]? with
  |none=>rw[ex]at u;cases u
  |some x =>
   cases en:ns[i]? with
   |none=>rw[en]at r;cases r
   |some m =>
    rw[ex]at u;rw[en]at r;have g1:Sum.inr x=O.1:=by simpa using u
    have g2:V.int m=O.2:=by simpa using r
    rw[<- g2]at h1;obtain⟨t,h1⟩:=h1;refine⟨x,m,t,rfl,rfl,?_⟩;rw[<- h1,g1,L]
 refine⟨ds,ks.zip (D.map (·.2)),⟨o,es,ep,g,x.1,d,?_,?_,?_⟩,?_,?_⟩
 ·rw[zcG,zLm,l1,zfZ];have a1:es.toList.length=es.size:=by simp
  omega
 ·intro i e he;obtain⟨N,J,h2,h3⟩:=jb p (i:=i) (e:=e) (by simpa using he)
  obtain⟨M,m,t,B,L,rfl⟩:=j i N J;have hs:=xb (k:=Sum.inr M) (v:=e.key) h2;rcases hs with⟨_,_,z,_⟩|⟨y,t',z,R⟩
  ·cases z
  cases z
  refine⟨M,.int m t,t',?_,R,h3⟩;rw[zcV];refine⟨B,?_⟩;rw[zai,J];rfl
 ·rw[List.map_fst_zip (by rw[zLm];omega)]
  exact W
 ·exact List.map_fst_zip (by rw[zLm];omega)
 intro i q G;rw[zcV]at G;obtain⟨J,h2⟩:=G;rw[zai]at h2;cases ev:D[i]? with
 |none=>rw[ev]at h2;cases h2
 |some N =>
  rw[ev]at h2;obtain⟨M,m,t,B,L,rfl⟩:=j i N ev;refine⟨m,t,L,?_⟩;have:Value.int m t=q.2:=by simpa using h2
  exact this.symm
def Dw(I:Inv X pn Y H s){ks:List Str}{ns:List Int}{x y:V}{u v:Value}(J:Rep X.K H [] (.dk (ks.map Sum.inr) (ns.map D.int)) x)(h2:Rep X.K H [] (.dk (ks.map Sum.inr) (ns.map D.int)) y)(r1:RelV x u)(r2:RelV y v) :
  ∃a b g d,u=.ref a/\v=.ref b/\StrD s.heap a g/\StrD s.heap b d/\(a==sysModules)=false/\(b==sysModules)=false/\g.map (·.1)=d.map (·.1)/\∀(i:Nat) p q,g[i]?=some p->d[i]?=some q->∀A,SeqAt.EqAt A s p.2 q.2 true:=by
 obtain⟨a,E,rfl,M,_,l1,B,t1⟩:=J;obtain⟨b,ys,rfl,L,_,l2,R,t2⟩:=h2;have e1:=b6 t1;have e2:=b6 t2;subst e1;subst e2;have j:ks.Nodup:=by
  have:=List.pairwise_map.mp B;exact this.imp λh e=>h (zbZ Sum.inr e)
 have l:ks.length=ns.length:=by simpa using l1
 obtain⟨z,g,k,m1,Q⟩:=O9 I M l j;obtain⟨r,d,s2,m2,O⟩:=O9 I L l j;refine⟨a,b,g,d,r1,r2,k,s2,z,r,m1.trans m2.symm,λi p q h1 G A=>?_⟩;obtain⟨n,t,g1,g2⟩:=Q i p h1;obtain⟨m,t',g3,N⟩:=O i q G;rw[g1]at g3;cases g3;rw[g2,N];have:=SeqAt.EqAt.int_int (A:=A) (s:=s) n t n t';simpa using this
def okS(d:D):Prop:=okD 39 d\/z3e d
def Jt(I:Inv X pn Y H s){x y:V}{u v:Value}(ok:okS d)(J:Rep X.K H [] d x)(h2:Rep X.K H [] d y)(r1:RelV x u)(r2:RelV y v)(hu:A.units+40<cLine):SeqAt.EqAt A s u v true:=by
 rcases ok with ok|⟨ks,ns,rfl⟩
 ·have:=(Sr I 39 d d x y u v A ok ok J h2 r1 r2 aD).2.2
  rw[Qf 39 d ok]at this;exact this
 obtain⟨a,b,g,e,rfl,rfl,j,s2,l,k,m,f⟩:=Dw I J h2 r1 r2;exact Jr j s2 l k m f aD
section
def Rn:∀{E:List V}{us:List Value},Vals E us->∀{i:Nat}{u:Value},us[i]?=some u->∃x,E[i]?=some x/\RelV x u:=by
 intro E us h
 induction h with
 |nil=>intro i u h;simp at h
 |cons J _ ih =>
  intro i u h;cases i with
  |zero=>simp at h;subst h;exact⟨_,rfl,J⟩
  |succ i =>
   obtain⟨x,e,r⟩:=ih (i:=i) (by simpa using h)
   exact⟨x,by simpa using e,r⟩
end
section
def Ps:qu X (.type "dict") (λE H Q=>∃a kvs,E=[.ref a]/\H a=some (.dK kvs)/\∀p,H p=none->Q (.ref p) (upd H p (.dK kvs))):=by
 intro pn s Y H E us Q I r h;obtain⟨a,kvs,rfl,x,q⟩:=h;obtain⟨u,rfl,j⟩:=Zu r;cases j;obtain⟨z,k,B,g,y⟩:=Mr I.hok x;have v:=I.big;refine kt_call_dict k y (by rw[<- g.length];exact z) λh' hd l=>?_
 have keep:∀b o,s.heap.get? b=some o->h'.get? b=some o:=λb o e=>by
  have d:b≠s.heap.objs.size:=zaY (zae e);rw[l.2 b d];exact zac _ e
 refine⟨.ref s.heap.objs.size,_,I.laid (t':=s.toks) (a:=s.heap.objs.size) (o:=.dK kvs) keep (zaj _) ?_,rfl,q _ (I.hok.fresh (zaj _))⟩;exact Qo z (by simpa using(zeR v)) g hd
end
section
variable{a e:Expr}{es:List Expr}{t:TDs}{p pos:Pos}
def sDictC:FT:=λZ φ=>match Z with
 |[.dk ks l]=>φ (df (.dk ks l))
 |_=>False
def cv(x:X.mg "dict" = none)(B:EA M X (e::es) t)(y:Gl X "dict":=by rfl)(z:S_ X e es:=by rfl)(g:B_ X es pos:=by rfl):ED M X (.Call (.Name "dict" p) (e::es) [] pos) (dCB sDictC t) :=
 qp Ps (λH O Z vs φ Q ho u h k=>by
  unfold sDictC at h;split at h
  ·obtain⟨v,ws,rfl,⟨a,E,rfl,q,l,j,r⟩,rfl⟩:=u;exact⟨a,_,rfl,q,λp d=>k _ (df (.dk _ _)) _ (y4 d _) ⟨p,rfl,d,ho p d,E,zm,l,j,zr.grow (W7 d) _ _ r⟩ h⟩
  exact h.elim) x fq B y aB aB z g
def sLenD:FT:=λZ φ=>match Z with
 |[.dk ks l]=>φ (dv (.int ks.length))
 |_=>False
def Dr(j:X.mg "len" = none)(y:EA M X (e::es) t)(u:Gl X "len":=by rfl)(x:S_ X e es:=by rfl)(d:B_ X es pos:=by rfl):ED M X (.Call (.Name "len" p) (e::es) [] pos) (dCB sLenD t) :=
 Wm L5 (λH O Z vs φ Q ho g h k=>by
  unfold sLenD at h;split at h
  ·obtain⟨v,ws,rfl,⟨a,E,rfl,q,l,z,r⟩,rfl⟩:=g;refine⟨a,_,rfl,q,?_⟩;rw[zcG,r.length,<- l,zfZ];exact k _ _ H (Same.refl H) aH h
  exact h.elim) j PySem.boot_len y u aB aB x d
end
section
variable{a':Addr}(h':H a'=some (.dK kvs))
include h'
end
def ku:entryFor table "dict.update.loop" = some Builtin.«dict.update.loop»:=entryFor_of_tree (by kernel_rfl)
def u0:plainId "dict.update.loop" = true:=by decide +kernel
def Zx:typeLookup (.type "list") "keys" = pure none:=by rw[typeLookup_type,builtinLookup_eq_fast];kernel_rfl
def Nr{E:Array Value}{Q:Option Value->Shared->Prop}(hl:PlainL s.heap a E)(z:A.handled=none)(h:∀ h' tk,(∀ b o,s.heap.get? b=some o->h'.get? b=some o)->Q none {s with heap:=h',toks:=tk}):wpAny (model prog w) A (getAttr? (.ref a) "keys") Q xs s:=by
 obtain⟨o,k,r,u,hd,j⟩:=hl;obtain⟨c,B,D,v⟩:=o;simp only at u j hd;subst u j hd;obtain⟨y,g,d,tk,x⟩:=s;have hT:∀l,(⟨y,g,d,l,x⟩:Shared).TypeIs (.ref a) "list":=λ_=>⟨_,r,rfl⟩;have N:=sub_AttributeError;have M:=F.slot_list_getattribute.lookup;have L:=F.slot_list_getattribute.bind (.ref a);have h1:=am_list_getattr_none;unfold getAttr? getAttrBy? getAttrBy
 repeat (any_goals (first|assumption|exact hT _|((with_reducible show wpAny _ _ (call (Value.builtin "list.__getattribute__") _ _) _ _ _);refine zeU F.slot_list_getattribute (hT _) am_entry_list_getattribute (F.args_list_getattribute_2 _ _) (meets_getattribute_miss_list a E k v "keys" _ Zx aF (by size_fits)) ⟨r,z,λh' l e q=>?_⟩)|wp_step))
 obtain⟨t',G,I⟩:=q.there;show wpAny _ _ (getattributeRaised _ _ _ _ _ _ _) _ _ _;unfold getattributeRaised
 repeat (any_goals (first|assumption|wp_step))
 exact h _ _ q.keeps
section
variable{K:Type}[DecidableEq K]{knd:KeyKind prog w K}{R:Result->Shared->Prop}
def Qx(knd:KeyKind prog w K)(h:Heap)(v:Value)(a:K×Value):Prop:=∃b o n key,v=.ref b/\h.get? b=some o/\o.cls=.type "tuple"/\o.data=.seq #[key,a.2] n/\knd.is a.1 key=true
def P6{kvs:List (K×Value)}{k:K}{x:Value}(h:k∉kvs.map (·.1)):stored kvs k x=kvs++[(k,x)]:=by
 unfold stored;rw[zaJ];intro z;rw[List.any_eq_true]at z;obtain⟨p,a,e⟩:=z;exact h (zah.mpr ⟨p,a,by simpa using e⟩)
def Lk(hh:A.handled=none)(d it l:Addr)(B:d≠it)(a6:d≠l)(L:l≠it)(its:List Value)(a:List (K×Value))(a9:its.length=a.length)(a3:(a.map (·.1)).Nodup)(hsz:a.length<=sizeLine) :
  ∀(k i:Nat)(s:Shared),its.length=i+k->s.heap.IsListIter it l i->s.heap.IsList l its.toArray->s.heap.DictOf knd d (a.take i) ->
  (∀(j:Nat) v kx,its[j]?=some v->a[j]?=some kx->Qx knd s.heap v kx) ->
  (∀h' tk,h'.DictOf knd d a->(∀b o,b≠d->b≠it->s.heap.get? b=some o->h'.get? b=some o)->R (.ok (.ret .none)) {s with heap:=h',toks:=tk}) ->
  codeAny (model prog w) A (.builtin "dict.update.loop" ⟨[.ref d,.ref it,rawInt (i:Int),.none],[]⟩) R s:=by
 intro k
 induction k with
 |zero =>
  intro i s hk hi hl hd hp hR;refine codeAny_builtin ku ?_;rw[Around.under_plainId u0 _];have W:=Walks.list (prog:=prog) (w:=w) (A:=A.in1) hh it l L its.toArray;show wpAny _ A.in1 (pyNext (.ref it) >>= _) _ _ s;refine zaa (W.done s _ _ ⟨by simpa [hk] using hi,hl⟩ λh' tk u=>?_)
  show wpAny _ A.in1 (Builtin.Dict.addKeywords d [] >>= _) _ _ _;refine zaa (zab (zab ?_));refine hR h' tk ?_ λb o _ G e=>u b o (by simpa using G) e
  rw[zfD aD]at hd
  obtain⟨o,es,ep,ho,r⟩:=hd;exact⟨o,es,ep,u d o (by simpa using B) ho,r⟩
 |succ k ih =>
  intro i s hk hi hl hd hp hR;refine codeAny_builtin ku ?_;rw[Around.under_plainId u0 _];have W:=Walks.list (prog:=prog) (w:=w) (A:=A.in1) hh it l L its.toArray;show wpAny _ A.in1 (pyNext (.ref it) >>= _) _ _ s;refine zaa (W.item i s _ _ (by simp;omega) ⟨hi,hl⟩ λv h' tk hv y u=>?_)
  have a0:its[i]?=some v:=by simpa using hv
  have a4:i<a.length:=by omega
  obtain⟨kx,D⟩:∃kx,a[i]?=some kx:=⟨a[i],zaf a4⟩;have O:h'.DictOf knd d (a.take i):=by
   obtain⟨o,es,ep,ho,r⟩:=hd;exact⟨o,es,ep,u d o (by simpa using B) ho,r⟩
  have I:∀(j:Nat) v kx,its[j]?=some v->a[j]?=some kx->Qx knd h' v kx:=λj v kx J h2=>by
   obtain⟨b,o,n,q,e1,e2,e3,V,e5⟩:=hp j v kx J h2;refine⟨b,o,n,q,e1,u b o ?_ e2,e3,V,e5⟩;intro z;have:b=it:=by simpa using z
   subst this;obtain⟨o',g,Q,_⟩:=hi;rw[g]at e2;cases e2;rw[Q]at e3;exact absurd e3 aB
  obtain⟨b,o,n,q,rfl,G,a8,a7,M⟩:=I i v kx a0 D;have hT:({s with heap:=h',toks:=tk}:Shared).TypeIs (.ref b) "tuple":=⟨o,G,a8⟩;refine zaa (zcH ?_);refine zaa (wpAny_tryCatch ?_);show wpAny _ A.in1 (typeOf (.ref b) >>= _) _ _ _;refine zaa (wpAny_typeOf hT ?_);show wpAny _ A.in1 (seqItems? (.ref b) >>= _) _ _ _;refine zaa (zcU G a7 (zab ?_));show wpAny _ A.in1 (holding [q,kx.2] (dictSet d q kx.2)) _ _ _;have h1:kx.1∉(a.take i).map (·.1):=by
   have e:a.take (i+1)=a.take i++[kx]:=by rw[List.take_succ,D];rfl
   have h4:((a.take (i+1)).map (·.1)).Nodup:=a3.sublist ((List.take_sublist _ _).map _);rw[e,zMa,zaO]at h4;intro z;exact h4.2.2 _ z kx.1 aE rfl
  refine zcH (wpAny_dictSet_pairs (hsz:=by rw[zcC];omega) M O λh2 dd hs=>?_)
  rw[P6 h1,show a.take i++[(kx.1,kx.2)]=a.take (i+1) by rw[List.take_succ,D];rfl]at dd
  refine zab ⟨plainId_quiet u0 _,?_⟩;have keep:∀b o,b≠d->h'.get? b=some o->h2.get? b=some o:=λb o G e=>(hs.2 b G).trans e;refine ih (i+1) _ aD ?_ ?_ dd ?_ λh3 Y d3 k3=>?_
  ·obtain⟨o',g,ds⟩:=y.1;exact⟨o',keep _ _ (Ne.symm B) g,ds⟩
  ·obtain⟨o',g,ds⟩:=y.2;exact⟨o',keep _ _ (Ne.symm a6) g,ds⟩
  ·intro j v kx J x;obtain⟨b,o,n,q,e1,e2,e3,V,e5⟩:=I j v kx J x;refine⟨b,o,n,q,e1,keep b o ?_ e2,e3,V,e5⟩;intro z;subst z;obtain⟨o',es,ep,g,Q,N,_⟩:=O;rw[g]at e2;cases e2;rw[N]at V;cases V
  exact hR h3 Y d3 λb o J x e=>k3 b o J x (keep b o J (u b o (by simpa using x) e))
def Zn{xs:Value->Shared->Prop}{l:Addr}{its:List Value}{a:List (K×Value)}{Q:Value->Shared->Prop}(N:A.handled=none)(hl:PlainL s.heap l its.toArray)(y:its.length=a.length)(I:(a.map (·.1)).Nodup)(hsz:a.length<=sizeLine)(V:∀ (j:Nat) v z,its[j]?=some v->a[j]?=some z->Qx knd s.heap v z)(h:∀ h' tk,h'.DictOf knd s.heap.objs.size a->(∀ b o,s.heap.get? b=some o->h'.get? b=some o)->Q (.ref s.heap.objs.size) {s with heap:=h',toks:=tk}) :
  wpAny (model prog w) A (call (.type "dict") [.ref l]) Q xs s:=by
 refine callType_codes (Q₁:=λu g=>u=.ref s.heap.objs.size/\g={s with heap:=s.heap.push {cls:=.type "dict",data:=.dict #[]}}) F.kt_called_dict (F.kt_typeCall_dict_1 _) F.entry_dict_init (kt_code_dict_new _ ⟨rfl,rfl⟩) ?_;rintro u g ⟨rfl,rfl⟩;have d:(s.heap.push {cls:=.type "dict",data:=.dict #[]}).DictOf knd s.heap.objs.size []:=Heap.DictOf.new s.heap;have G:∀b o,s.heap.get? b=some o->(s.heap.push {cls:=.type "dict",data:=.dict #[]}).get? b=some o:=λb o e=>zac _ e;have hl1:=hl.keeps G;have L:l<s.heap.objs.size:=by obtain⟨o,n,e,_⟩:=hl;exact zae e
 refine⟨d.typeIs,F.args_dict_init_2 _ _,?_⟩;unfold Builtin.«dict.__init__»;refine zaa ?_;unfold Builtin.Dict.selfAndRest;refine zaa (zfN d.typeIs ?_);show wpAny _ _ (pure (s.heap.objs.size,[Value.ref l])) _ _ _;refine zab ?_;show wpAny _ _ (Builtin.Dict.updateFrom "dict.__init__" s.heap.objs.size (.ref l) [] .none) _ _ _;unfold Builtin.Dict.updateFrom;refine zaa (wpAny_typeOf hl1.isList.typeIs ?_);rw[zaM aB]
 refine zaa (Nr hl1 N λh2 O x=>?_);rw[zaM (by rfl)]
 refine zaa (wpAny_rule ?_);have q:=(hl1.keeps x).isList;have h1:l<h2.objs.size:=by obtain⟨o,e,_⟩:=q;exact zae e
 refine zaa (zdH q ?_);have k:s.heap.objs.size<h2.objs.size:=by
  obtain⟨o,es,ep,ho,_⟩:=d;exact zae (x _ _ ho)
 refine zab ⟨plainId_quiet u0 _,?_⟩;refine Lk (knd:=knd) (A:=A.in1) N s.heap.objs.size h2.objs.size l (zaY k) (zeR L) (zaY h1) its a y I hsz its.length 0 _ aD ?_ ?_ ?_ ?_ λW B d3 R=>?_
 ·exact⟨_,zad _ rfl,rfl,rfl⟩
 ·exact q.push _
 ·obtain⟨o,es,ep,ho,r⟩:=d;exact⟨o,es,ep,zac _ (x _ _ ho),r⟩
 ·intro j v z J M;obtain⟨b,o,n,D,e1,e2,e3,ds,Y⟩:=V j v z J M;exact⟨b,o,n,D,e1,zac _ (x _ _ (G _ _ e2)),e3,ds,Y⟩
 refine⟨rfl,h W B d3 λb o e=>R b o ?_ ?_ (zac _ (x _ _ (G _ _ e)))⟩
 ·exact zaY (zae e)
 exact zaY (Nat.lt_trans (zae e) k)
end
def Ld(K:W.Frag)(H:Hp):List V->List (Key×V)->Prop:=Paired λp a=>∃b,p=V.ref b/\SqT K H b [kV a.1,a.2]
def Pr(R:X.calm=true):qu X (.type "dict") (λE H Q=>∃a ps kvs,E=[.ref a]/\SqL X.K H a ps/\Ld X.K H ps kvs/\(kvs.map (·.1)).Nodup/\∀p,H p=none->Q (.ref p) (upd H p (.dK kvs))):=by
 intro pn s Y H E us Q I r h;obtain⟨a,ps,kvs,rfl,M,z,D,q⟩:=h;obtain⟨u,rfl,N⟩:=Zu r;cases N;obtain⟨its,L,pl,O⟩:=I.list M;have g:ps.length=kvs.length:=z.length;have h1:=L.length;have ex:∃d:List (Key×Value),KV kvs d/\∀(j:Nat) v kx,its[j]?=some v->d[j]?=some kx->Qx (x4 X.prog X.w) s.heap v kx:=by
  clear D q O pl g h1 M
  induction L generalizing kvs with
  |nil=>cases z;exact⟨[],.nil,λj v kx e=>by simp at e⟩
  |cons r1 r2 ih =>
   cases z with
   |cons h t =>
    obtain⟨d,l,y⟩:=ih _ t;obtain⟨b,rfl,sq⟩:=h;cases r1;obtain⟨ts,rt,⟨o,e1,e2,n,e3⟩,_⟩:=I.tuple sq;cases rt with
    |cons t1 rt =>
     cases rt with
     |cons t2 rt =>
      cases rt
      rename_i kk B x;refine⟨(_,x)::d,.cons ⟨rfl,t2⟩ l,λj v kx J h2=>?_⟩;cases j with
      |zero =>
       simp at J h2;subst J h2;exact⟨b,o,n,B,rfl,e1,e2,e3,Vm t1⟩
      |succ j=>exact y j v kx (by simpa using J) (by simpa using h2)
 obtain⟨d,l,y⟩:=ex;have G:kvs.length=d.length:=l.length;have k:d.map (·.1)=kvs.map (·.1):=by
  clear D q z g y G
  induction l with
  |nil=>rfl
  |cons h t ih=>rw[zaG,zaG,ih,h.1]
 have V:=I.big;refine Zn (knd:=x4 X.prog X.w) (I.ok.hd R) pl aD (by rw[k];exact D) aD y λh' tk hd keep=>?_
 refine⟨.ref s.heap.objs.size,_,I.laid (t':=tk) (a:=s.heap.objs.size) (o:=.dK kvs) keep (zaj _) ?_,rfl,q _ (I.hok.fresh (zaj _))⟩;exact Qo aD (by simpa using(zeR V)) l hd
section
variable{e:Expr}{es:List Expr}{t:TDs}{p pos:Pos}
def kD:Key->D
 |.inl i=>.int i
 |.inr x=>.str x
def V9(ks:List Key)(Z:List D):List D:=(ks.zip Z).map λq=>.tup [kD q.1,q.2]
def sDictP:FT:=λE φ=>match E with
 |[.lst l]=>∃ks Z,l=V9 ks Z/\ks.length=Z.length/\ks.Nodup/\φ (df (.dk ks Z))
 |_=>False
def Bc{K:W.Frag}{H:Hp}{O:List Addr}{k:Key}{v:V}(h:Rep K H O (kD k) v):v=kV k:=by
 cases k with
 |inl i=>exact h
 |inr x=>exact h
theorem Yl{K:W.Frag}{H:Hp}{O:List Addr}:∀(ks:List Key)(Z:List D)(ps:List V),ks.length=Z.length->Reps K H O (V9 ks Z) ps->∃E,Ld K H ps (ks.zip E)/\Reps K H O Z E
 |[],[],ps,_,h=>by
  cases (show ps=[] from h)
  exact⟨[],.nil,rfl⟩
 |[],_::_,_,h,_=>by cases h
 |_::_,[],_,h,_=>by cases h
 |k::ks,d::Z,ps,hl,h=>by
  obtain⟨v,ws,rfl,⟨a,e,rfl,sq,r⟩,hr⟩:=h;obtain⟨g,w1,rfl,r1,v2,w2,rfl,r2,rfl⟩:=r;cases Bc r1;obtain⟨E,J,h2⟩:=Yl ks Z ws (by simpa using hl) hr
  exact⟨v2::E,.cons ⟨a,rfl,sq.1⟩ J,v2,E,rfl,r2,h2⟩
theorem Q4{α β:Type}:∀(ks:List α)(E:List β),ks.length=E.length->(ks.zip E).map (·.1)=ks
 |[],_,_=>rfl
 |k::ks,[],h=>by cases h
 |k::ks,x::E,h=>by
  rw[zbP,zaG,Q4 ks E (by simpa using h)]
def Wk(y:X.mg "dict" = none)(G:EA M X (e::es) t)(D:X.calm=true:=by rfl)(z:Gl X "dict":=by rfl)(B:S_ X e es:=by rfl)(j:B_ X es pos:=by rfl):ED M X (.Call (.Name "dict" p) (e::es) [] pos) (dCB sDictP t) :=
 qp (Pr D) (λH O Z vs φ Q ho x h k=>by
  unfold sDictP at h;split at h
  ·obtain⟨ks,Z,rfl,hl,l,h⟩:=h;obtain⟨v,ws,rfl,⟨a,E,rfl,q,r⟩,rfl⟩:=x;obtain⟨g,J,h2⟩:=Yl ks Z E hl r;have u:ks.length=g.length:=by rw[hl,h2.length]
   exact⟨a,E,_,rfl,SqL.of q,J,by rw[Q4 ks g u];exact l,λp d=>k _ (df (.dk _ _)) _ (y4 d _) ⟨p,rfl,d,ho p d,g,zm,hl,l,zr.grow (W7 d) _ _ h2⟩ h⟩
  exact h.elim) y fq G z aB aB B j
end
section
variable{ob:Obj}
def Inv.freeze(I:Inv X pn Y H s)(e:H a=some (.dK kvs))(h:s.heap.get? a=some ob):Inv X pn Y (upd H a (.frz ob (.dK kvs))) s:=by
 have q:=I.hok a _ e;exact I.write (t':=s.toks) (h':=s.heap) (x:=a) (e:=a) (o:=.frz ob (.dK kvs)) (by rw[e];exact zdA) (.inl rfl) (λ_ _ _ z=>z) ⟨ob,h⟩ ⟨h,q⟩
def Inv.thaw(I:Inv X pn Y H s)(e:H a=some (.frz ob (.dK kvs)))(D:∀ o u,X.H_ a≠some (.frz o u)):Inv X pn Y (upd H a (.dK kvs)) s:=by
 have l:∀b,H b=none->b≠a:=λb k z=>by subst z;rw[k]at e;cases e
 have j:∀b,H b=none->upd H a (.dK kvs) b=none:=λb k=>by rw[zj (l b k)];exact k
 refine⟨I.ok,I.os,I.bare,⟨I.base.keep,I.base.slot,λb o h n v=>j b (I.base.free b o h n v),I.base.there,λb E z=>?_,λb o u z=>?_,λb ps z=>?_⟩,I.loc,I.cell,j _ I.free,λx c z=>j _ (I.freeC x c z),λp r=>?_,λb u z=>?_,I.len⟩
 ·have:=I.base.tups b E z;rw[zj (λy=>by subst y;rw[e]at this;cases this)]
  exact this
 ·rw[zj (λy=>by subst y;exact D o u z)]
  exact I.base.frzs b o u z
 ·obtain⟨g,q⟩:=I.base.tbls b ps z;refine⟨g,?_⟩;rw[zj (λy=>by subst y;rw[e]at q;cases q)]
  exact q
 ·obtain⟨J,h2,B⟩:=I.pin p r;exact⟨J,j _ h2,B⟩
 have st:∀b u,yy X.prog X.w H s.heap b u->yy X.prog X.w (upd H a (.dK kvs)) s.heap b u:=λb u q=>q.stay (λ_ _ _ z=>z) (λc d=>by rw[zj (λy=>by subst y;rw[e]at d;cases d)];exact d) λc E d=>by rw[zj (λy=>by subst y;rw[e]at d;cases d)];exact d
 by_cases y:b=a
 ·subst y;rw[zm]at z;cases z;exact st _ _ (I.hok _ _ e).2
 rw[zj y]at z;exact st _ _ (I.hok _ _ z)
theorem KV.at{κ:Type}:∀{kvs:List (κ×V)}{vs:List (κ×Value)}{i:Nat}{p:κ×V},KV kvs vs->kvs[i]?=some p->∃u,vs[i]?=some (p.1,u)/\RelV p.2 u
 |_,_,i,_,.nil,e=>by simp at e
 |_,_,0,p,.cons r t,e=>by
  simp at e;subst e;rename_i b _ _;exact⟨b.2,by simp[r.1],r.2⟩
 |_,_,i+1,p,.cons r t,e=>by
  obtain⟨u,J,h2⟩:=KV.at (i:=i) (p:=p) t (by simpa using e)
  exact⟨u,by simpa using J,h2⟩
end
def is_kV:∀{k:Key}{u:Value},(x4 P w).is k u=true->RelV (kV k) u
 |.inl i,u,h=>by
  cases u <;> first|(cases h;done)|skip
  rename_i j t;have e:j=i:=by first|(simpa using(show(j==i)=true from h))|(simpa using(show decide (j=i)=true from h))|exact(by simpa using(show(i==j)=true from h):i=j).symm|exact(by simpa using(show decide (i=j)=true from h):i=j).symm
  subst e;exact⟨t,rfl⟩
 |.inr x,u,h=>by
  cases u <;> first|(cases h;done)|skip
  rename_i j t;have e:j=x:=by first|(simpa using(show(j==x)=true from h))|(simpa using(show decide (j=x)=true from h))|exact(by simpa using(show(x==j)=true from h):x=j).symm|exact(by simpa using(show decide (x=j)=true from h):x=j).symm
  subst e;exact⟨t,rfl⟩
def Zo:bootBuiltins "enumerate" = some (.type "enumerate"):=by kernel_rfl
def enD(l:List D):List D:=l.zipIdx.map λq=>.tup [.int (q.2:Nat),q.1]
def Bv{α:Type}(E:List α)(lo hi st:Option Int):List α :=
 let b:=sliceBounds lo hi st E.length
 (sliceRange b.1 b.2.1 b.2.2).filterMap λi=>E[i]?
section
variable{te:TE}{tl th ts:TO}
def F5(K:W.Frag)(te:TE)(tl th ts:TO):TE:=λY H Q=>te Y H λx H1=>tl Y H1 λl H2=>th Y H2 λu e=>ts Y e λk d=>∃a E,x=.ref a/\SqL K d a E/\k≠some 0/\∀p,d p=none->Q (.ref p) (upd d p (.lst (Bv E l u k)))
end
abbrev TK:=List Key
instance decMemTK (k:TK) (ks:List TK):Decidable (k∈ks):=decidable_of_iff (ks.any (λx=>decide (x=k))=true) aE
section
open PySem PySem.Spec PySem.W PyProof.Rows
def RawD(h:Heap)(d:Addr)(rows:Array DictEntry)(ep:Nat):Prop:=∃o,h.get? d=some o/\o.ExactDict/\o.data=.dict rows ep
def RawD.ty{s:Shared}{ep:Nat}(x:RawD s.heap d rows ep):s.TypeIs (.ref d) "dict":=let ⟨o,g,c,_⟩:=x;⟨o,g,c.1⟩
variable{n:Nat}
abbrev POrd(n:Nat)(p:Array Nat):Prop:=p.Perm (List.toArray (List.range n))
def z3d:Key->Option Int
 |.inl i=>some i
 |.inr _=>none
section
theorem POrd.size(h:POrd n p):p.size=n:=by
 have:=h.size_eq;simpa using this
end
end
def zK1(k:TK):List Int:=k.filterMap z3d
def cstD:Cst->D
 |.int i=>.int i
 |.str x=>.str x
 |.tup cs=>.cn (.tup cs)
def Oh:∀{c:Cst}{v:V},CRep K c v->Rep K H O (cstD c) v
 |.int _,_,h=>h
 |.str _,_,h=>h
 |.tup _,_,h=>h
theorem Rm:∀{cs:List Cst}{E:List V},Lg K cs E->Reps K H O (cs.map cstD) E
 |[],_,h=>h
 |c::cs,E,h=>by
  obtain⟨v,r,e,q,t⟩:=h;exact⟨v,r,e,Oh q,Rm t⟩
def z1n(h:CRep K (.tup cs) v):∃a E,v=.ref a/\SqT K H a E/\Lg K cs E:=by
 obtain⟨a,o,its,n,E,e,l,c,d,z,r,t⟩:=h;exact⟨a,E,e,.inr ⟨o,its,n,l,c,d,z,r⟩,t⟩
section
variable{tg e:Expr}{te:TD}
def iCn(te:TD):TID:=λU φ=>te U λr=>match r.k,r.d with
 |.val,.cn (.tup cs)=>φ (cs.map cstD)
 |_,_=>False
def z3l(u:ED M X e te):EI M X tg e (iCn te):=λH_=>impI (By (u H_) Hu) λY H R q=>by
 obtain⟨U,o,y,φ,g,k⟩:=q;refine⟨U,o,y,_,g,λv r H1 j l J=>?_⟩;obtain⟨kd,d⟩:=r
 dsimp only at J
 split at J
 ·rename_i cs;obtain⟨a,E,rfl,q,x⟩:=z1n (H:=H1) (show CRep X.K (.tup cs) v from l);exact⟨a,rfl,⟨E,q⟩,k _ _ _ H1 j Gb ⟨E,q,Rm x⟩ J⟩
 exact J.elim
end
def dd(l:List Str)(k:Str):List Str:=if k∈l then l else l++[k]
def many(l:List Str):Nat:=(l.foldl dd []).length
def Ex(u:Value):Prop:=∃y:V,RelV y u
structure ZAt1(g:Heap)(z ti to i1 i2 l1 l2:Addr)(f:Value)(k:Nat):Prop where
 zz:IsZip g z ti to f
 its:IsPair g ti (.ref i1) (.ref i2)
 out:∃a b,IsPair g to a b
 one:g.IsTupleIter i1 l1 k
 two:g.IsListIter i2 l2 k
structure ZNe1(z ti to i1 i2:Addr):Prop where
 ab:ti≠z
 ac:to≠z
 ad:i1≠z
 ae:i2≠z
 bc:ti≠to
 bd:ti≠i1
 be:ti≠i2
 cd:to≠i1
 ce:to≠i2
 de:i1≠i2
structure TopDict(P:Program)(w:World)(K:W.Frag)(a:Addr)(f:Str->Option Value):Prop where
 at_:∃es ep,K.lookup a=some {cls:=.type "dict",data:=.dict es ep}/\KeysOf (strKind P w) es/\∀k,findBy (strKind P w).is es k=f k
 ne:(a==sysModules)=false
variable{f:Str->Option Value}
def TopDict.map(T:TopDict X.prog X.w X.K a f)(I:Inv X pn Y H s):s.heap.MapOf (strKind X.prog X.w) a f:=by
 obtain⟨es,ep,d,e,g⟩:=T.at_;exact⟨_,es,ep,I.kIn a _ d,⟨rfl,rfl,rfl⟩,rfl,e,g⟩
def isStr_self(x:Str)(t:Tok):(strKind P w).is x (.str x t)=true:=by show Value.isStrOf x (.str x t)=true;simp[Value.isStrOf]
def op_notInTop(T:TopDict X.prog X.w X.K a f):OpR X (compareOp .NotIn) (λx y H Q=>∃z,x=.str z/\y=.ref a/\Q (.bl (!(f z).isSome)) H):=by
 intro pn s Y H x y v u Q I e d h;obtain⟨z,rfl,rfl,q⟩:=h;obtain⟨t,rfl⟩:=e;cases d;exact wpAny_notIn_of (isStr_self z t) T.ne (T.map I) ⟨.bl _,H,I.tok _,rfl,q⟩
def ix_top(T:TopDict X.prog X.w X.K a f):IxR X (λx y H Q=>∃z v u,x=.ref a/\y=.str z/\f z=some u/\RelV v u/\Q v H):=by
 intro value d pn s Y H x y v u Q I j g h l;obtain⟨z,e,B,rfl,rfl,r,k,q⟩:=h;cases j;obtain⟨t,rfl⟩:=g;have m:=T.map I;exact tail_any m.typeIs PySem.F.slot_dict_getitem.lookup (wpAny_getItem_of (isStr_self z t) m r ⟨e,H,I.tok _,k,q⟩) l
section
variable{o e a:Expr}{ta:TD}{pos:Pos}
def tabL:List (Str×Cst)->Str->Option Cst
 |[],_=>none
 |(k,c)::r,z=>if z=k then some c else tabL r z
structure GT(P:Program)(w:World)(K:W.Frag)(mg:Str->Option Value)(x:Str)(tab:List (Str×Cst)):Prop where
 ex:∃a f,mg x=some (.ref a)/\ZZ.TopDict P w K a f/\(∀z,tabL tab z=none->f z=none)/\∀z c,tabL tab z=some c->∃u v,f z=some u/\RelV v u/\CRep K c v
def Mt(a:List (Str×Cst))(ta:TD):TD:=λU φ=>ta U λr=>match r.d with
 |.str z=>φ (dv (.bl (!(tabL a z).isSome)))
 |_=>False
def Ar{P:Program}{w:World}{K:W.Frag}{f:Str->Option Value}{a:List (Str×Cst)}(J:∀ z,tabL a z=none->f z=none)(h2:∀ z c,tabL a z=some c->∃ u v,f z=some u/\RelV v u/\CRep K c v)(z:Str):(f z).isSome=(tabL a z).isSome:=by
 cases e:tabL a z with
 |none=>rw[J z e];rfl
 |some c =>
  obtain⟨u,v,d,_⟩:=h2 z c e;rw[d];rfl
def Mg{x:Str}(G:GT X.prog X.w X.K X.mg x tab)(B:ED M X a ta)(y:Gl X x:=by rfl)(hd:D_ x:=by decide)(u:behindInMarks .NotIn (.Name x p)=false:=by with_unfolding_all rfl):ET M X (.Compare a [.NotIn] [.Name x p] pos) (tBo (Mt tab ta)):=λH_=>by
 obtain⟨t,f,g,T,J,h2⟩:=G.ex;refine impT (Tg (ZZ.op_notInTop T) (B H_) (Tl y g (v:=.ref t) rfl hd) u) λY H Q q=>?_;obtain⟨U,o,R,φ,e,kk⟩:=q;refine⟨U,o,R,_,e,λv r H1 k l j=>?_⟩;obtain⟨kd,d⟩:=r;cases d with
 |str z =>
  cases (show v=_ from l.view)
  refine⟨z,rfl,rfl,_,rfl,?_⟩;rw[Ar (P:=X.prog) (w:=X.w) J h2];exact kk _ H1 k j
 |_=>exact j.elim
def Gp(a:List (Str×Cst))(ta:TD):TD:=λU φ=>ta U λr=>match r.d with
 | .str z=>(match tabL a z with
  |some c=>φ (dv (cstD c))
  | none=>False)
 |_=>False
def Qj{x:Str}(G:GT X.prog X.w X.K X.mg x tab)(I:ED M X a ta)(D:Gl X x:=by rfl)(hd:D_ x:=by decide)(B:Ws a:=by intro _ _;rfl):ED M X (.Subscript (.Name x p) a pos) (Gp tab ta):=λH_=>by
 obtain⟨t,f,k,T,J,h2⟩:=G.ex;refine impE (E8 (ZZ.ix_top T) (Tl D k (v:=.ref t) rfl hd) (I H_) B) λY H Q q=>?_;obtain⟨U,o,R,φ,j,kk⟩:=q;refine⟨U,o,R,_,j,λv r H1 l y e=>?_⟩;obtain⟨kd,d⟩:=r;cases d with
 |str z =>
  cases (show v=_ from y.view)
  dsimp only at e
  split at e
  ·rename_i c h1;obtain⟨u,w,L,g,N⟩:=h2 z c h1;exact⟨z,w,u,rfl,rfl,L,g,kk _ _ H1 l (RV.val (Oh N)) e⟩
  exact e.elim
 |_=>exact e.elim
end
section
open PySem PySem.Spec PySem.W PyProof.Rows
def jf(D:Addr)(i n ep:Nat)(d a o1 o2:Value):Obj:={cls:=.type "dict_itemiterator",dict:=none,data:=.fields #[d,a,.ref D,.int i 0,.int n 0,.int ep 0,o1,o2],slots:=#[]}
def RawJ(h:Heap)(h1 D:Addr)(i n ep:Nat):Prop:=∃x0 x1 o1 o2,h.get? h1=some (jf D i n ep x0 x1 o1 o2)/\((x0=.none/\x1=.bool false)\/∃(b:Addr)(f:Bool)(ob:Obj),x0=rawInt b/\x1=.bool f/\h.get? b=some ob/\b≠h1)
def Xq(e:DictEntry):Obj:={cls:=.type "tuple",data:=.seq #[e.key,e.val]}
def RawJ.ty{s:Shared}{h1 D:Addr}{i n ep:Nat}(y:RawJ s.heap h1 D i n ep):s.TypeIs (.ref h1) "dict_itemiterator":=let ⟨_,_,_,_,e,_⟩:=y;⟨_,e,rfl⟩
section
variable{D h1 b:Addr}{rows:Array DictEntry}{ep:Nat}{o1 o2:Value}
def K3(a:(D==sysModules)=false)(x:RawD s.heap D rows ep)(q:Q (.ref s.heap.objs.size) {s with heap:=s.heap.push {cls:=.type "dict_items",data:=.fields #[.ref D]}}):wpAny (model prog w) A (call (.builtin "dict.items") [.ref D]) Q xs s:=by
 have ty:=x.ty;refine zbY F.slot_dict_items ty F.entry_dict_items (?body) (F.args_dict_items_1 _);unfold Builtin.«dict.items»;apply zaa;unfold Builtin.Dict.noArgs;apply zaa;refine zfN ty (?_:_);show wpAny _ _ (pure D) _ _ s;apply zab;show wpAny _ _ (Builtin.Dict.showsAll D >>= _) _ _ s;unfold Builtin.Dict.showsAll;rw[zaJ (show ¬ ((D==sysModules)=true) by rw[a];decide)]
 apply zaa;apply zab;apply zaa;exact zbT (zab ⟨_,rfl,q⟩)
def P9{v:Addr}(a:s.heap.IsItemsView v D)(x:RawD s.heap D rows ep)(q:Q (.ref s.heap.objs.size) {s with heap:=s.heap.push {cls:=.type "dict_itemiterator",data:=.fields #[.none,.bool false,.ref D,.int 0 0,.int rows.size 0,.int ep 0,.none,.none]}}) :
  wpAny (model prog w) A (pyIter (.ref v)) Q xs s:=by
 have ty:=a.typeIs;obtain⟨o,g,c,d⟩:=id a;obtain⟨o2,g2,j,e2⟩:=id x;refine wpAny_pyIter_slot ty F.slot_dict_items_iter (zbY F.slot_dict_items_iter ty F.entry_dict_items_iter (?body) (F.args_dict_items_iter_1 _));unfold Builtin.«dict_items.__iter__»;apply zaa;apply zab;apply zaa;unfold Builtin.Dict_items.dictOf;apply zaa;refine zbW g d (x:=.ref D) rfl (zab (?_:_));apply zaa;unfold Builtin.Dict_items.newIterator;apply zaa;refine zcR g2 e2 ?_;apply zaa;refine zdS g2 e2 ?_;have e:Builtin.Dict_items.ownsTuple "dict_itemiterator" = true:=by decide
 simp only[e,zfG];refine zbT (zab ⟨_,rfl,"dict_itemiterator",_,⟨_,zad _ rfl,rfl⟩,F.slot_dict_itemiterator_next.lookup,(?_:_)⟩) (?_:_)
 ·simpa [rawInt,Builtin.Dict_items.ownedTupleFields] using q
 simp only[sizeOk,Builtin.Dict_items.ownedTupleFields,zap,zLa,zLc,zLn,zaV];omega
def K4{Q:Option Value->Shared->Prop}(g:A.handled=none)(y:RawJ s.heap h1 D rows.size rows.size ep)(x:RawD s.heap D rows ep)(q:∀ h',Heap.ExtBut h1 s.heap h'->Q none {s with heap:=h'}):wpAny (model prog w) A (pyNext (.ref h1)) Q xs s:=by
 have ty:=y.ty;obtain⟨k,j,o1,o2,e,c⟩:=id y;obtain⟨l,g2,r,e2⟩:=id x;unfold pyNext;apply zaa;refine zfS (zbX (name:=Str.ofString "__next__") ty zdD (zbY zdD ty F.entry_dict_itemiterator_next (?_:_) (F.args_dict_itemiterator_next_1 _)));apply zaa;apply zab;apply zaa;apply zaa
 first|refine zaa (zcZ ty (zab (?_:_)))|refine zaa (zdN ty (zab (?_:_)))
 apply zaa;refine wpAny_fieldsOf e rfl ?_;have d:Builtin.Dict_items.ownsTuple "dict_itemiterator" = true:=by decide
 simp only[d,zfG];show wpAny _ _ (if (Value.ref D==Value.none)=true then _ else _) _ _ s
 rw[zaJ (show ¬ ((Value.ref D==Value.none)=true) from λz=>by cases z)]
 apply zaa;apply zab;apply zaa;refine zcR g2 e2 ?_;rw[zaJ (show ¬ _ by simp)]
 apply zaa;apply zab;apply zaa;refine zdS g2 e2 ?_;rw[zaJ (show ¬ _ by simp)]
 apply zab;simp only[show ¬ ((rows.size:Int)<0) by omega,zfR,zdQ,Array.getElem?_eq_none (zaj rows.size)]
 apply zaa
 first|refine zaa (zcZ ty (zab (?_:_)))|refine zaa (zdN ty (zab (?_:_)))
 show wpAny _ _ (setField (.ref h1) 2 .none >>= _) _ _ s;apply zaa;refine wpAny_setField e rfl aE (?_:_)
 show wpAny _ _ (newExc (.type "StopIteration") [] >>= _) _ _ _;apply zaa;simp only[newExc,newTuple];apply zaa;refine zbT ?_ (by size_fits)
 apply zaa (m:=firstArgMember _ _);refine wpAny_of_eq (a:=Value.none) (by first|rfl|(simp only[firstArgMember];rfl)) ?_
 refine zbT ?_ (by size_fits)
 simp only[raiseNew];apply zaa;apply wpAny_handled;rw[show A.in1.handled=none from g];refine zaa (zab (wpAny_throw (?_:_)));apply zaa;refine zfO (T:="StopIteration") (b:=true) ⟨_,zad _ rfl,rfl⟩ isSubtype_stop ?_;exact zab (q _ (((Heap.SameBut.update ..).extBut.push _).push _))
end
def O2:typeOf (.builtin "dict.items")=pure (.type "method_descriptor"):=by kernel_rfl
end
section
end
def inR(m:Int)(ns:List Int):Prop:=ns.length<=1000/\(m<=0->1<=ns.length)/\∀n∈ns,0<m->0<=n/\n<m
variable{m:Int}
theorem U6:∀(its:List Value),(∀v∈its,∃(i:Int)(t:Tok),v=.int i t/\(0<m->0<=i/\i<m))->∃ns:List Int,ns.length=its.length/\(∀n∈ns,0<m->0<=n/\n<m)/\Vals (ns.map V.int) its
 |[],_=>⟨[],rfl,(λ_ h=>nomatch h),.nil⟩
 |v::its,h=>by
  obtain⟨i,t,rfl,J⟩:=h v zao;obtain⟨ns,l,r,vs⟩:=U6 its λw d=>h w (zal _ d);refine⟨i::ns,by simp[l],λn a=>?_,.cons ⟨t,rfl⟩ vs⟩
  rcases zam.mp a with rfl|a
  ·exact J
  exact r n a
theorem vals_ints1:∀{ns:List Int}{its:List Value},Vals (ns.map V.int) its->(∀n∈ns,0<m->0<=n/\n<m)->∀v∈its,∃(i:Int)(t:Tok),v=.int i t/\(0<m->0<=i/\i<m)
 |[],_,.nil,_,v,h=>nomatch h
 |n::ns,_,.cons r t,hr,v,h=>by
  obtain⟨tk,e⟩:=r;rcases zam.mp h with rfl|h
  ·exact⟨n,tk,e,hr n zao⟩
  exact vals_ints1 t (λk a=>hr k (zal _ a)) v h
def Md(I:Inv X pn Y H s)(h:H a=some (j7 a m))(q:0<=m):∃ns:List Int,inR m ns/\Inv X pn Y (upd H a (.lst (ns.map V.int))) s:=by
 obtain⟨⟨_,its,n,e,sz,d,all⟩|⟨z,_⟩,_⟩:=(show yy X.prog X.w H s.heap a (j7 a m) from I.hok a _ h)
 rotate_left
 ·omega
 obtain⟨ns,l,r,vs⟩:=U6 its.toList λv j=>all v (by simpa using j)
 have g:ns.length<=1000:=by rw[l,zcQ];exact sz
 refine⟨ns,⟨g,λk=>by rw[l,zcQ];exact d k,r⟩,?_⟩
 exact I.write (t':=s.toks) (h':=s.heap) (x:=a) (e:=a) (o:=.lst (ns.map V.int)) (by rw[h];exact zdA) (.inl rfl) (λ_ _ _ z=>z) ⟨_,e⟩ (show yy X.prog X.w _ s.heap a (.lst _) from⟨by rw[zLm,zaV];omega,its.toList,n,vs,by simpa using e⟩)
def Dh(e:h'.get? a=some {cls:=.type "list",dict:=none,data:=.seq its n,slots:=#[]})(sz:its.size<=1000)(d:m<=0->1<=its.size)(all:∀ v∈its,∃ (i:Int) (t:Tok),v=.int i t/\(0<m->0<=i/\i<m))(g:0<=m):yy P w H' h' a (j7 a m) :=
 ⟨.inl ⟨g,its,n,e,sz,d,all⟩,⟨_,e⟩,λJ h2 z k=>z.elim (λ⟨_,its',j,l,r⟩=>.inl ⟨g,its',j,k _ l,r⟩) λz=>absurd z.1 aD⟩
def X6(I:Inv X pn Y H s)(h:H a=some (.lst (ns.map V.int)))(r:inR m ns)(d:0<=m):Inv X pn Y (upd H a (j7 a m)) s:=by
 obtain⟨z,its,n,vs,e⟩:=(show yy X.prog X.w H s.heap a (.lst (ns.map V.int)) from I.hok a _ h);have l:its.length=ns.length:=by have:=vs.length;rw[zLm]at this;exact this.symm
 exact I.write (t':=s.toks) (h':=s.heap) (x:=a) (e:=a) (o:=j7 a m) (by rw[h];exact zdA) (.inl rfl) (λ_ _ _ z=>z) ⟨_,e⟩ (Dh (its:=its.toArray) e (by rw[zap,l];exact r.1) (λj=>by rw[zap,l];exact r.2.1 j) (λv g=>vals_ints1 vs r.2.2 v (by simpa using g)) d)
def B7(i:Nat):TDS:=λU ds=>match slot U i with
 |some ⟨.val,.fd m⟩=>0<m/\∀c:Int,0<=c->c<m->ds.rt (dv (.int c))
 |_=>False
def Fd(i:Nat){x:Str}{p1 p2 p3 p4 p5 p6 O p8 p9 p10 y:Pos} {j1 j2} (hu:X.A.units+64<cLine) (hN:X.N[i]?=some x:=by rfl) (hv:Vis X.env.scope x:=by walk_at "o")
  (hd:D_ x:=by decide) (L:(x==("__classdict__" : Str))=false:=by decide) (hm:behindInMarks .Eq (.List [] p2)=false:=by with_unfolding_all rfl)
  (hq:∀{to:TE},PE X (.Name x O) to->PE X (.Call (.Attribute (.Name x O) "pop" p8) [.Constant (.int 0) j2 p9] [] p10) (tBM X.K "list" Hs to (P4 (tC (.int 0)) tNil)):=by
   intro to J;exact Kn zdX PySem.F.slot_list_pop PySem.F.type_list_pop Kt J (yr N3 uv)) :
  SDs M X [.If (.Compare (.Name x p1) [.Eq] [.List [] p2] p3) [.Return (some (.Constant (.int 0) j1 p4)) p5] [] p6,.Return (some (.Call (.Attribute (.Name x O) "pop" p8) [.Constant (.int 0) j2 p9] [] p10)) y] (B7 i):=λH_ pn s Y H EE I h=>by
 obtain⟨U,o,R,ds,r,k1,k2,k3,k4⟩:=h;unfold B7 at r;split at r
 ·rename_i m es;obtain⟨B,r⟩:=r;obtain⟨v,ev,G⟩:=R.slots i _ (qx.mp es);obtain⟨a,rfl,ha,na⟩:∃a,v=.ref a/\H a=some (j7 a m)/\a∉o.map Prod.snd:=by
   rcases G with⟨_,h⟩|⟨k,_⟩
   ·exact h
   cases k
  obtain⟨ns,hr,I1⟩:=Md I ha aD
  have body:=wc (Ov (Tg (N5 hu) (vi hN hv hd L (pos:=p1)) (Ru uv (pos:=p2)) hm (pos:=p3)) (sj (j9 (N3 (i:=0) (j:=j1) (pos:=p4)) (pos:=p5))) bh (pos:=p6)) (sj (j9 (hq (vi hN hv hd L (pos:=O))) (pos:=y)))
  let D1:Ends:={EE with nx:=λ_ _=>False,bk:=λ_ _=>False,ct:=λ_ _=>False,rt:=λv H2=>∃(c:Int)(g:List Int),v=.int c/\0<=c/\c<m/\H2 a=some (.lst (g.map V.int))/\inR m g/\∀b u,b≠a->H b=some u->H2 b=some u}
  refine thn (body pn s Y _ D1 I1 ?_) λfl s' p=>?_
  ·have J:upd H a (HO.lst (ns.map V.int)) a=some (.lst (ns.map V.int)):=zm;refine⟨.ref a,ev,zbG _,λq h1=>?_⟩;have nq:a≠q:=zl J h1;have h2:upd (upd H a (HO.lst (ns.map V.int))) q (.lst []) a=some (.lst (ns.map V.int)):=by rw[zj nq];exact J
   have Q:∀b u,b≠a->H b=some u->upd (upd H a (HO.lst (ns.map V.int))) q (.lst []) b=some u:=λb u d l=>by
    have e:upd H a (HO.lst (ns.map V.int)) b=some u:=by rw[zj d];exact l
    rw[zj (zl e h1)];exact e
   refine⟨.lst (ns.map D.int),.lst [],⟨a,_,rfl,h2,aE,zr.ints ns⟩,⟨q,[],rfl,zm,aE,rfl⟩,?_,?_,_,rfl,?_⟩
   ·show ∀x∈ns.map D.int,okD 39 x;intro x W;obtain⟨n,_,rfl⟩:=zah.mp W;simp[okD]
   ·show ∀x∈([]:List D),okD 39 x;intro x W;cases W
   cases ns with
   |nil =>
    show if (eqD (.lst []) (.lst [])=true) then _ else _
    rw[zaM (show eqD (D.lst []) (D.lst [])=true from rfl)];exact⟨0,[],rfl,Int.le_refl _,B,h2,⟨zbG _,(λz=>absurd B aD),λ_ z=>nomatch z⟩,Q⟩
   |cons n ns =>
    show if (eqD (.lst (D.int n::ns.map D.int)) (.lst [])=true) then _ else _
    rw[zaJ (by simp[eqD,eqDs])]
    refine⟨.ref a,ev,.inl ⟨rfl,_,SqL.of h2⟩,a,_,0,0,.int n,rfl,rfl,h2,by decide,by decide,?_,rfl,?_⟩
    ·simp[seqIndex?]
    exact⟨n,ns,rfl,(hr.2.2 n zao B).1,(hr.2.2 n zao B).2,zm,⟨by have:=hr.1;simp at this;omega,(λz=>absurd B aD),λk Q=>hr.2.2 k (zal _ Q)⟩,λb u d l=>by rw[zj d];exact Q b u d l⟩
  cases fl with
  |ret u =>
   obtain⟨v,σ',H2,I2,rv,c,g,rfl,c0,c1,e2,r2,kp⟩:=p;refine⟨.int c,σ',upd H2 a (j7 a m),X6 I2 e2 r2 aD,rv,k4 _ (dv (.int c)) _ (R.same.trans λb u d=>?_) aH (r c c0 c1)⟩
   by_cases hba:b=a
   ·subst hba;rw[zm];rw[ha]at d;exact d
   rw[zj hba];exact kp b u hba d
  |next=>obtain⟨_,_,_,f⟩:=p;exact f.elim
  |brk=>obtain⟨_,_,_,f⟩:=p;exact f.elim
  |cont=>obtain⟨_,_,_,f⟩:=p;exact f.elim
 exact r.elim
theorem Yn{K:W.Frag}{H:Hp}{O:List Addr}:∀{ns:List Int}{E:List V},Reps K H O (ns.map D.int) E->E=ns.map V.int
 |[],_,h=>h
 |n::ns,E,h=>by
  obtain⟨v,r,rfl,q,t⟩:=h;cases (show v=_ from q);rw[Yn t];rfl
def REnv.feed{K:W.Frag}{H_ H:Hp}{Y:St}{U:DE}{o:List (Nat×Addr)}(R:REnv K H_ H Y U o){i:Nat}{ns:List Int}{m:Int}(e:slot U i=some (dO (.lst (ns.map D.int)))) :
  ∃a o',H a=some (.lst (ns.map V.int))/\REnv K H_ (upd H a (j7 a m)) Y (setS U i (dv (.fd m))) o'/\Grow (o.map Prod.snd) (o'.map Prod.snd) H (upd H a (j7 a m)):=by
 obtain⟨v,ev,q⟩:=R.slots i _ (qx.mp e);obtain⟨a,rfl,mem,E,hx,rp⟩:∃a,v=.ref a/\(i,a)∈o/\∃E,H a=some (.lst E)/\Reps K H (o.map Prod.snd) (ns.map D.int) E:=by
  rcases q with⟨k,_⟩|⟨_,a,e1,m,c⟩
  ·cases k
  exact⟨a,e1,m,c⟩
 cases Yn rp
 have sub:∀p∈o.filter (λp=>decide (p.1≠i)),p∈o:=λp x=>(zcA.mp x).1;have M:∀p∈o.filter (λp=>decide (p.1≠i)),p.2≠a:=λp x z=>by
  have:=W4 R.nda (sub p x) mem z;have I:=zbU (zcA.mp x).2;rw[this]at I;exact I rfl
 have B:∀b∈(o.filter (λp=>decide (p.1≠i))).map Prod.snd,b∈o.map Prod.snd:=λb h1=>by
  obtain⟨p,x,e⟩:=zah.mp h1;exact zah.mpr ⟨p,sub p x,e⟩
 have Q:a∈o.map Prod.snd:=zah.mpr ⟨_,mem,rfl⟩;have L:a∉(o.filter (λp=>decide (p.1≠i))).map Prod.snd:=λh1=>by
  obtain⟨p,x,e⟩:=zah.mp h1;exact M p x e
 have g:Grow (o.map Prod.snd) ((o.filter (λp=>decide (p.1≠i))).map Prod.snd) H (upd H a (j7 a m)) :=
  ⟨λb u h n=>⟨by rw[zj (λz=>n (by rw[z];exact Q))];exact h,λz=>n (B b z)⟩,λb ys h=>by rw[zj (λz=>by subst z;rw[hx]at h;cases h)];exact h,λb ob u h=>by rw[zj (λz=>by subst z;rw[hx]at h;cases h)];exact h⟩
 refine⟨a,_,hx,?_,g⟩;have ds:=R.len;exact {
  same:=λb u h=>by
   have h1:b≠a:=λz=>by
    subst z;have:=R.fresh _ mem;rw[this]at h;cases h
   rw[zj h1];exact R.same b u h
  fresh:=λp x=>R.fresh p (sub p x)
  trk:=λp x=>by rw[zj (M p x)];exact R.trk p (sub p x)
  mtb:=λp x=>by rw[zj (M p x)];exact R.mtb p (sub p x)
  nda:=List.Nodup.sublist (List.Sublist.map _ List.filter_sublist) R.nda
  len:=by rw[ym,zaF];exact R.len
  slots:=λj r y=>by
   rw[ym,List.getElem?_set]at y;by_cases hj:i=j
   ·subst hj;rw[zaM rfl]at y;split at y
    ·cases y
     exact⟨.ref a,ev,.inl ⟨rfl,a,rfl,zm,L⟩⟩
    cases y
   rw[zaJ hj]at y;obtain⟨v,O,q⟩:=R.slots j r y;refine⟨v,O,?_⟩;rcases q with⟨k,q⟩|⟨k,b,e1,mb,c⟩
   ·exact .inl ⟨k,RepN.grow g _ _ q⟩
   have G:(j,b)∈o.filter (λp=>decide (p.1≠i)):=zcA.mpr ⟨mb,zaX (Ne.symm hj)⟩;have N:=M _ G;refine .inr ⟨k,b,e1,G,?_⟩;obtain⟨kk,d⟩:=r;cases d with
   |lst Z=>obtain⟨E,q,r⟩:=c;exact⟨E,by rw[zj N];exact q,zr.grow g _ _ r⟩
   |dk ks Z=>obtain⟨E,q,l,nd,r⟩:=c;exact⟨E,by rw[zj N];exact q,l,nd,zr.grow g _ _ r⟩
   |fd m=>have c:H b=some (j7 b m):=c;show upd H _ _ b=_;rw[zj N];exact c
   | _=>exact c.elim}
def z2e(i:Nat)(m:Int)(t:TDS):TDS:=λU ds=>∃ns:List Int,slot U i=some (dO (.lst (ns.map D.int)))/\inR m ns/\t (setS U i (dv (.fd m))) ds
def Fk(i:Nat)(m:Int){X:Cx}{st:Stmt}{t:TDS}(h:SD M X st t)(l:0<=m:=by decide):SD M X st (z2e i m t):=λH_ pn s Y H G I q=>by
 obtain⟨U,o,R,ds,⟨ns,e,r,B⟩,y,x,v,u⟩:=q;obtain⟨a,o',z,D,g⟩:=R.feed (m:=m) e;refine h H_ pn s Y _ G (X6 I z r l) ⟨_,o',D,ds,B,λj d H2 o2 g2 R2 k=>y j d H2 o2 (g.trans g2) R2 k,λj d H2 o2 g2 R2 k=>x j d H2 o2 (g.trans g2) R2 k,λj d H2 o2 g2 R2 k=>v j d H2 o2 (g.trans g2) R2 k,u⟩
theorem Qm(g:l≠h1):∀(n i:Nat)(s:Shared)(Q:List Value->Shared->Prop),s.heap.IsListIter h1 l i->s.heap.IsList l its->i+n<=its.size ->
  (∀h',h'.IsListIter h1 l (i+n)->h'.IsList l its->Heap.SameBut h1 s.heap h'->Q ((its.toList.drop i).take n) {s with heap:=h'})->wpAny (model prog w) A (draw (.ref h1) n) Q xs s
 |0,i,s,Q,y,hl,_,q=>by
  show wpAny _ _ (pure []) Q xs s;apply zab;have:=q s.heap y hl (Heap.SameBut.refl ..);simpa using this
 |n+1,i,s,Q,y,hl,le,q=>by
  have lt:i<its.size:=by omega
  show wpAny _ _ (pyNext (.ref h1) >>= _) Q xs s;apply zaa;refine wpAny_pyNext_list_item y hl (x:=its[i]) (by simp[lt]) λJ j d=>?_
  have hl1:J.IsList l its:=hl.at λo e=>d.extBut l o g e;apply zaa;apply zcH;refine Qm g n (i+1) _ _ j hl1 aD λh2 y2 a s2=>zab (?_:_)
  have k:its.toList.drop i=its[i]::its.toList.drop (i+1):=by simp[zcW,lt]
  have:=q h2 (by rw[show i+(n+1)=i+1+n by omega];exact y2) a (d.trans s2)
  rw[k,List.take_succ_cons]at this;exact this
def Qz {x1} {pos:Pos} {Q:Unit->Shared->Prop} (u:A.handled=none) (hl:s.heap.IsList l its) (r:(assignEach elts env).length=its.size) (k:(assignEach elts env).findIdx? (·.1)=none) (q:∀h',Heap.ExtBut s.heap.objs.size s.heap h'->wpAny (model prog w) A (assignInOrder ((assignEach elts env).map (·.2)) its.toList) Q xs {s with heap:=h'}):wpAny (model prog w) A (assign (.Tuple elts x1 pos) env (.ref l)) Q xs s:=by
 have j:l≠s.heap.objs.size:=by obtain⟨o,e,_⟩:=hl;exact zaY (zae e)
 rw[assign_Tuple];apply zaa;apply wpAny_standAt;unfold unpack;rw[r,k];apply zaa;apply zcH;unfold unpackItems;apply zaa;unfold notIterableAtAll;apply zaa;refine wpAny_specialOf hl.typeIs PySem.F.slot_list_iter.lookup (?_:_);apply zab;simp only[zfA,zfR];apply zaa;apply zcH;refine zdH hl (?_:_);apply zaa;apply zcH;refine Qm j its.size 0 _ _ ⟨_,zad _ rfl,rfl,rfl⟩ (hl.push _) aD λJ d hl1 g=>?_
 rw[show List.take its.size (List.drop 0 its.toList)=its.toList by rw[List.drop_zero];exact zfD aE]
 rw[zaJ (show ¬ _ by simp)]
 apply zaa;apply zcH;refine wpAny_pyNext_list_end u d hl1 aE λh2 e2=>?_
 simp only[Option.isSome_none,zfA,zfR];refine zab (q h2 λb o a e=>e2 b o a (g.extBut b o a (zac _ e)))
def gLst(K:W.Frag)(n:Nat)(t:TGs):TG:=λv Y H Q=>∃a E,v=.ref a/\SqL K H a E/\E.length=n/\t E Y H Q
def E7{k:Nat}{pos:Pos}(B:X.K=K0)(z:X.calm=true)(h:PGs X es t)(y:(assignEach es X.env).length=n:=by rfl)(g:(assignEach es X.env).findIdx? (·.1)=none:=by rfl):PG X (.Tuple es k pos) (gLst K0 n t):=by
 subst B;intro pn s Y H v u Q I r d;obtain⟨a,E,e1,x,hl,d⟩:=d;subst e1;cases r;obtain⟨its,j,q,G⟩:=I.list x;refine Qz (I.ok.hd z) q.isList (by simp[y,<- hl,j.length]) g λh' l=>?_
 have D:Inv X pn Y H {s with heap:=h'}:=I.kept (t':=s.toks) λb o e=>l b o (zaY (zae e)) e;exact h pn _ Y H E _ Q D (by simpa using j) d
def gL4(i j l m:Nat):TGD:=λd U L=>match d with
 |.lst [a,b,c,e]=>L (setS (setS (setS (setS U i (dv a)) j (dv b)) l (dv c)) m (dv e))
 |_=>False
def Dc{K:W.Frag}(i j l m:Nat):d5 K (gLst K 4 (jg (sn i) (jg (sn j) (jg (sn l) (jg (sn m) gNil))))) (gL4 i j l m):=λH_ H Y U o d v L Q R h g k=>by
 unfold gL4 at g;split at g
 ·rename_i a b c e;obtain⟨p,E,rfl,q,n,r⟩:=h;obtain⟨y,r1,rfl,J,v2,r2,rfl,h2,x,G,rfl,B,u,D,rfl,z,rfl⟩:=r;refine⟨p,_,rfl,SqL.of q,rfl,y,_,rfl,v2,_,rfl,x,_,rfl,u,_,rfl,rfl,?_⟩;exact k _ _ ((((R.setV i J).setV j h2).setV l B).setV m z) g
 exact g.elim
section
variable{scope:Scope}{T F:List Str}{js:List Nat}{tg iter elt:Expr}{ifs:List Expr}{pos:Pos}{ti:TID}{g2:TG}{g:TGD}{tc:TDb}{te:TD}
def Gq:=Mw false
def Uo(Z:List D)(h:∀ L:List D->Prop,L Z->ti U L)(P:Nat->List D->Prop)(hl:Z.length<=10000000)(j:P 0 [])(e:∀ (i:Nat) (d:D) (es:List D),Z[i]?=some d->es.length<=i->P i es->g d (ρ0 n js U) λρ'=>tc ρ' λc=>(c=true->te ρ' λr=>(match r.k with|.own=>False|_=>True)/\P (i+1) (es++[r.d]))/\(c=false->P (i+1) es))(a:∀ es,P Z.length es->φ (df (.lst es))):Gq ti n js g tc te U φ:=h _ ⟨P,hl,j,e,a⟩
def b3(i:Nat){y:Str}(W:X.N.Nodup)(hi:EI M X tg iter ti)(S:zx X.env.scope scope T F)(e:Paired (λx j=>X.N[j]?=some x) F js)(u:js.Nodup)(L:∀ cl C fp s H,PG (yp X (T++F) scope cl C fp s H) tg g2)(h1:Zt T.length g2)(hl:d5 X.K g2 g)(G:∀ cl C fp s H,EIf M (yp X (T++F) scope cl C fp s H) ifs tc)(O:∀ cl C fp s H,ED M (yp X (T++F) scope cl C fp s H) elt te)(Q:X.calm=true:=by rfl)(I:∀ x,foldedSetIterable iter X.env x=pure x:=by intro _;rfl)(B:X.N[i]?=some y:=by rfl)(a:X.env.scope.names.lookup y=some .local:=by rfl)(d:swapsWith (.ListComp elt [⟨tg,iter,ifs,0⟩] scope pos) (some (.Name y py)) spos.line X.env=pure true:=by rfl):SD M X (.Assign [.Name y py] (.ListComp elt [⟨tg,iter,ifs,0⟩] scope pos) spos) (sSet i (Gq ti T.length js g tc te)):=λH_ =>
 impS (k6 (tc:=bw X.K H_.1 tc) (te:=qd X.K H_.1 te) Q W B (.inl a) (hi H_) S e L h1 (λcl C fp s H=>G cl C fp s H H_) (λcl C fp s H=>O cl C fp s H H_) d I (.inr a)) λD Y H h=>by
  obtain⟨U,o,R,ds,V,z,k2,k3,k4⟩:=h;refine Yy (b:=false) u hl Y H _ ⟨U,o,R,λr=>(match r.k with|.own=>False|_=>True)/\ds.nx (setS U i r.sto),V,λv r H1 l q J=>?_⟩
  obtain⟨o',R',g'⟩:=R.put l i q (u6 J.1);exact z _ _ H1 o' g' R' J.2
def Gr:=Mw true
def Mv(Z:List D)(h:∀ L:List D->Prop,L Z->ti U L)(P:Nat->List D->Prop)(hl:Z.length<=100000)(j:P 0 [])(e:∀ (i:Nat) (d:D) (es:List D),Z[i]?=some d->es.length<=i->P i es->g d (ρ0 n js U) λρ'=>tc ρ' λc=>(c=true->te ρ' λr=>xx r/\P (i+1) (es++[r.d]))/\(c=false->P (i+1) es))(a:∀ es,P Z.length es->φ ⟨.new,.lst es⟩):Gr ti n js g tc te U φ:=h _ ⟨P,zak hl aB,j,e,a⟩
end
structure Gt(H H':Hp):Prop where
 tups:∀b E,H b=some (.tup E)->H' b=some (.tup E)
 frzs:∀b o u,H b=some (.frz o u)->H' b=some (.frz o u)
def Gt.trans{H H1 H2:Hp}(a:Gt H H1)(b:Gt H1 H2):Gt H H2:=⟨λc E h=>b.tups c E (a.tups c E h),λc o u h=>b.frzs c o u (a.frzs c o u h)⟩
def Gt.same{H H':Hp}(s:Same H H'):Gt H H':=⟨λb E h=>s b _ h,λb o u h=>s b _ h⟩
variable{O':List Addr}
def RepN.keep(g:Gt H H')(d:D)(v:V)(p:yz d)(h:Rep K H O d v):Rep K H' O' d v:=RepN.mono g.tups g.frzs (λ_ _ _ z=>z.elim) d v p h
def zr.keep(g:Gt H H')(Z:List D)(E:List V)(p:yt Z)(h:Reps K H O Z E):Reps K H' O' Z E:=zr.mono g.tups g.frzs (λ_ _ _ z=>z.elim) Z E p h
mutual
def Ft(K:W.Frag)(H:Hp):D->V->List Addr->Prop
 |.lst Z,v,A=>∃a E B,v=.ref a/\H a=some (.lst E)/\A=a::B/\Fts K H Z E B
 |.dk ks Z,v,A=>∃a E B,v=.ref a/\H a=some (.dK (ks.zip E))/\ks.length=Z.length/\ks.Nodup/\A=a::B/\Fts K H Z E B
 |.tup Z,v,A=>∃a E,v=.ref a/\SqR K H a E/\Fts K H Z E A
 |.non,v,A=>A=[]/\v=.non
 |.bl b,v,A=>A=[]/\v=.bl b
 |.int i,v,A=>A=[]/\v=.int i
 |.str x,v,A=>A=[]/\v=.str x
 |.ty n,v,A=>A=[]/\v=.ty n
 |.cn c,v,A=>A=[]/\CRep K c v
 |.scr ns,v,A=>A=[]/\∃a,v=.ref a/\Scr K H a ns
 |.fo _,_,_=>False
 |.fd _,_,_=>False
 |.ob C ns Z,v,A=>∃a dx E B,v=.ref a/\H a=some (.ins C dx (ns.zip E))/\ns.length=Z.length/\ns.Nodup/\A=a::B/\Fts K H Z E B
def Fts(K:W.Frag)(H:Hp):List D->List V->List Addr->Prop
 |[],E,A=>E=[]/\A=[]
 |d::Z,E,A=>∃v r B C,E=v::r/\A=B++C/\Ft K H d v B/\Fts K H Z r C
end
mutual
theorem Ft.keep(g:Gt H H'):∀(d:D)(v:V)(A:List Addr),(∀a∈A,∀u,H a=some u->H' a=some u)->Ft K H d v A->Ft K H' d v A
 |.lst Z,v,A,k,h=>by
  obtain⟨a,E,B,e,q,rfl,r⟩:=h;exact⟨a,E,B,e,k a zao _ q,rfl,Fts.keep g Z E B (λb j=>k b (zal _ j)) r⟩
 |.dk ks Z,v,A,k,h=>by
  obtain⟨a,E,B,e,q,l,n,rfl,r⟩:=h;exact⟨a,E,B,e,k a zao _ q,l,n,rfl,Fts.keep g Z E B (λb j=>k b (zal _ j)) r⟩
 |.tup Z,v,A,k,h=>by
  obtain⟨a,E,e,q,r⟩:=h;exact⟨a,E,e,Ob g.tups g.frzs q,Fts.keep g Z E A k r⟩
 |.non,_,_,_,h=>h
 |.bl _,_,_,_,h=>h
 |.int _,_,_,_,h=>h
 |.str _,_,_,_,h=>h
 |.ty _,_,_,_,h=>h
 |.cn _,_,_,_,h=>h
 |.scr ns,v,A,_,h=>by
  obtain⟨e,a,e2,q⟩:=h;exact⟨e,a,e2,Ri g.frzs q⟩
 |.fo _,_,_,_,h=>h.elim
 |.fd _,_,_,_,h=>h.elim
 |.ob C ns Z,v,A,k,h=>by
  obtain⟨a,dx,E,B,e,q,l,n,rfl,r⟩:=h;exact⟨a,dx,E,B,e,k a zao _ q,l,n,rfl,Fts.keep g Z E B (λb j=>k b (zal _ j)) r⟩
theorem Fts.keep(g:Gt H H'):∀(Z:List D)(E:List V)(A:List Addr),(∀a∈A,∀u,H a=some u->H' a=some u)->Fts K H Z E A->Fts K H' Z E A
 |[],_,_,_,h=>h
 |d::Z,E,A,k,h=>by
  obtain⟨v,r,B,C,e,rfl,q,t⟩:=h;exact⟨v,r,B,C,e,rfl,Ft.keep g d v B (λb j=>k b (zaI _ j)) q,Fts.keep g Z r C (λb j=>k b (zaE _ j)) t⟩
end
mutual
theorem Ft.rep:∀(d:D)(v:V)(A:List Addr),(∀a∈A,a∉O)->Ft K H d v A->Rep K H O d v
 |.lst Z,v,A,k,h=>by
  obtain⟨a,E,B,e,q,rfl,r⟩:=h;exact⟨a,E,e,q,k a zao,Fts.reps Z E B (λb g=>k b (zal _ g)) r⟩
 |.dk ks Z,v,A,k,h=>by
  obtain⟨a,E,B,e,q,l,n,rfl,r⟩:=h;exact⟨a,E,e,q,k a zao,l,n,Fts.reps Z E B (λb g=>k b (zal _ g)) r⟩
 |.tup Z,v,A,k,h=>by
  obtain⟨a,E,e,q,r⟩:=h;exact⟨a,E,e,q,Fts.reps Z E A k r⟩
 |.non,_,_,_,h=>h.2
 |.bl _,_,_,_,h=>h.2
 |.int _,_,_,_,h=>h.2
 |.str _,_,_,_,h=>h.2
 |.ty _,_,_,_,h=>h.2
 |.cn _,_,_,_,h=>h.2
 |.scr ns,v,A,_,h=>h.2
 |.fo _,_,_,_,h=>h.elim
 |.fd _,_,_,_,h=>h.elim
 |.ob C ns Z,v,A,k,h=>by
  obtain⟨a,dx,E,B,e,q,l,n,rfl,r⟩:=h;exact⟨a,dx,E,e,q,k a zao,l,n,Fts.reps Z E B (λb g=>k b (zal _ g)) r⟩
theorem Fts.reps:∀(Z:List D)(E:List V)(A:List Addr),(∀a∈A,a∉O)->Fts K H Z E A->Reps K H O Z E
 |[],_,_,_,h=>h.1
 |d::Z,E,A,k,h=>by
  obtain⟨v,r,B,C,e,rfl,q,t⟩:=h;exact⟨v,r,e,Ft.rep d v B (λb g=>k b (zaI _ g)) q,Fts.reps Z r C (λb g=>k b (zaE _ g)) t⟩
end
mutual
theorem Ft.dom:∀(d:D)(v:V)(A:List Addr),Ft K H d v A->∀a∈A,∃u,H a=some u/\(∀E,u≠.tup E)/\∀ob w,u≠.frz ob w
 |.lst Z,v,A,h=>by
  obtain⟨a,E,B,e,q,rfl,r⟩:=h;intro b j;rcases zam.mp j with rfl|j
  ·exact⟨_,q,(λ_ z=>by cases z),λ_ _ z=>by cases z⟩
  exact Fts.dom Z E B r b j
 |.dk ks Z,v,A,h=>by
  obtain⟨a,E,B,e,q,l,n,rfl,r⟩:=h;intro b j;rcases zam.mp j with rfl|j
  ·exact⟨_,q,(λ_ z=>by cases z),λ_ _ z=>by cases z⟩
  exact Fts.dom Z E B r b j
 |.tup Z,v,A,h=>by
  obtain⟨a,E,e,q,r⟩:=h;exact Fts.dom Z E A r
 |.non,_,_,h=>by obtain⟨rfl,_⟩:=h;intro a g;cases g
 |.bl _,_,_,h=>by obtain⟨rfl,_⟩:=h;intro a g;cases g
 |.int _,_,_,h=>by obtain⟨rfl,_⟩:=h;intro a g;cases g
 |.str _,_,_,h=>by obtain⟨rfl,_⟩:=h;intro a g;cases g
 |.ty _,_,_,h=>by obtain⟨rfl,_⟩:=h;intro a g;cases g
 |.cn _,_,_,h=>by obtain⟨rfl,_⟩:=h;intro a g;cases g
 |.scr _,_,_,h=>by obtain⟨rfl,_⟩:=h;intro a g;cases g
 |.fo _,_,_,h=>h.elim
 |.fd _,_,_,h=>h.elim
 |.ob C ns Z,v,A,h=>by
  obtain⟨a,dx,E,B,e,q,l,n,rfl,r⟩:=h;intro b j;rcases zam.mp j with rfl|j
  ·exact⟨_,q,(λ_ z=>by cases z),λ_ _ z=>by cases z⟩
  exact Fts.dom Z E B r b j
theorem Fts.dom:∀(Z:List D)(E:List V)(A:List Addr),Fts K H Z E A->∀a∈A,∃u,H a=some u/\(∀E,u≠.tup E)/\∀ob w,u≠.frz ob w
 |[],_,_,h=>by obtain⟨_,rfl⟩:=h;intro a j;cases j
 |d::Z,E,A,h=>by
  obtain⟨v,r,B,C,e,rfl,q,t⟩:=h;intro b g;rcases zas.mp g with g|g
  ·exact Ft.dom d v B q b g
  exact Fts.dom Z r C t b g
end
mutual
theorem RepN.ft:∀(d:D)(v:V),yz d->Rep K H O d v->Ft K H d v []
 |.non,_,_,h=>⟨rfl,h⟩
 |.bl _,_,_,h=>⟨rfl,h⟩
 |.int _,_,_,h=>⟨rfl,h⟩
 |.str _,_,_,h=>⟨rfl,h⟩
 |.ty _,_,_,h=>⟨rfl,h⟩
 |.cn _,_,_,h=>⟨rfl,h⟩
 |.tup Z,v,p,h=>by
  obtain⟨a,E,e,q,r⟩:=h;exact⟨a,E,e,q,zr.fts Z E p r⟩
 |.scr ns,v,_,h=>⟨rfl,h⟩
 |.fo _,_,p,_=>p.elim
 |.fd _,_,p,_=>p.elim
 |.lst Z,v,p,h=>p.1.elim
 |.dk ks Z,v,p,h=>p.1.elim
 |.ob C ns Z,v,p,h=>p.1.elim
theorem zr.fts:∀(Z:List D)(E:List V),yt Z->Reps K H O Z E->Fts K H Z E []
 |[],_,_,h=>⟨h,rfl⟩
 |d::Z,E,p,h=>by
  obtain⟨v,r,e,q,t⟩:=h;exact⟨v,r,[],[],e,rfl,RepN.ft d v p.1 q,zr.fts Z r p.2 t⟩
end
mutual
theorem Ft.pure:∀(d:D)(v:V)(A:List Addr),yz d->Ft K H d v A->A=[]
 |.lst Z,v,A,p,h=>p.1.elim
 |.dk ks Z,v,A,p,h=>p.1.elim
 |.tup Z,v,A,p,h=>by
  obtain⟨a,E,e,q,r⟩:=h;exact Fts.pure Z E A p r
 |.non,_,_,_,h=>h.1
 |.bl _,_,_,_,h=>h.1
 |.int _,_,_,_,h=>h.1
 |.str _,_,_,_,h=>h.1
 |.ty _,_,_,_,h=>h.1
 |.cn _,_,_,_,h=>h.1
 |.scr _,_,_,_,h=>h.1
 |.fo _,_,_,_,h=>h.elim
 |.fd _,_,_,_,h=>h.elim
 |.ob _ _ _,_,_,p,_=>p.1.elim
theorem Fts.pure:∀(Z:List D)(E:List V)(A:List Addr),yt Z->Fts K H Z E A->A=[]
 |[],_,_,_,h=>h.2
 |d::Z,E,A,p,h=>by
  obtain⟨v,r,B,C,e,rfl,q,t⟩:=h;rw[Ft.pure d v B p.1 q,Fts.pure Z r C p.2 t];rfl
end
def hid:Nat->DE->DE
 |_,[]=>[]
 |0,_::U=>none::U
 |l+1,x::U=>x::hid l U
theorem yk:∀(l:Nat)(U:DE),hid l U=U.set l none
 |_,[]=>by cases ‹Nat› <;> rfl
 |0,_::_=>rfl
 |l+1,x::U=>by rw[hid,yk l U,List.set_cons_succ]
def j5{l i:Nat}{U:DE}{r:EV}(h:(hid l U)[i]?=some (some r)):i≠l/\U[i]?=some (some r):=by
 rw[yk]at h;by_cases e:i=l
 ·subst e;rcases zcX i U.length with z|z
  ·rw[zaL z]at h;cases h
  rw[zcM (by rw[zaF];exact z)]at h;cases h
 rw[zaC (Ne.symm e)]at h;exact⟨e,h⟩
def dg{l i:Nat}{U:DE}(h:i≠l):(hid l U)[i]?=U[i]?:=by
 rw[yk,zaC (Ne.symm h)]
def W5(l:Nat)(U:DE)(x:EV):hid l (setS U l x)=hid l U:=by
 rw[yk,yk,ym,List.set_set]
def k9{l j:Nat}(U:DE)(x:EV)(h:j≠l):hid l (setS U j x)=setS (hid l U) j x:=by
 rw[yk,yk,ym,ym,List.set_comm _ _ h]
def tg(l:Nat)(A:List Addr):List (Nat×Addr):=A.map λa=>(l,a)
def Hh(l:Nat)(A:List Addr):(tg l A).map Prod.snd=A:=by
 unfold tg;rw[zaZ];exact List.map_id A
def yo(o:List (Nat×Addr))(l:Nat)(A:List Addr):(o++tg l A).map Prod.snd=o.map Prod.snd++A:=by
 rw[zMa,Hh]
structure ST(K:W.Frag)(H_ H:Hp)(Y:St)(U:DE)(o:List (Nat×Addr))(l:Nat)(A:List Addr)(d:D)(v:V):Prop where
 Q:REnv K H_ H Y (hid l U) (o++tg l A)
 hd:U[l]?=some (some (dv d))
 hv:Y[l]?=some (some v)
 ft:Ft K H d v A
section
variable{o:List (Nat×Addr)}{l:Nat}{A A':List Addr}{d d':D}
def ST.lt(S:ST K H_ H Y U o l A d v):l<U.length:=(zag.mp S.hd).1
def ST.ndA(S:ST K H_ H Y U o l A d v):A.Nodup:=by
 have:=S.Q.nda;rw[yo]at this;exact(zaO.mp this).2.1
def ST.dis(S:ST K H_ H Y U o l A d v):∀a∈A,a∉o.map Prod.snd:=λa g e=>by
 have:=S.Q.nda;rw[yo]at this;exact(zaO.mp this).2.2 a e a g rfl
def ST.frA(S:ST K H_ H Y U o l A d v):∀a∈A,H_ a=none:=λa e=>S.Q.fresh (l,a) (zaE _ (zah.mpr ⟨a,e,rfl⟩))
def Au{i l:Nat}{a:Addr}(h:(i,a)∈o++tg l A)(hi:i≠l):(i,a)∈o:=by
 rcases zas.mp h with h|h
 ·exact h
 obtain⟨b,_,e⟩:=zah.mp h;cases e;exact absurd rfl hi
def ST.R(S:ST K H_ H Y U o l A d v):REnv K H_ H Y U o where
 same:=S.Q.same
 fresh:=λp g=>S.Q.fresh p (zaI _ g)
 trk:=λp g=>S.Q.trk p (zaI _ g)
 mtb:=λp g=>S.Q.mtb p (zaI _ g)
 nda:=by
  have:=S.Q.nda;rw[yo]at this;exact(zaO.mp this).1
 len:=by
  have:=S.Q.len;rw[yk,zaF]at this;exact this
 slots:=λi r e=>by
  by_cases hi:i=l
  ·subst hi;rw[S.hd]at e;cases e;exact⟨v,S.hv,.inl ⟨rfl,Ft.rep _ _ _ S.dis S.ft⟩⟩
  obtain⟨w,u,q⟩:=S.Q.slots i r (by rw[dg hi];exact e)
  rw[yo]at q;have sub:∀a∈o.map Prod.snd,a∈o.map Prod.snd++A:=λa j=>zaI _ j;refine⟨w,u,?_⟩;rcases q with⟨k,q⟩|⟨k,a,e1,m,c⟩
  ·exact .inl ⟨k,RepN.sub sub _ _ q⟩
  exact .inr ⟨k,a,e1,Au m hi,c.sub sub⟩
theorem ST.to(S:ST K H_ H Y U o l A d v)(s:Same H H'):ST K H_ H' Y U o l A d v :=
 ⟨S.Q.to s,S.hd,S.hv,Ft.keep (Gt.same s) _ _ _ (λa _ u h=>s a u h) S.ft⟩
def Grow.gt{O O':List Addr}(g:Grow O O' H H'):Gt H H':=⟨g.tups,g.frzs⟩
def ST.chg(S:ST K H_ H Y U o l A d v)(g:Grow A A' H H')(ft:Ft K H' d' v A')(I:A'.Nodup)(D:∀ a∈A',a∈A\/H a=none) :
  ST K H_ H' Y (setS U l (dv d')) o l A' d' v:=by
 have hl:=S.lt;have B:Grow ((o++tg l A).map Prod.snd) ((o++tg l A').map Prod.snd) H H':=by
  rw[yo,yo];exact⟨λb u h n=>⟨(g.keep b u h λz=>n (zaE _ z)).1,λz=>(zas.mp z).elim (λz=>n (zaI _ z)) (g.keep b u h λz=>n (zaE _ z)).2⟩,g.tups,g.frzs⟩
 have y:∀p∈o,p.2∉A:=λp j z=>S.dis _ z (zah.mpr ⟨p,j,rfl⟩);refine⟨⟨λb u h=>?_,λp j=>?_,λp j=>?_,λp j=>?_,?_,λi r e=>?_,?_⟩,?_,S.hv,ft⟩
 ·refine(g.keep b u (S.Q.same b u h) λz=>?_).1;rw[S.frA b z]at h;cases h
 ·rcases zas.mp j with j|j
  ·exact S.Q.fresh p (zaI _ j)
  obtain⟨a,x,rfl⟩:=zah.mp j;rcases D a x with h|h
  ·exact S.frA a h
  exact S.Q.same.free h
 ·rcases zas.mp j with j|j
  ·obtain⟨u,e⟩:=S.Q.trk p (zaI _ j);exact⟨u,(g.keep _ _ e (y p j)).1⟩
  obtain⟨a,x,rfl⟩:=zah.mp j;obtain⟨u,hu,_⟩:=Ft.dom _ _ _ ft a x;exact⟨u,hu⟩
 ·rcases zas.mp j with j|j
  ·obtain⟨u,e⟩:=S.Q.trk p (zaI _ j);obtain⟨m1,m2⟩:=S.Q.mtb p (zaI _ j);have G:=(g.keep _ _ e (y p j)).1;refine⟨λE z=>?_,λob w z=>?_⟩
   ·rw[G]at z;rw[<- e]at z;exact m1 E z
   rw[G]at z;rw[<- e]at z;exact m2 ob w z
  obtain⟨a,x,rfl⟩:=zah.mp j;obtain⟨u,hu,L,h1⟩:=Ft.dom _ _ _ ft a x;refine⟨λE z=>?_,λob w z=>?_⟩
  ·rw[hu]at z;cases z;exact L _ rfl
  rw[hu]at z;cases z;exact h1 _ _ rfl
 ·rw[yo,zaO];refine⟨S.R.nda,I,λa x b M e=>?_⟩;subst e;rcases D a M with h|h
  ·exact S.dis a h x
  exact S.R.ofree h x
 ·rw[W5]at e;obtain⟨hi,_⟩:=j5 e;obtain⟨w,N,q⟩:=S.Q.slots i r e;refine⟨w,N,?_⟩;rcases q with⟨k,q⟩|⟨k,a,e1,m,c⟩
  ·exact .inl ⟨k,RepN.grow B _ _ q⟩
  have m':=Au m hi;exact .inr ⟨k,a,e1,zaI _ m',c.grow (λu h=>(g.keep _ _ h (y _ m')).1) B⟩
 ·rw[W5];exact S.Q.len
 rw[ym,zaL hl]
def REnv.putX(R:REnv K H_ H Y U o)(s:Same H H')(i:Nat){r:EV}{v:V}(h:RV K H H' (o.map Prod.snd) r v)(e:r.k≠.own) :
  ∃pre,REnv K H_ H' (Y.set i (some v)) (setS U i r.sto) (pre++o):=by
 obtain⟨k,d⟩:=r;cases k with
 |val=>exact⟨[],(R.to s).setV i h⟩
 |own=>exact absurd rfl e
 |fre =>
  obtain⟨a,rfl,m,n,c⟩:=h;exact⟨[(i,a)],(R.setO s i m c).1⟩
 |new=>exact⟨[],(R.to s).setV i (RepN.rep (λa z=>z.1) _ _ h)⟩
theorem ST.set(S:ST K H_ H Y U o l A d v)(s:Same H H'){j:Nat}{r:EV}{w:V}(e:j≠l)(h:RV K H H' ((o++tg l A).map Prod.snd) r w)(g:r.k≠.own) :
  ∃o',ST K H_ H' (Y.set j (some w)) (setS U j r.sto) o' l A d v:=by
 obtain⟨a,q⟩:=S.Q.putX s j h g;refine⟨a++o,⟨?_,?_,?_,(S.to s).ft⟩⟩
 ·rw[k9 _ _ e,zbN];exact q
 ·rw[ym,zaC e];exact S.hd
 rw[zaC e];exact S.hv
def ST.setP(S:ST K H_ H Y U o l A d v){j:Nat}{e:D}{w:V}(a:j≠l)(g:yz e)(h:Rep K H [] e w):ST K H_ H (Y.set j (some w)) (setS U j (dv e)) o l A d v:=by
 refine⟨?_,?_,?_,S.ft⟩
 ·rw[k9 _ _ a];exact S.Q.setV j (RepN.pure _ _ g h)
 ·rw[ym,zaC a];exact S.hd
 rw[zaC a];exact S.hv
end
abbrev TQ:=DE->(D->DE->Prop)->Prop
abbrev TQs:=DE->(List D->DE->Prop)->Prop
abbrev TQb:=DE->(Bool->DE->Prop)->Prop
structure QZ where
 nx:DE->Prop
 rt:D->DE->Prop
 bk:DE->Prop:=λ_=>False
 ct:DE->Prop:=λ_=>False
abbrev TQS:=DE->QZ->Prop
def Nl(K:W.Frag)(H_:Hp)(l:Nat)(t:TQ):TE:=λY H Q=>∃U o A d v,ST K H_ H Y U o l A d v/\∃φ,t U φ/\∀u e ρ' H' A' d',Grow A A' H H'->ST K H_ H' Y ρ' o l A' d' v->yz e->Rep K H' [] e u->φ e ρ'->Q u H'
def Av(K:W.Frag)(H_:Hp)(l:Nat)(t:TQb):TT:=λY H Q=>∃U o A d v,ST K H_ H Y U o l A d v/\∃φ,t U φ/\∀b ρ' H' A' d',Grow A A' H H'->ST K H_ H' Y ρ' o l A' d' v->φ b ρ'->Q b H'
def G8(K:W.Frag)(H_:Hp)(l:Nat)(t:TQs):TA:=λY H Q=>∃U o A d v,ST K H_ H Y U o l A d v/\∃φ,t U φ/\∀us es ρ' H' A' d',Grow A A' H H'->ST K H_ H' Y ρ' o l A' d' v->Reps K H' (o.map Prod.snd++A') es us->φ es ρ'->Q us H'
def bx(K:W.Frag)(H_:Hp)(l:Nat)(t:TQS):TS:=λDz Y H=>∃U o A d v,ST K H_ H Y U o l A d v/\∃ds,t U ds /\
 (∀ρ' σ' H' o' A' d',ST K H_ H' σ' ρ' o' l A' d' v->ds.nx ρ'->Dz.nx σ' H') /\
 (∀ρ' σ' H' o' A' d',ST K H_ H' σ' ρ' o' l A' d' v->ds.bk ρ'->Dz.bk σ' H') /\
 (∀ρ' σ' H' o' A' d',ST K H_ H' σ' ρ' o' l A' d' v->ds.ct ρ'->Dz.ct σ' H') /\
 (∀u e ρ' σ' H' o' A' d',ST K H_ H' σ' ρ' o' l A' d' v->yz e->Rep K H' [] e u->ds.rt e ρ'->Dz.rt u H')
def EQ(G:Hp->Prop)(l:Nat)(X:Cx)(e:Expr)(t:TQ):Prop:=∀H_:{H:Hp // G H},PE X e (Nl X.K H_.1 l t)
def QT(G:Hp->Prop)(l:Nat)(X:Cx)(e:Expr)(t:TQb):Prop:=∀H_:{H:Hp // G H},PT X e (Av X.K H_.1 l t)
def QA(G:Hp->Prop)(l:Nat)(X:Cx)(es:List Expr)(t:TQs):Prop:=∀H_:{H:Hp // G H},PA X es (G8 X.K H_.1 l t)
def QS(G:Hp->Prop)(l:Nat)(X:Cx)(st:Stmt)(t:TQS):Prop:=∀H_:{H:Hp // G H},PS X st (bx X.K H_.1 l t)
def QSs(G:Hp->Prop)(l:Nat)(X:Cx)(st:List Stmt)(t:TQS):Prop:=∀H_:{H:Hp // G H},PSs X st (bx X.K H_.1 l t)
theorem ya:∀{U:DE}{i:Nat}{r:EV},U[i]?=some (some r)->slot U i=some r
 |[],_,_,h=>by cases h
 |_::_,0,_,h=>zaT h
 |_::U,i+1,r,h=>ya (U:=U) (i:=i) (by simpa using h)
def s2_{U:DE}{l:Nat}{a b:D}(e:slot U l=some (dv a))(h:U[l]?=some (some (dv b))):a=b:=by have z:=ya h;rw[e]at z;cases z;rfl
variable{l:Nat}
section
variable{e:Expr}{es:List Expr}
def qE(te:TD):TQ:=λU φ=>te U λr=>yz r.d/\φ r.d U
def fh{te:TD}(h:ED M X e te):EQ M l X e (qE te):=λH_=>impE (h H_) λY H Q q=>by
 obtain⟨U,o,A,d,v,S,φ,a,k⟩:=q;exact⟨U,o,S.R,_,a,λu r H1 g j J=>k u r.d U H1 A d (Grow.same g) (S.to g) J.1 j.view.rep0 J.2⟩
def qT(tc:TDb):TQb:=λU φ=>tc U λb=>φ b U
def gc{tc:TDb}(h:ET M X e tc):QT M l X e (qT tc):=λH_=>impT (h H_) λY H Q q=>by
 obtain⟨U,o,A,d,v,S,φ,a,k⟩:=q;exact⟨U,o,S.R,_,a,λb H1 g J=>k b U H1 A d (Grow.same g) (S.to g) J⟩
def Grow.add{H H':Hp}{O A A':List Addr}(g:Grow A A' H H'):Grow (O++A) (O++A') H H' :=
 ⟨λb u h n=>⟨(g.keep b u h λz=>n (zaE _ z)).1,λz=>(zas.mp z).elim (λz=>n (zaI _ z)) (g.keep b u h λz=>n (zaE _ z)).2⟩,g.tups,g.frzs⟩
def Fu:TQs:=λU φ=>φ [] U
def vh:QA M l X [] Fu:=λH_=>impA uv λY H Q q=>by
 obtain⟨U,o,A,d,v,S,φ,a,k⟩:=q;exact k [] [] U H A d Grow.refl S rfl a
def Oo(te:TQ)(g:TQs):TQs:=λU φ=>te U λd e=>g e λZ a=>φ (d::Z) a
def j0{te:TQ}{y:TQs}(I:EQ M l X e te)(hr:QA M l X es y)(G:S_ X e es:=by rfl):QA M l X (e::es) (Oo te y):=λH_=>impA (yr (I H_) (hr H_) G) λY H Q q=>by
 obtain⟨U,o,A,d,v,S,φ,x,k⟩:=q;refine⟨U,o,A,d,v,S,_,x,λu r g H1 N d1 g1 L D B J=>⟨g,o,N,d1,v,L,_,J,λus z a H2 A2 d2 g2 h1 j h2=>?_⟩⟩;exact k (u::us) (r::z) a H2 A2 d2 (g1.trans g2) h1 ⟨u,us,rfl,RepN.keep g2.gt _ _ D B,j⟩ h2
def Xk(te:TD)(e:TQs):TQs:=λU φ=>te (hid l U) λr=>(match r.k with|.own=>False|_=>True)/\e U λZ a=>φ (r.d::Z) a
def ye{te:TD}{x:TQs}(I:ED M X e te)(hr:QA M l X es x)(G:S_ X e es:=by rfl):QA M l X (e::es) (Xk (l:=l) te x):=λH_=>impA (yr (I H_) (hr H_) G) λY H Q q=>by
 obtain⟨U,o,A,d,v,S,φ,j,k⟩:=q;refine⟨hid l U,_,S.Q,_,j,λu r H1 y B J=>⟨U,o,A,d,v,S.to y,_,J.2,λus D a H2 A2 d2 g2 h1 g h2=>?_⟩⟩;have z:=B.solid (u6 J.1);rw[yo]at z;exact k (u::us) (r.d::D) a H2 A2 d2 ((Grow.same y).trans g2) h1 ⟨u,us,rfl,RepN.grow g2.add _ _ z,g⟩ h2
end
section
variable{e c:Expr}{st:Stmt}{rest a b:List Stmt}{pos:Pos}{t u:TQS}
def qNil:TQS:=λU ds=>ds.nx U
def qSeq(t u:TQS):TQS:=λU ds=>t U {ds with nx:=λρ'=>u ρ' ds}
def qRet(te:TQ):TQS:=λU ds=>te U ds.rt
def K8(te:TQ):TQS:=λU ds=>te U λ_ a=>ds.nx a
def qIf(tc:TQb)(t u:TQS):TQS:=λU ds=>tc U λb a=>(b=true->t a ds)/\(b=false->u a ds)
def qSet(l j:Nat)(te:TD):TQS:=λU ds=>te (hid l U) λr=>(match r.k with|.own=>False|_=>True)/\ds.nx (setS U j r.sto)
def Fv(j:Nat)(te:TQ):TQS:=λU ds=>te U λd a=>ds.nx (setS a j (dv d))
def ba:QSs M l X [] qNil:=λH_=>gx bh λDz Y H h=>by
 obtain⟨U,o,A,d,v,S,ds,e,a,k,j,g⟩:=h;exact a U Y H o A d S e
def xc(h:QS M l X st t):QSs M l X [st] t:=λH_=>sj (h H_)
def yc(h:QS M l X st t)(hr:QSs M l X rest u):QSs M l X (st::rest) (qSeq t u):=λH_=>gx (wc (h H_) (hr H_)) λDz Y H h=>by
 obtain⟨U,o,A,d,v,S,ds,k,j,g,e,a⟩:=h;exact⟨U,o,A,d,v,S,_,k,λρ' σ' H' o' A' d' q h'=>⟨ρ',o',A',d',v,q,ds,h',j,g,e,a⟩,g,e,a⟩
def b9{te:TQ}(h:EQ M l X e te):QS M l X (.Return (some e) pos) (qRet te):=λH_=>impS (j9 (h H_)) λDz Y H h=>by
 obtain⟨U,o,A,d,v,S,ds,x,G,D,B,q⟩:=h;exact⟨U,o,A,d,v,S,_,x,λu r a H1 z d1 g y k j J=>q u r a Y H1 o z d1 y k j J⟩
def xi{te:TQ}(h:EQ M l X e te)(k:swapsWith e none pos.line X.env=pure false:=by rfl):QS M l X (.Expr e pos) (K8 te):=λH_=>impS (gk (h H_) k) λDz Y H h=>by
 obtain⟨U,o,A,d,v,S,ds,q,j,I,G,D⟩:=h;exact⟨U,o,A,d,v,S,_,q,λu r a H1 y d1 g x B z J=>j a Y H1 o y d1 x J⟩
def Zv{tc:TQb}(z:QT M l X c tc)(D:QSs M l X a t)(B:QSs M l X b u):QS M l X (.If c a b pos) (qIf tc t u):=λH_=>impS (Ov (z H_) (D H_) (B H_)) λDz Y H h=>by
 obtain⟨U,o,A,d,v,S,ds,G,r,q,k,j⟩:=h;refine⟨U,o,A,d,v,S,_,G,λb e H1 y d1 g x J=>?_⟩;cases b with
 |true=>rw[zaM rfl];exact⟨e,o,y,d1,v,x,ds,J.1 rfl,r,q,k,j⟩
 |false=>rw[zaJ aB];exact⟨e,o,y,d1,v,x,ds,J.2 rfl,r,q,k,j⟩
def V4(j:Nat){x:Str}{pos':Pos}{te:TD}(y:j≠l)(G:X.N.Nodup)(B:ED M X e te)(hi:X.N[j]?=some x:=by rfl)(q:Loc X.env.scope x:=by first|exact zeJ rfl|exact zdJ rfl)(u:swapsWith e (some (.Name x pos')) pos.line X.env=pure false:=by rfl)(z:X.fn x=true\/X.env.scope.names.lookup x=some .local:=by first|exact .inl rfl|exact .inr rfl|assumption):QS M l X (.Assign [.Name x pos'] e pos) (qSet l j te):=λH_=>impS (d9 G hi q (B H_) u z) λDz Y H h=>by
 obtain⟨U,o,A,d,v,S,ds,D,k,O,L,h1⟩:=h;refine⟨hid l U,_,S.Q,_,D,λw r H1 a g J=>?_⟩;obtain⟨o',I⟩:=S.set a y g (u6 J.1);exact k _ _ H1 o' A d I J.2
def Fm(j:Nat){x:Str}{pos':Pos}{te:TQ}(B:j≠l)(h1:X.N.Nodup)(G:EQ M l X e te)(hi:X.N[j]?=some x:=by rfl)(y:Loc X.env.scope x:=by first|exact zeJ rfl|exact zdJ rfl)(z:swapsWith e (some (.Name x pos')) pos.line X.env=pure false:=by rfl)(D:X.fn x=true\/X.env.scope.names.lookup x=some .local:=by first|exact .inl rfl|exact .inr rfl|assumption):QS M l X (.Assign [.Name x pos'] e pos) (Fv j te):=λH_=>impS (d9 h1 hi y (G H_) z D) λDz Y H h=>by
 obtain⟨U,o,A,d,v,S,ds,I,u,V,R,Q⟩:=h;refine⟨U,o,A,d,v,S,_,I,λw r a H1 O d1 g L q k J=>?_⟩;exact u _ _ H1 o O d1 (L.setP B q k) J
end
abbrev FTQ:=D->List D->(D->D->Prop)->Prop
def spQ(K:W.Frag)(n:Nat)(T:FTQ):Sp:=λvs H Q _=>∃d Z v ws A φ,vs=v::ws/\Z.length+1=n/\Ft K H d v A/\A.Nodup/\Reps K H A Z ws/\T d Z φ /\
 ∀u r d' H' A',Grow A A' H H'->Ft K H' d' v A'->A'.Nodup->(∀a∈A',a∈A\/H a=none)->yz r->Rep K H' [] r u->φ r d'->Q u H'
def without(A:List Addr)(H:Hp):Hp:=λb=>if b∈A then none else H b
def wn{A:List Addr}{H:Hp}{b:Addr}(h:b∈A):without A H b=none:=zaM h
def y3{A:List Addr}{H:Hp}{b:Addr}(h:b∉A):without A H b=H b:=zaJ h
def u5(A:List Addr)(H:Hp):Same (without A H) H:=λb u h=>by
 by_cases hb:b∈A
 ·rw[wn hb]at h;cases h
 rw[y3 hb]at h;exact h
def G6(K:W.Frag)(H_:Hp)(l:Nat)(t:TQs):TE:=λY H Q=>∃U o A d v,ST K H_ H Y U o l A d v/\∃φ,t U φ /\
 ∀a E es ρ' H' A' d',Grow A A' H H'->ST K H_ H' Y ρ' o l A' d' v->H' a=some (.lst E)->a∉A'->a∉o.map Prod.snd->yt es->Reps K H' [] es E->φ es ρ'->Q (.ref a) H'
def QL(G:Hp->Prop)(l:Nat)(X:Cx)(e:Expr)(t:TQs):Prop:=∀H_:{H:Hp // G H},PE X e (G6 X.K H_.1 l t)
section
variable{e:Expr}{p pos:Pos}
def Yq{Z es:List D}(J:yt Z)(h2:yt es):yt (Z++es):=yq.mpr λx a=>(zas.mp a).elim (yq.mp J x) (yq.mp h2 x)
def Bj(t:TQs):TQ:=λU φ=>t U λes a=>φ (.tup es) a
def Dl{t:TQs}(h:QL M l X e t)(h1:X.mg "tuple" = none)(L:Gl X "tuple":=by rfl)(B:starEach [e] X.env=(false,eval e X.env)::starEach [] X.env:=by rfl)(x:(backTo pos (starEach [] X.env)).any (·.1)=false:=by rfl):EQ M l X (.Call (.Name "tuple" p) [e] [] pos) (Bj t):=λH_ =>
 impE (V8 jw L h1 vz (yr (h H_) uv B) aB aB B x) λY H Q q=>by
  obtain⟨U,o,A,d,v,S,φ,r,k⟩:=q;refine⟨U,o,A,d,v,S,_,r,λa1 a y g H1 O d1 g1 N u G D z r1 J=>⟨a1,a,rfl,.inl ⟨SqL.of u,λq I=>?_⟩⟩⟩;have j:=y4 I (.tup a);exact k (.ref q) (.tup y) g _ O d1 (g1.trans (Grow.same j)) (N.to j) z ⟨q,a,rfl,⟨SqT.of zm,zm⟩,zr.keep (Gt.same j) _ _ z r1⟩ J
end
section
variable{scope:Scope}{T F:List Str}{js:List Nat}{tgt iter elt:Expr}{pos:Pos}{ti:TID}{te:TQ}
def sv{H:Hp}{D:Addr}:without [D] H D=none:=wn zao
def xh{H:Hp}{D b:Addr}(h:b≠D):without [D] H b=H b:=y3 λz=>h (zaN.mp z)
def Oq(ti:TID)(l m:Nat)(js:List Nat)(te:TQ):TQs:=λU φ=>ti (hid l U) λZ=>∃P:Nat->List D->D->Prop,Z.length<=1000/\(match slot U l with
  |some ⟨.val,d⟩=>P 0 [] d
  | _=>False) /\
 (∀i x es d,Z[i]?=some x->es.length=i->P i es d->te (setS (ρ0 1 js (setS U l (dv d))) 0 (dv x)) λe ρ'=>match slot ρ' m with
  |some ⟨.val,d'⟩=>P (i+1) (es++[e]) d'
  | _=>False)/\∀es d,P Z.length es d->φ es (setS U l (dv d))
def z0q{js:List Nat}{l k:Nat}(e:js.Nodup)(d:js[k]?=some l)(U:DE):hid (1+k) (ρ0 1 js U)=ρ0 1 js (hid l U):=by
 have a:k<js.length:=(zag.mp d).1;refine List.ext_getElem? λi=>?_;rw[yk];unfold ρ0;cases i with
 |zero=>rw[zaC aD];rfl
 |succ i =>
  show((List.replicate 1 none++js.map λj=>slot U j).set (1+k) none)[i+1]?=((js.map λj=>slot (hid l U) j))[i]?;have e1:(List.replicate 1 none++js.map λj=>slot U j)=none::js.map λj=>slot U j:=rfl;rw[e1,zfY 1 k,List.set_cons_succ,zdW,zai];by_cases hi:i=k
  ·subst hi;rw[zaL (by rw[zLm];exact a),d]
   show some none=some (slot (hid l U) l)
   congr 1
   cases q:slot (hid l U) l with
   |none=>rfl
   |some r=>exact absurd rfl (j5 (qx.mp q)).1
  rw[zaC (Ne.symm hi),zai];cases q:js[i]? with
  |none=>rfl
  |some j =>
   have g:j≠l:=λz=>by
    subst z;have J:=(zag.mp d);have h2:=(zag.mp q);exact hi ((zeN e).mp (h2.2.trans J.2.symm))
   show some (slot U j)=some (slot (hid l U) j)
   congr 1
   cases q2:slot U j with
   |none =>
    cases q3:slot (hid l U) j with
    |none=>rfl
    |some r =>
     rw[ya (j5 (qx.mp q3)).2]at q2;cases q2
   |some r=>exact(ya (by rw[dg g];exact qx.mp q2)).symm
def Yw{H_:Hp}{k:Nat}(nd:js.Nodup)(hk:js[k]?=some l)(hT:T.length=1):∀Y H Q,G6 X.K H_ l (Oq ti l (1+k) js te) Y H Q->P5 (Pi X.K H_ ti) T js (sn 0) tYes (Nl X.K H_ (1+k) te) Y H Q:=λY H Q q=>by
 obtain⟨U,o,A,d,v,S,φ,c0,kk⟩:=q;refine⟨hid l U,_,S.Q,_,c0,λh1 Z PJ H1 s1 I hP ⟨P,a7,p0,a6,c2⟩ Da N=>?_⟩;rw[ya S.hd]at p0;have S1:=S.to s1;have lm:l∈js:=zan hk;have b2:js.idxOf l=k:=by
  have J:=(zag.mp hk);have h2:=List.getElem_idxOf (List.idxOf_lt_length_iff.mpr lm);exact(zeN nd).mp (h2.trans J.2.symm)
 refine⟨λi m ys H'=>m=Z.length-i/\i<=Z.length/\∃es Ai B,ST X.K H_ (without [Da] H') Y (setS U l (dv B)) o l Ai B v/\Grow A Ai H1 (without [Da] H')/\H' Da=some (.lst ys)/\es.length=i/\yt es/\Reps X.K H' [] es ys/\P i es B,
  ⟨_,rfl,zbG _,[],A,d,?_,?_,zm,rfl,zaA,rfl,p0⟩,?_⟩
 ·have e:without [Da] (upd H1 Da (.lst []))=H1:=by
   funext b
   by_cases g:b=Da
   ·subst g;rw[sv,N]
   rw[xh g,zj g]
  rw[e];have e2:setS U l (dv d)=U:=by
   rw[ym];refine List.ext_getElem? λi=>?_;by_cases hi:i=l
   ·subst hi;rw[zaL S.lt,S.hd]
   rw[zaC (Ne.symm hi)]
  rw[e2];exact S1
 ·have e:without [Da] (upd H1 Da (.lst []))=H1:=by
   funext b
   by_cases g:b=Da
   ·subst g;rw[sv,N]
   rw[xh g,zj g]
  rw[e];exact Grow.refl
 rintro i m ys H' ⟨rfl,e0,es,Ai,B,Si,gi,a3,ds,D,V,a8⟩;refine⟨a3,?_⟩;have a4:Da∉Ai:=λz=>by
  obtain⟨w,hw,_⟩:=Ft.dom _ _ _ Si.ft Da z;rw[sv]at hw;cases hw
 have d0:Da∉o.map Prod.snd:=S1.R.ofree N;have sW:Same (without [Da] H') H':=u5 _ _;have gJ:Grow ((o++tg l A).map Prod.snd) (Da::(o.map Prod.snd++Ai)) H1 H':=by
  rw[yo];refine⟨λb u h n=>?_,λb E h=>sW _ _ (gi.tups b E h),λb ob u h=>sW _ _ (gi.frzs b ob u h)⟩;obtain⟨J,h2⟩:=gi.keep b u h λz=>n (zaE _ z);refine⟨sW _ _ J,λz=>?_⟩;rcases zam.mp z with z|z
  ·exact zl h N z
  rcases zas.mp z with z|z
  ·exact n (zaI _ z)
  exact h2 z
 have a9:=I.keep _ _ _ _ hP gJ;by_cases hlt:i<Z.length
 ·have ed:Z[i]?=some Z[i]:=by simp[hlt]
  obtain⟨j1,j2⟩:=I.go H' _ i _ a9 ed;refine .inr ⟨j1,λzs H2=>∃es' A' d',ST X.K H_ (without [Da] H2) Y (setS U l (dv d')) o l A' d' v/\Grow A A' H1 (without [Da] H2)/\H2 Da=some (.lst zs)/\es'.length=i+1/\yt es'/\Reps X.K H2 [] es' zs/\P (i+1) es' d',λzs H2 h=>⟨_,(by omega:Z.length-(i+1)<Z.length-i),rfl,hlt,h⟩,λx H2 y=>?_⟩
  obtain⟨s3,rx⟩:=j2 x H2 y;have a0:=s3 _ _ a3;have M:Same (without [Da] H') H2:=sW.trans s3;have RB:=Yo (n:=1) Si.Q nd sv M a0 T hT;have hO:((1+js.length,Da)::(o++tg l Ai).map λp=>(ixO 1 js p.1,p.2))=((1+js.length,Da)::o.map λp=>(ixO 1 js p.1,p.2))++tg (1+k) Ai:=by
   rw[zMa,zfP]
   congr 2
   unfold tg;rw[zaZ];refine List.map_congr_left λa _=>?_;show(ixO 1 js l,a)=(1+k,a);unfold ixO;rw[zaM lm,b2]
  rw[hO,<- z0q nd hk]at RB;have SB:ST X.K H_ H2 (st0 T js Y) (ρ0 1 js (setS U l (dv B))) ((1+js.length,Da)::o.map λp=>(ixO 1 js p.1,p.2)) (1+k) Ai B v:=by
   refine⟨RB,?_,?_,(Si.to M).ft⟩
   ·unfold ρ0;rw[zbD aE,zbH,Nat.add_sub_cancel_left,zai,hk]
    show some (slot (setS U l (dv B)) l)=_;rw[ya Si.hd]
   unfold st0;rw[zbD (by rw[zbH,hT];omega),zbH,hT,Nat.add_sub_cancel_left,zai,hk]
   show some ((Y[l]?).join)=_;rw[Si.hv];rfl
  have b0:(((1+js.length,Da)::o.map λp=>(ixO 1 js p.1,p.2))++tg (1+k) Ai).map Prod.snd=Da::(o.map Prod.snd++Ai):=by
   rw[yo,zaG,zaZ];rfl
  obtain⟨oB,SC⟩:=SB.set (j:=0) (r:=dv Z[i]) (w:=x) (Same.refl H2) aD (show Rep X.K H2 _ _ _ by rw[b0];exact rx) nofun
  have d3:oB=((1+js.length,Da)::o.map λp=>(ixO 1 js p.1,p.2))\/True:=.inr trivial;unfold sn tYes;refine iteT ?_;have c3:ST X.K H_ H2 ((st0 T js Y).set 0 (some x)) (setS (ρ0 1 js (setS U l (dv B))) 0 (dv Z[i])) ((1+js.length,Da)::o.map λp=>(ixO 1 js p.1,p.2)) (1+k) Ai B v:=by
   refine⟨?_,SC.hd,SC.hv,SC.ft⟩;rw[k9 _ _ aD]
   exact SB.Q.setV 0 (by rw[b0];exact rx)
  refine⟨_,_,Ai,B,v,c3,_,a6 i Z[i] es B ed ds a8,λu e ρ' H4 A4 d4 L S4 pe re h4=>?_⟩;rw[ya S4.hd]at h4;have G:H4 Da=some (.lst ys):=(L.keep _ _ a0 a4).1;have b1:Da∉A4:=(L.keep _ _ a0 a4).2;refine⟨G,?_,es++[e],A4,d4,?_,?_,zm,by rw[zLa,ds];rfl,Yq D ⟨pe,zaA⟩,?_,h4⟩
  ·rw[V.length,ds];exact zaU hlt (zak a7 aB)
  ·-- back in the frame around
   have gA:Grow Ai A4 (without [Da] H') (without [Da] (upd H4 Da (.lst (ys++[u])))):=by
    have W:∀b w,without [Da] H' b=some w->b≠Da:=λb w h z=>by
     rw[z,sv]at h;cases h
    refine⟨λb w h n=>?_,λb E h=>?_,λb ob w h=>?_⟩
    ·have g:=W b w h;obtain⟨J,h2⟩:=L.keep b w (M b w h) n;exact⟨by rw[xh g,zj g];exact J,h2⟩
    ·have g:=W b _ h;rw[xh g,zj g];exact L.tups _ _ (M _ _ h)
    have g:=W b _ h;rw[xh g,zj g];exact L.frzs _ _ _ (M _ _ h)
   have c1:Ft X.K (without [Da] (upd H4 Da (.lst (ys++[u])))) d4 v A4:=by
    refine Ft.keep ⟨λb E h=>?_,λb ob w h=>?_⟩ _ _ _ (λa ha w h=>?_) S4.ft
    ·have g:b≠Da:=λz=>by rw[z,G]at h;cases h
     rw[xh g,zj g];exact h
    ·have g:b≠Da:=λz=>by rw[z,G]at h;cases h
     rw[xh g,zj g];exact h
    have g:a≠Da:=λz=>b1 (by rw[<- z];exact ha)
    rw[xh g,zj g];exact h
   have S5:=Si.chg gA c1 S4.ndA (λa ha=>by
    by_cases hA:a∈Ai
    ·exact .inl hA
    refine .inr ?_;cases q:without [Da] H' a with
    |none=>rfl
    | some w=>exact absurd ha (L.keep a w (M a w q) hA).2)
   have e2:setS (setS U l (dv B)) l (dv d4)=setS U l (dv d4):=by rw[ym,ym,ym,List.set_set]
   rw[e2]at S5;exact S5
  ·have W:∀b w,without [Da] H' b=some w->b≠Da:=λb w h z=>by
    rw[z,sv]at h;cases h
   refine gi.trans ⟨λb w h n=>?_,λb E h=>?_,λb ob w h=>?_⟩
   ·have g:=W b w h;obtain⟨J,h2⟩:=L.keep b w (M b w h) n;exact⟨by rw[xh g,zj g];exact J,h2⟩
   ·have g:=W b _ h;rw[xh g,zj g];exact L.tups _ _ (M _ _ h)
   have g:=W b _ h;rw[xh g,zj g];exact L.frzs _ _ _ (M _ _ h)
  have gu:Gt H4 (upd H4 Da (.lst (ys++[u]))):=⟨λb E h=>by rw[zj (λz=>by rw[z,G]at h;cases h)];exact h,λb ob w h=>by rw[zj (λz=>by rw[z,G]at h;cases h)];exact h⟩
  have r1:Reps X.K H4 [] es ys:=zr.keep (L.gt) _ _ D (zr.keep (O':=[]) (Gt.same s3) _ _ D V);exact zr.keep (O:=[]) gu _ _ (Yq D ⟨pe,zaA⟩) (r1.append (zr.one re))
 have e:i=Z.length:=by omega
 subst e;refine .inl ⟨I.stop H' _ a9,?_⟩;have S9:=Si.to sW;refine kk Da ys es _ H' Ai B (((Grow.same s1).trans gi).trans (Grow.same sW)) S9 a3 a4 d0 D V (c2 es B a8)
def Fp{k:Nat}(hi:EI M X tgt iter ti)(S:zx X.env.scope scope T F)(a:Paired (λx j=>X.N[j]?=some x) F js)(d:js.Nodup)(g:js[k]?=some l)(hT:T.length=1)(q:∀ cl C fp s H,PG (yp X (T++F) scope cl C fp s H) tgt (sn 0))(r:∀ cl C fp s H,EQ M (1+k) (yp X (T++F) scope cl C fp s H) elt te)(u:X.calm=true:=by rfl)(e:∀ x,foldedSetIterable iter X.env x=pure x:=by intro _;rfl):QL M l X (.ListComp elt [⟨tgt,iter,[],0⟩] scope pos) (Oq ti l (1+k) js te):=λH_ =>
 impE (To (tc:=tYes) (te:=Nl X.K H_.1 (1+k) te) u (hi H_) S a q (by rw[hT];exact yi aB) (λcl C fp s H=>Th) (λcl C fp s H=>r cl C fp s H H_) e) (Yw d g hT)
end
def K9{ti:TID}{l m:Nat}{js:List Nat}{te:TQ}{U:DE}{φ:List D->DE->Prop}{d0:D}(Z:List D)(h:∀ L:List D->Prop,L Z->ti (hid l U) L)(P:Nat->List D->D->Prop)(hl:Z.length<=1000)(j:slot U l=some (dv d0))(k:P 0 [] d0)(g:∀ i x es d,Z[i]?=some x->es.length=i->P i es d->te (setS (ρ0 1 js (setS U l (dv d))) 0 (dv x)) λe ρ'=>match slot ρ' m with
   |some ⟨.val,d'⟩=>P (i+1) (es++[e]) d'
   | _=>False)(a:∀ es d,P Z.length es d->φ es (setS U l (dv d))):Oq ti l m js te U φ:=h _ ⟨P,hl,by rw[j];exact k,g,a⟩
theorem Fts.length:∀{Z:List D}{E:List V}{A:List Addr},Fts K H Z E A->E.length=Z.length
 |[],_,_,h=>by rw[h.1];rfl
 |d::Z,E,A,h=>by
  obtain⟨v,r,B,C,rfl,_,_,t⟩:=h;simp[Fts.length t]
theorem Fts.foc:∀{Z:List D}{E:List V}{A:List Addr}{i:Nat}{d:D},Fts K H Z E A->Z[i]?=some d->∃w l B C,E[i]?=some w/\A=B++l++C/\Ft K H d w l /\
  ∀H' e A1',Gt H H'->(∀a∈B++C,∀u,H a=some u->H' a=some u)->Ft K H' e w A1'->Fts K H' (Z.set i e) E (B++A1'++C)
 |[],_,_,_,_,_,e=>by simp at e
 |d0::Z,E,A,0,d,h,e=>by
  obtain⟨v,r,B,C,rfl,rfl,q,t⟩:=h;cases (show d0=d from by simpa using e)
  refine⟨v,B,[],C,rfl,rfl,q,λH' e A1' g k f=>⟨v,r,A1',C,rfl,rfl,f,Fts.keep g _ _ _ (λa j=>k a j) t⟩⟩
 |d0::Z,E,A,i+1,d,h,e=>by
  obtain⟨v,r,B,C,rfl,rfl,q,t⟩:=h;obtain⟨w,l,y,x,G,rfl,f,k⟩:=Fts.foc (i:=i) t (by simpa using e)
  refine⟨w,l,B++y,x,by simpa using G,by simp,f,λH' e A1' g kk z=>⟨v,r,B,y++A1'++x,rfl,by simp,Ft.keep g _ _ _ (λa j=>kk a (by simp[j])) q,k H' e A1' g (λa j=>kk a (by simp at j ⊢;rcases j with j|j <;> simp[j])) z⟩⟩
theorem Fts.app:∀{Z es:List D}{E ys:List V}{A B:List Addr},Fts K H Z E A->Fts K H es ys B->Fts K H (Z++es) (E++ys) (A++B)
 |[],_,_,_,_,_,h,f=>by obtain⟨rfl,rfl⟩:=h;exact f
 |d::Z,es,E,ys,A,B',h,f=>by
  obtain⟨v,r,B,C,rfl,rfl,q,t⟩:=h;exact⟨v,r++ys,B,C++B',rfl,by simp,q,Fts.app t f⟩
mutual
theorem Ft.repN{P:Addr->Prop}:∀(d:D)(v:V)(A:List Addr),(∀a∈A,P a)->Ft K H d v A->RepN K H P d v
 |.lst Z,v,A,k,h=>by
  obtain⟨a,E,B,e,q,rfl,r⟩:=h;exact⟨a,E,e,q,k a zao,Fts.repNs Z E B (λb g=>k b (zal _ g)) r⟩
 |.dk ks Z,v,A,k,h=>by
  obtain⟨a,E,B,e,q,l,n,rfl,r⟩:=h;exact⟨a,E,e,q,k a zao,l,n,Fts.repNs Z E B (λb g=>k b (zal _ g)) r⟩
 |.tup Z,v,A,k,h=>by
  obtain⟨a,E,e,q,r⟩:=h;exact⟨a,E,e,q,Fts.repNs Z E A k r⟩
 |.non,_,_,_,h=>h.2
 |.bl _,_,_,_,h=>h.2
 |.int _,_,_,_,h=>h.2
 |.str _,_,_,_,h=>h.2
 |.ty _,_,_,_,h=>h.2
 |.cn _,_,_,_,h=>h.2
 |.scr ns,v,A,_,h=>h.2
 |.fo _,_,_,_,h=>h.elim
 |.fd _,_,_,_,h=>h.elim
 |.ob C ns Z,v,A,k,h=>by
  obtain⟨a,dx,E,B,e,q,l,n,rfl,r⟩:=h;exact⟨a,dx,E,e,q,k a zao,l,n,Fts.repNs Z E B (λb g=>k b (zal _ g)) r⟩
theorem Fts.repNs{P:Addr->Prop}:∀(Z:List D)(E:List V)(A:List Addr),(∀a∈A,P a)->Fts K H Z E A->zr K H P Z E
 |[],_,_,_,h=>h.1
 |d::Z,E,A,k,h=>by
  obtain⟨v,r,B,C,e,rfl,q,t⟩:=h;exact⟨v,r,e,Ft.repN d v B (λb g=>k b (zaI _ g)) q,Fts.repNs Z r C (λb g=>k b (zaE _ g)) t⟩
end
abbrev TP1:=DE->(List Nat->Prop)->Prop
section
variable{e:Expr}
def Pd:TP1:=λ_ φ=>φ []
abbrev TF:=DE->(D->Prop)->Prop
def z3a(K:W.Frag)(H_:Hp)(l:Nat)(t:TF):TE:=λY H Q=>∃U o A d v,ST K H_ H Y U o l A d v/\∃φ,t U φ/\∀u e B H',Same H H'->Ft K H' e u B->B.Nodup->(∀b∈B,H b=none)->φ e->Q u H'
def EF(G:Hp->Prop)(l:Nat)(X:Cx)(e:Expr)(t:TF):Prop:=∀H_:{H:Hp // G H},PE X e (z3a X.K H_.1 l t)
def frs3:EV->Prop
 |⟨.fre,.lst Z⟩=>yt Z
 |⟨.new,.lst Z⟩=>yt Z
 |⟨_,d⟩=>yz d
def z0s{K:W.Frag}{H H':Hp}{O:List Addr}{r:EV}{v:V}(h:RV K H H' O r v)(p:frs3 r):∃B,Ft K H' r.d v B/\B.Nodup/\∀b∈B,H b=none:=by
 have q:yz r.d->∃B,Ft K H' r.d v B/\B.Nodup/\∀b∈B,H b=none:=λu=>⟨[],RepN.ft _ _ u h.view.rep0,zcD,λb e=>by cases e⟩
 obtain⟨k,d⟩:=r;unfold frs3 at p;split at p
 ·rename_i Z g;cases g;obtain⟨a,rfl,m,n,E,l,j⟩:=h;exact⟨[a],⟨a,E,[],rfl,l,rfl,zr.fts _ _ p j⟩,by simp,λb e=>by rw[zaN.mp e];exact m⟩
 ·rename_i Z g;cases g;obtain⟨a,E,rfl,l,x,j⟩:=h;exact⟨[a],⟨a,E,[],rfl,l,rfl,zr.fts (O:=[]) _ _ p (zr.reps (λ_ _ z=>by cases z) _ _ j)⟩,by simp,λb e=>by rw[zaN.mp e];exact x.2⟩
 rename_i y d' _ _ g;cases g;exact q p
end
abbrev FTZ:=List D->(D->Prop)->Prop
def spZ(K:W.Frag)(n:Nat)(T:FTZ):Sp:=λvs H Q _=>∃Z φ,Z.length=n/\Reps K H [] Z vs/\T Z φ/\∀u d A H',Same H H'->Ft K H' d u A->A.Nodup->(∀a∈A,H a=none)->φ d->Q u H'
structure FZ(P:Program)(w:World)(K:W.Frag)(mg:Str->Option Value)(base:Heap)(k:Nat)(x:Str)(ps:List Str)(T:FTZ):Prop where
 ex:∃f fd,FnOk P w K mg base CX0 k f fd ps (spZ K ps.length T)/\wq K fd ps []/\W.keepIn K (.ref f)=true/\mg x=some (.ref f)
def Hm{Y:St}{U:DE}{l:Nat}{d:D}{v:V}{H:Hp}{g:List Addr}(ft:Ft K H d v g)(y:g.Nodup)(hd:U[l]?=some (some (dv d)))(I:Y[l]?=some (some v))(len:Y.length=U.length)(h1:∀ i q,i≠l->U[i]?=some (some q)->∃ u,Y[i]?=some (some u)/\q.k=.val/\Rep K H g q.d u):ST K (without g H) H Y U [] l g d v:=by
 refine⟨⟨u5 g H,λp j=>?_,λp j=>?_,λp j=>?_,by rw[yo];exact y,λi q e=>?_,by rw[yk,zaF];exact len⟩,hd,I,ft⟩
 ·obtain⟨a,x,rfl⟩:=zah.mp (show p∈tg l g from j);exact wn x
 ·obtain⟨a,x,rfl⟩:=zah.mp (show p∈tg l g from j);obtain⟨u,hu,_⟩:=Ft.dom _ _ _ ft a x;exact⟨u,hu⟩
 ·obtain⟨a,x,rfl⟩:=zah.mp (show p∈tg l g from j);obtain⟨u,hu,G,B⟩:=Ft.dom _ _ _ ft a x;exact⟨λE z=>G _ (zaT (hu.symm.trans z)),λob w z=>B _ _ (zaT (hu.symm.trans z))⟩
 obtain⟨hi,e⟩:=j5 e;rw[yo];obtain⟨u,e1,k,r⟩:=h1 i q hi e;exact⟨u,e1,.inl ⟨k,r⟩⟩
def cj{N:List Str}{d:D}{Z:List D}{v:V}{ws:List V}{H:Hp}{j:List Addr}(ft:Ft K H d v j)(x:j.Nodup)(r:Reps K H j Z ws):ST K (without j H) H (ZZ.start N (v::ws)) (yx N.length (d::Z)) [] 0 j d v:=by
 refine Hm ft x rfl rfl (sx (N:=N) (Z:=d::Z) (vs:=v::ws) (H:=H) ⟨v,ws,rfl,Ft.rep _ _ _ (λa _ z=>by cases z) ft,zr.sub (λa y=>by cases y) _ _ r⟩).len λi q hi e=>?_
 cases i with
 |zero=>exact absurd rfl hi
 |succ i =>
  have g:((Z.map λd=>some (dv d))++List.replicate (N.length-(d::Z).length) none)[i]?=some (some q):=e;rcases zcX i Z.length with hi|hi
  ·rw[zbF (by simpa using hi),zai]at g
   have k:Z[i]?=some Z[i]:=by simp[hi]
   rw[k]at g;cases (show some (dv Z[i])=some q from zaT g);obtain⟨u,B,l⟩:=r.get k;refine⟨u,?_,rfl,l⟩;show((ws.map some)++_)[i]?=_;rw[zbF (by rw[zLm,r.length];exact hi),zai,B]
   rfl
  rw[zbD (by simpa using hi),zbO]at g
  split at g <;> cases g
def T5{K:W.Frag}{H:Hp}{d d2:D}{v:V}{g A':List Addr}{o':List (Nat×Addr)}{H':Hp}{σ':St}{ρ':DE}{l:Nat}(ft:Ft K H d v g)(r:ST K (without g H) H' σ' ρ' o' l A' d2 v):Grow g A' H H'/\∀a∈A',a∈g\/H a=none:=by
 have q:∀b x,H b=some x->b∉g->H' b=some x:=λb x e k=>r.Q.same b x (by rw[y3 k];exact e)
 refine⟨⟨λb x e k=>⟨q b x e k,λz=>?_⟩,λb E e=>q b _ e λz=>?_,λb ob w e=>q b _ e λz=>?_⟩,λa B=>?_⟩
 ·have:=r.frA b z;rw[y3 k,e]at this;cases this
 ·obtain⟨w,j,y,_⟩:=Ft.dom _ _ _ ft b z;rw[e]at j;cases j;exact y _ rfl
 ·obtain⟨G,j,_,u⟩:=Ft.dom _ _ _ ft b z;rw[e]at j;cases j;exact u _ _ rfl
 have:=r.frA a B;by_cases hA:a∈g
 ·exact .inl hA
 rw[y3 hA]at this;exact .inr this
def Yr:D->Option (List D)
 |.lst Z=>some Z
 |.tup Z=>some Z
 |.ob _ _ Z=>some Z
 |_=>none
def Lj:D->List D->D
 |.lst _,Z=>.lst Z
 |.tup _,Z=>.tup Z
 |.ob C ns _,Z=>.ob C ns Z
 |d,_=>d
def atQ:List Nat->D->Option D
 |[],d=>some d
 |i::π,d=>match Yr d with
  | some Z=>(match Z[i]? with
   |some x=>atQ π x
   | none=>none)
  |none=>none
def putQ:List Nat->D->D->D
 |[],_,e=>e
 |i::π,d,e=>match Yr d with
  | some Z=>(match Z[i]? with
   |some x=>Lj d (Z.set i (putQ π x e))
   | none=>d)
  |none=>d
def Kids(H:Hp)(a:Addr)(E:List V):Prop:=H a=some (.lst E)\/H a=some (.tup E)\/∃C dx,∃ns:List Str,H a=some (.ins C dx (ns.zip E))/\ns.length=E.length
theorem ky{α β:Type}:∀{ns:List α}{E:List β},ns.length=E.length->(ns.zip E).map Prod.snd=E
 |[],[],_=>rfl
 |[],_::_,h=>by simp at h
 |_::_,[],h=>by simp at h
 |_::_,_::_,h=>by simp[ky (by simpa using h)]
def Kids.fn{H:Hp}{a:Addr}{E ys:List V}(h:Kids H a E)(h':Kids H a ys):E=ys:=by
 rcases h with h|h|⟨C,dx,ns,h,l⟩
 ·rcases h' with h'|h'|⟨C',dx',ns',h',l'⟩
  ·rw[h]at h';cases h';rfl
  ·rw[h]at h';cases h'
  rw[h]at h';cases h'
 ·rcases h' with h'|h'|⟨C',dx',ns',h',l'⟩
  ·rw[h]at h';cases h'
  ·rw[h]at h';cases h';rfl
  rw[h]at h';cases h'
 rcases h' with h'|h'|⟨C',dx',ns',h',l'⟩
 ·rw[h]at h';cases h'
 ·rw[h]at h';cases h'
 rw[h]at h'
 injection h' with h'
 injection h' with _ _ e
 have:=zbZ (List.map Prod.snd) e;rw[ky l,ky l']at this;exact this
def Kids.to{H H':Hp}{a:Addr}{E:List V}(s:Same H H')(h:Kids H a E):Kids H' a E:=by
 rcases h with h|h|⟨C,dx,ns,h,l⟩
 ·exact .inl (s _ _ h)
 ·exact .inr (.inl (s _ _ h))
 exact .inr (.inr ⟨C,dx,ns,s _ _ h,l⟩)
def valQ(H:Hp):List Nat->V->V->Prop
 |[],v,u=>u=v
 |i::π,v,u=>∃a E w,v=.ref a/\Kids H a E/\E[i]?=some w/\valQ H π w u
theorem valQ.fn{H:Hp}:∀{π:List Nat}{v u u':V},valQ H π v u->valQ H π v u'->u=u'
 |[],_,_,_,h,h'=>h.trans h'.symm
 |i::π,_,_,_,⟨a,E,w,e,q,g,h⟩,⟨a',xs',w',e',q',g',h'⟩=>by
  rw[e]at e';cases e';cases q.fn q';rw[g]at g';cases g';exact h.fn h'
theorem valQ.to{H H':Hp}(s:Same H H'):∀{π:List Nat}{v u:V},valQ H π v u->valQ H' π v u
 |[],_,_,h=>h
 |i::π,_,_,⟨a,E,w,e,q,g,h⟩=>⟨a,E,w,e,q.to s,g,h.to s⟩
theorem valQ.snoc{H:Hp}{i:Nat}{a:Addr}{E:List V}{w:V}:∀{π:List Nat}{v:V},valQ H π v (.ref a)->Kids H a E->E[i]?=some w->valQ H (π++[i]) v w
 |[],v,h,q,g=>⟨a,E,w,h.symm,q,g,rfl⟩
 |j::π,v,⟨b,ys,z,e,q',g',h⟩,q,g=>⟨b,ys,z,e,q',g',h.snoc q g⟩
def Ft.parts{d:D}{v:V}{A:List Addr}{Z:List D}(h:Ft K H d v A)(p:Yr d=some Z):∃a E T B,v=.ref a/\Kids H a E/\A=T++B/\Fts K H Z E B /\
  ∀H' j x,Gt H H'->(∀b∈T,∀u,H b=some u->H' b=some u)->j.length=Z.length->Fts K H' j E x->Ft K H' (Lj d j) v (T++x):=by
 cases d with
 |lst es =>
  cases p
  obtain⟨a,E,B,e,q,rfl,r⟩:=h;exact⟨a,E,[a],B,e,.inl q,rfl,r,λH' j x g k l f=>⟨a,E,x,e,k a zao _ q,rfl,f⟩⟩
 |tup es =>
  cases p
  obtain⟨a,E,e,q,r⟩:=h;exact⟨a,E,[],A,e,.inr (.inl q.2),rfl,r,λH' j x g k l f=>⟨a,E,e,Ob g.tups g.frzs q,f⟩⟩
 |ob C ns es =>
  cases p
  obtain⟨a,dx,E,B,e,q,l,n,rfl,r⟩:=h;exact⟨a,E,[a],B,e,.inr (.inr ⟨C,dx,ns,q,by rw[l,r.length]⟩),rfl,r,λH' j x g k y f=>⟨a,dx,E,x,e,k a zao _ q,by rw[y];exact l,n,rfl,f⟩⟩
 |_=>cases p
theorem Ft.focQ:∀{π:List Nat}{d:D}{v:V}{A:List Addr}{d1:D},Ft K H d v A->atQ π d=some d1->∃u z B C,valQ H π v u/\A=B++z++C/\Ft K H d1 u z /\
  ∀H' e A1',Gt H H'->(∀a∈B++C,∀u,H a=some u->H' a=some u)->Ft K H' e u A1'->Ft K H' (putQ π d e) v (B++A1'++C)
 |[],d,v,A,d1,h,e=>by
  cases (show d=d1 from zaT e)
  exact⟨v,A,[],[],rfl,by simp,h,λH' e A1' _ _ f=>by simpa [putQ] using f⟩
 |i::π,d,v,A,d1,h,e=>by
  have e:(match Yr d with|some Z=>(match Z[i]? with|some x=>atQ π x|none=>none)|none=>none)=some d1:=e
  cases ep:Yr d with
  |none=>rw[ep]at e;cases e
  |some Z =>
   rw[ep]at e;have e:(match Z[i]? with|some x=>atQ π x|none=>none)=some d1:=e
   cases ed:Z[i]? with
   |none=>rw[ed]at e;cases e
   |some d2 =>
    rw[ed]at e;obtain⟨a,E,T,Y,rfl,q,rfl,r,kk⟩:=h.parts ep;obtain⟨w,z,B,C,Q,rfl,f,k⟩:=Fts.foc r ed;obtain⟨u,A2,W,R,I,rfl,N,G⟩:=Ft.focQ (π:=π) f e;refine⟨u,A2,T++(B++W),R++C,⟨a,E,w,rfl,q,Q,I⟩,by simp,N,λH' y A1' g l O=>?_⟩
    have h2:=G H' y A1' g (λa j=>l a (by simp at j ⊢;rcases j with j|j <;> simp[j])) O
    have M:=k H' _ _ g (λa j=>l a (by simp at j ⊢;rcases j with j|j <;> simp[j])) h2
    show Ft K H' (match Yr d with|some Z=>(match Z[i]? with|some x=>Lj d (Z.set i (putQ π x y))|none=>d)|none=>d) _ _
    rw[ep];show Ft K H' (match Z[i]? with|some x=>Lj d (Z.set i (putQ π x y))|none=>d) _ _
    rw[ed];have L:=kk H' _ _ g (λb h1=>l b (by simp[h1])) (by rw[zaF]) M
    simpa using L
section
variable{o:List (Nat×Addr)}{A:List Addr}{d:D}
theorem ST.focQ(S:ST K H_ H Y U o l A d v){π:List Nat}{d1:D}(h:atQ π d=some d1):∃u A1,valQ H π v u/\Ft K H d1 u A1/\A1.Nodup/\(∀a∈A1,a∈A)/\(∀a∈A1,H a≠none) /\
  ∀H' e A1',(∀c x,H c=some x->c∉A1->H' c=some x)->Ft K H' e u A1'->A1'.Nodup->(∀a∈A1',a∈A1\/H a=none)->∃A',ST K H_ H' Y (setS U l (dv (putQ π d e))) o l A' (putQ π d e) v/\Grow A A' H H'/\∀a∈A1,a∉A1'->a∉A':=by
 obtain⟨u,A1,B,C,hv,ds,f,k⟩:=Ft.focQ S.ft h;have V:=S.ndA;rw[ds]at V;have nd1:=zaO.mp V;have q:=zaO.mp nd1.1;have R:∀a∈A,H a≠none:=λa g e=>by
  obtain⟨x,j,_⟩:=Ft.dom _ _ _ S.ft a g;rw[e]at j;cases j
 have mA:∀a,a∈B\/a∈A1\/a∈C ↔ a∈A:=λa=>by rw[ds];simp[or_assoc]
 refine⟨u,A1,hv,f,q.2.1,λa g=>(mA a).mp (by simp[g]),λa g=>R a ((mA a).mp (by simp[g])),λH' e A1' h1 f' M Q=>?_⟩
 have gt:Gt H H':=⟨λb E I=>h1 b _ I λz=>by
   obtain⟨x,j,n1,_⟩:=Ft.dom _ _ _ f b z;rw[I]at j;cases j;exact n1 _ rfl,λb ob w I=>h1 b _ I λz=>by
   obtain⟨x,j,_,n2⟩:=Ft.dom _ _ _ f b z;rw[I]at j;cases j;exact n2 _ _ rfl⟩
 have N:∀a∈B++C,a∉A1:=λa g z=>by
  rcases zas.mp g with g|g
  ·exact q.2.2 a g a z rfl
  exact nd1.2.2 a (zaE _ z) a g rfl
 have O:=k H' e A1' gt (λa g x j=>h1 a x j (N a g)) f';have r:∀a∈B++A1'++C,a∈A\/H a=none:=λa g=>by
  rw[zas,zas]at g;rcases g with(g|g)|g
  ·exact .inl ((mA a).mp (by simp[g]))
  ·exact(Q a g).imp (λz=>(mA a).mp (by simp[z])) id
  exact .inl ((mA a).mp (by simp[g]))
 have L:(B++A1'++C).Nodup:=by
  rw[zaO,zaO];refine⟨⟨q.1,M,λx j y G e=>?_⟩,nd1.2.1,λx j y G e=>?_⟩
  ·subst e;rcases Q x G with z|z
   ·exact q.2.2 x j x z rfl
   exact R x ((mA x).mp (by simp[j])) z
  subst e;rcases zas.mp j with j|j
  ·exact nd1.2.2 x (zaI _ j) x G rfl
  rcases Q x j with z|z
  ·exact nd1.2.2 x (zaE _ z) x G rfl
  exact R x ((mA x).mp (by simp[G])) z
 have gr:Grow A (B++A1'++C) H H':=⟨λc x j W=>⟨h1 c x j λz=>W ((mA c).mp (by simp[z])),λz=>(r c z).elim W λe=>by rw[j]at e;cases e⟩,gt.tups,gt.frzs⟩
 refine⟨_,S.chg gr O L r,gr,λa g na z=>?_⟩;rw[zas,zas]at z;rcases z with(z|z)|z
 ·exact N a (by simp[z]) g
 ·exact na z
 exact N a (by simp[z]) g
end
def Aw(K:W.Frag)(H_:Hp)(l:Nat)(t:TP1):TE:=λY H Q=>∃U o A d v,ST K H_ H Y U o l A d v/\∃φ,t U φ/\∀u π H',Same H H'->valQ H' π v u->φ π->Q u H'
def EPQ(G:Hp->Prop)(l:Nat)(X:Cx)(e:Expr)(t:TP1):Prop:=∀H_:{H:Hp // G H},PE X e (Aw X.K H_.1 l t)
structure CO(K:W.Frag)(C:Addr)(ns:List Str):Prop where
 cl:Cls K C
 na:∀f∈ns,jy K C f
def ixF:List Str->Str->Option Nat
 |[],_=>none
 |n::ns,f=>if n=f then some 0 else(ixF ns f).map (·+1)
theorem xq{α:Type}{f:Str}:∀{ns:List Str}{E:List α}{i:Nat},ixF ns f=some i->ns.length=E.length->(ns.zip E).lookup f=E[i]?
 |[],_,_,h,_=>by cases h
 |n::ns,[],_,_,l=>by simp at l
 |n::ns,x::E,i,h,l=>by
  unfold ixF at h;by_cases e:n=f
  ·rw[zaM e]at h;cases h;subst e;simp[List.lookup]
  rw[zaJ e]at h;obtain⟨j,d,rfl⟩:=zar.mp h;have a:(f==n)=false:=zaS.mpr (λz=>e z.symm);show(List.lookup f ((n,x)::ns.zip E))=_;rw[List.lookup,a];simpa using xq d (by simpa using l)
theorem sk{f:Str}:∀{ns:List Str}{i:Nat},ixF ns f=some i->f∈ns
 |[],_,h=>by cases h
 |n::ns,i,h=>by
  unfold ixF at h;by_cases e:n=f
  ·exact e▸zao
  rw[zaJ e]at h;obtain⟨j,a,rfl⟩:=zar.mp h;exact zal _ (sk a)
theorem Xl{f:Str}{y:V}:∀{ns:List Str}{E:List V}{i:Nat},ixF ns f=some i->ns.length=E.length->putF f y (ns.zip E)=ns.zip (E.set i y)
 |[],_,_,h,_=>by cases h
 |n::ns,[],_,_,l=>by simp at l
 |n::ns,x::E,i,h,l=>by
  unfold ixF at h;show(if n=f then(n,y)::ns.zip E else(n,x)::putF f y (ns.zip E))=_
  by_cases e:n=f
  ·rw[zaM e]at h ⊢;cases h;rfl
  rw[zaJ e]at h ⊢;obtain⟨j,a,rfl⟩:=zar.mp h;rw[Xl a (by simpa using l)]
  rfl
section
variable{x f:Str}{e ke:Expr}{es:List Expr}{tk:TD}{pos:Pos}{ns:List Str}
def yn(g:X.N[l]?=some x:=by rfl)(hv:Vis X.env.scope x:=by walk_at "o")(hd:D_ x:=by decide)(e:(x==("__classdict__" : Str))=false:=by decide):EPQ M l X (.Name x pos) Pd:=λH_=>impE (vi g hv hd e) λY H Q q=>by
 obtain⟨U,o,A,d,v,S,φ,a,k⟩:=q;exact⟨v,S.hv,k v [] H (Same.refl H) rfl a⟩
def pFld(l:Nat)(C:Addr)(ns:List Str)(f:Str)(tp:TP1):TP1:=λU φ=>tp U λπ=>∃d Z,slot U l=some (dv d)/\atQ π d=some (.ob C ns Z)/\(match ixF ns f with
 |some i=>φ (π++[i])
 | none=>False)
def bj(O:CO X.K C ns)(h1:EPQ M l X e tp)(N:attributeBase e f X.env (eval e X.env)=eval e X.env:=by rfl):EPQ M l X (.Attribute e f pos) (pFld l C ns f tp):=λH_=>impE (V7 (h1 H_) N) λY H Q q=>by
 obtain⟨U,o,A,d,v,S,φ,x,k⟩:=q;refine⟨U,o,A,d,v,S,_,x,λu π H1 D y J=>?_⟩;obtain⟨d',Z,es,V,J⟩:=J;cases s2_ es S.hd
 split at J
 ·rename_i i g;obtain⟨w,W,I,R,_⟩:=(S.to D).focQ V;have:=y.fn I;subst this;obtain⟨a,dx,E,B,rfl,q,ln,n,rfl,r⟩:=R;have j:ns.length=E.length:=by rw[ln,r.length]
  have hi:i<E.length:=by
   have:=xq (E:=ns) g rfl;rcases zcX i E.length with z|z
   ·exact z
   have e3:=xq (E:=E) g j;rw[zcM z]at e3;exfalso;have L:=sk g;rw[zcM aD]at this
   have:∀ns:List Str,f∈ns->(ns.zip ns).lookup f≠none:=λns=>by
    induction ns with
    |nil=>intro h;cases h
    |cons a r ih =>
     intro h;rw[zbP,List.lookup];cases q:(f==a) with
     |true=>exact λz=>by cases z
     |false =>
      rcases zam.mp h with h|h
      ·rw[h]at q;simp at q
      exact ih h
   exact this ns L (by assumption)
  have G:E[i]?=some E[i]:=zaf hi;exact⟨a,C,dx,_,E[i],rfl,q,O.cl,O.na f (sk g),by rw[xq g j];exact G,k _ _ H1 D (y.snoc (.inr (.inr ⟨C,dx,ns,q,j⟩)) G) J⟩
 exact J.elim
def pIxQ(l:Nat)(tp:TP1)(tk:TD):TP1:=λU φ=>tp U λπ=>tk U λa=>∃d d1 Z i j,slot U l=some (dv d)/\atQ π d=some d1/\(match d1 with
 |.lst es=>es=Z
 |.tup es=>es=Z
 | _=>False)/\a.d=.int i/\ixN Z.length i=some j/\φ (π++[j])
def Kc(W:EPQ M l X e tp)(ds:ED M X ke tk)(V:Ws ke:=by intro _ _;rfl):EPQ M l X (.Subscript e ke pos) (pIxQ l tp tk):=λH_=>impE (E8 Ga (W H_) (ds H_) V) λY H Q q=>by
 obtain⟨U,o,A,d,v,S,φ,G,k⟩:=q;refine⟨U,o,A,d,v,S,_,G,λu π H1 x N J=>⟨U,o,(S.to x).R,_,J,λw r H2 s2 O h2=>?_⟩⟩;obtain⟨d',d1,Z,i,j,es,ea,z,ei,I,h2⟩:=h2;cases s2_ es S.hd
 obtain⟨b,A1,D,L,_⟩:=(S.to (x.trans s2)).focQ ea;have:=(N.to s2).fn D;subst this;have h1:=O.view;rw[ei]at h1;cases (show w=_ from h1);have hj:=(Nv I).2.1;split at z
 ·subst z;obtain⟨a,ys,B,rfl,q,rfl,fs⟩:=L;have hl:=fs.length;obtain⟨y,g⟩:∃y,ys[j]?=some y:=⟨ys[j]' aD,by simp[show j<ys.length by omega]⟩
  refine .inl ⟨a,ys,i,y,rfl,rfl,SqL.of q,?_,k _ _ H2 (x.trans s2) (D.snoc (.inl q) g) h2⟩;unfold atI;rw[hl,I];exact g
 ·subst z;obtain⟨a,ys,rfl,q,fs⟩:=L;have hl:=fs.length;obtain⟨y,g⟩:∃y,ys[j]?=some y:=⟨ys[j]' aD,by simp[show j<ys.length by omega]⟩
  refine .inr (.inl ⟨a,ys,i,y,rfl,rfl,q.1,?_,k _ _ H2 (x.trans s2) (D.snoc (.inr (.inl q.2)) g) h2⟩);unfold atI;rw[hl,I];exact g
 exact z.elim
end
mutual
theorem Ft.uniq{K:W.Frag}{H:Hp}:∀(d:D)(v:V)(A B:List Addr),Ft K H d v A->Ft K H d v B->A=B
 |.lst Z,v,A,B,h,g=>by
  obtain⟨a,E,A',rfl,q,rfl,r⟩:=h;obtain⟨a2,k,u,e,j,rfl,r2⟩:=g;cases e;rw[q]at j;cases j;rw[Fts.uniq Z E A' u r r2]
 |.dk ks Z,v,A,B,h,g=>by
  obtain⟨a,E,A',rfl,q,l,n,rfl,r⟩:=h;obtain⟨a2,k,u,e,j,l2,y,rfl,r2⟩:=g;cases e;rw[q]at j
  injection j with j
  injection j with j
  have e2:=zbZ (List.map Prod.snd) j;rw[ky (by rw[l,r.length]),ky (by rw[l2,r2.length])]at e2
  subst e2;rw[Fts.uniq Z E A' u r r2]
 |.tup Z,v,A,B,h,g=>by
  obtain⟨a,E,rfl,q,r⟩:=h;obtain⟨a2,k,e,j,r2⟩:=g;cases e;have x:=q.2;rw[j.2]at x;cases x;exact Fts.uniq Z E A B r r2
 |.ob C ns Z,v,A,B,h,g=>by
  obtain⟨a,dx,E,A',rfl,q,l,n,rfl,r⟩:=h;obtain⟨a2,z,k,u,e,j,l2,y,rfl,r2⟩:=g;cases e;rw[q]at j
  injection j with j
  injection j with _ _ j
  have e2:=zbZ (List.map Prod.snd) j;rw[ky (by rw[l,r.length]),ky (by rw[l2,r2.length])]at e2
  subst e2;rw[Fts.uniq Z E A' u r r2]
 |.non,_,_,_,h,g=>by rw[h.1,g.1]
 |.bl _,_,_,_,h,g=>by rw[h.1,g.1]
 |.int _,_,_,_,h,g=>by rw[h.1,g.1]
 |.str _,_,_,_,h,g=>by rw[h.1,g.1]
 |.ty _,_,_,_,h,g=>by rw[h.1,g.1]
 |.cn _,_,_,_,h,g=>by rw[h.1,g.1]
 |.scr _,_,_,_,h,g=>by rw[h.1,g.1]
 |.fo _,_,_,_,h,_=>h.elim
 |.fd _,_,_,_,h,_=>h.elim
theorem Fts.uniq{K:W.Frag}{H:Hp}:∀(Z:List D)(E:List V)(A B:List Addr),Fts K H Z E A->Fts K H Z E B->A=B
 |[],_,_,_,h,g=>by rw[h.2,g.2]
 |d::Z,E,A,B,h,g=>by
  obtain⟨v,r,l,A2,rfl,rfl,q,t⟩:=h;obtain⟨u,x,k,j,e,rfl,a,t'⟩:=g;cases e;rw[Ft.uniq d v l k q a,Fts.uniq Z r A2 j t t']
end
section
variable{o:List (Nat×Addr)}{A:List Addr}{d:D}
theorem Fts.setA:∀{Z:List D}{E:List V}{A B:List Addr}{i:Nat}{e:D}{u:V},i<Z.length->Fts K H Z E A->Ft K H e u B->∃g k a,A=g++k++a/\Fts K H (Z.set i e) (E.set i u) (g++B++a)
 |[],_,_,_,_,_,_,hi,_,_=>by simp at hi
 |d::Z,E,A,B,0,e,u,_,h,f=>by
  obtain⟨v,r,j,C,rfl,rfl,q,t⟩:=h;exact⟨[],j,C,rfl,u,r,B,C,rfl,rfl,f,t⟩
 |d::Z,E,A,B,i+1,e,u,hi,h,f=>by
  obtain⟨v,r,j,C,rfl,rfl,q,t⟩:=h;obtain⟨g,k,a,rfl,t'⟩:=Fts.setA (i:=i) (by simpa using hi) t f
  exact⟨j++g,k,a,by simp,v,_,j,g++B++a,rfl,by simp,q,t'⟩
def Hr{A B q z l:List Addr}{P:Addr->Prop}(e:A=q++z++l)(u:A.Nodup)(r:B.Nodup)(dis:∀ a∈B,a∉A):(q++B++l).Nodup/\∀a∈q++B++l,a∈A\/a∈B:=by
 subst e;have k:=zaO.mp u;have v:=zaO.mp k.1;refine⟨?_,λa d=>?_⟩
 ·rw[zaO,zaO];refine⟨⟨v.1,r,λx g y j e=>?_⟩,k.2.1,λx g y j e=>?_⟩
  ·subst e;exact dis x j (by simp[g])
  subst e;rcases zas.mp g with g|g
  ·exact k.2.2 x (zaI _ g) x j rfl
  exact dis x g (by simp[j])
 rw[zas,zas]at d;rcases d with(d|d)|d
 ·exact .inl (by simp[d])
 ·exact .inr d
 exact .inl (by simp[d])
def ST.putH(S:ST K H_ H Y U o l A d v){π:List Nat}{d1 e:D}{b:Addr}{y A1':List Addr}{r:List D}{N:List V}{ho:HO}(h:atQ π d=some d1)(f:Ft K H d1 (.ref b) (b::y))(nA:(b::y).Nodup)(hu:∀ u B,valQ H π v u->Ft K H d1 u B->B.Nodup->u=.ref b/\B=b::y)(s:Same H H1)(f':Fts K H1 r N A1')(L:A1'.Nodup)(Q:∀ a∈A1',a∈y\/H a=none)(nt:∀ E,ho≠.tup E)(nz:∀ ob w,ho≠.frz ob w)(mk:∀ H',H' b=some ho->Fts K H' r N A1'->Ft K H' e (.ref b) (b::A1')):∃A',ST K H_ (upd H1 b ho) Y (setS U l (dv (putQ π d e))) o l A' (putQ π d e) v/\Grow A A' H (upd H1 b ho)/\∀a∈y,a∉A1'->a∉A':=by
 obtain⟨u,B,hv,R,n1,sub,dm,kk⟩:=S.focQ h;obtain⟨rfl,rfl⟩:=hu u B hv R n1;have O:=zaR.mp nA;have hb:H b≠none:=dm b zao;have W:b∉A1':=λz=>(Q b z).elim O.1 hb;obtain⟨x,M,h1,I⟩:=Ft.dom _ _ _ R b zao;have q:=s _ _ M;have gt:Gt H1 (upd H1 b ho):=⟨λc E j=>by rw[zj (λz=>by subst z;rw[q]at j;cases j;exact h1 _ rfl)];exact j,λc ob w j=>by rw[zj (λz=>by subst z;rw[q]at j;cases j;exact I _ _ rfl)];exact j⟩
 obtain⟨A',S',g,G⟩:=kk (upd H1 b ho) e (b::A1') (λc x j hn=>by rw[zj (λz=>hn (by rw[z];exact zao))];exact s _ _ j)
  (mk _ zm (Fts.keep gt _ _ _ (λa k x M=>by rw[zj (λz=>W (by rw[<- z];exact k))];exact M) f')) (zaR.mpr ⟨W,L⟩) (λa k=>by
   rcases zam.mp k with rfl|k
   ·exact .inl zao
   exact(Q a k).imp (λz=>zal _ z) id)
 refine⟨A',S',g,λa k ds=>G a (zal _ k) λz=>?_⟩;rcases zam.mp z with rfl|z
 ·exact O.1 k
 exact ds z
def ST.atL(S:ST K H_ H Y U o l A d v){π:List Nat}{es:List D}(h:atQ π d=some (.lst es)):∃b ys j,valQ H π v (.ref b)/\H b=some (.lst ys)/\Fts K H es ys j/\j.Nodup/\(∀a∈j,H a≠none)/\(∀a∈j,a∈A) /\
  ∀H1 g k A1',Same H H1->Fts K H1 g k A1'->A1'.Nodup->(∀a∈A1',a∈j\/H a=none)->∃A',ST K H_ (upd H1 b (.lst k)) Y (setS U l (dv (putQ π d (.lst g)))) o l A' (putQ π d (.lst g)) v/\Grow A A' H (upd H1 b (.lst k))/\∀a∈j,a∉A1'->a∉A':=by
 obtain⟨u,A1,L,R,h1,sub,W,kk⟩:=S.focQ h;obtain⟨b,ys,j,rfl,q,rfl,fs⟩:=R;refine⟨b,ys,j,L,q,fs,(zaR.mp h1).2,λa y=>W a (zal _ y),λa y=>sub a (zal _ y),λH1 g k A1' s V r O=>?_⟩;have:=S.putH (e:=.lst g) (ho:=.lst k) h ⟨b,ys,j,rfl,q,rfl,fs⟩ h1 (λu A2 x Q ds=>by
  cases L.fn x
  obtain⟨b2,M,G,e,I,rfl,B⟩:=Q;cases e;rw[q]at I;cases I;exact⟨rfl,by rw[Fts.uniq es ys j G fs B]⟩) s V r O (λ_ z=>by cases z) (λ_ _ z=>by cases z) (λH' N f=>⟨b,k,A1',rfl,N,rfl,f⟩)
 exact this
end
section
variable{x f:Str}{e oe:Expr}{es:List Expr}{te:TD}{apos cpos pos pos':Pos}{ns:List Str}
def dFld(C:Addr)(ns:List Str)(f:Str)(te:TD):TD:=λU φ=>te U λr=>match r.d with
 | .ob C' ns' Z=>C'=C/\ns'=ns/\(match ixF ns f with
  | some i=>(match Z[i]? with
   |some x=>φ (dv x)
   | none=>False)
  | none=>False)
 |_=>False
def vk(O:CO X.K C ns)(D:ED M X e te)(G:attributeBase e f X.env (eval e X.env)=eval e X.env:=by rfl):ED M X (.Attribute e f pos) (dFld C ns f te):=λH_=>impE (V7 (D H_) G) λY H Q q=>by
 obtain⟨U,o,R,φ,j,k⟩:=q;refine⟨U,o,R,_,j,λv r H1 z B J=>?_⟩;have x:=B.view;obtain⟨kd,d⟩:=r;cases d with
 |ob C' ns' Z =>
  obtain⟨rfl,rfl,J⟩:=J;obtain⟨a,dx,E,rfl,q,_,ln,L,l⟩:=x;split at J
  ·rename_i i u;split at J
   ·rename_i y I;obtain⟨w,h1,g⟩:=l.get I;exact⟨a,_,dx,_,w,rfl,q,O.cl,O.na f (sk u),by rw[xq u (by rw[ln,l.length])];exact h1,k _ (dv y) H1 z g J⟩
   exact J.elim
  exact J.elim
 |_=>exact J.elim
def frs2:EV->Prop
 |⟨.fre,.dk _ Z⟩=>yt Z
 |r=>frs3 r
def Df{K:W.Frag}{H H':Hp}{O:List Addr}{r:EV}{v:V}(h:RV K H H' O r v)(p:frs2 r):∃B,Ft K H' r.d v B/\B.Nodup/\∀b∈B,H b=none:=by
 unfold frs2 at p;split at p
 ·obtain⟨a,rfl,m,n,E,j,ln,g,e⟩:=h;exact⟨[a],⟨a,E,[],rfl,j,ln,g,rfl,zr.fts _ _ p e⟩,by simp,λb k=>by rw[zaN.mp k];exact m⟩
 exact z0s h p
def fE2(te:TD):TF:=λU φ=>te U λr=>frs2 r/\φ r.d
def wy(y:ED M X e te):EF M l X e (fE2 te):=λH_=>impE (y H_) λY H Q q=>by
 obtain⟨U,o,A,d,v,S,φ,a,k⟩:=q;refine⟨U,o,S.R,_,a,λu r H1 g j J=>?_⟩;obtain⟨B,f,x,z⟩:=Df j J.1;exact k u r.d B H1 g f x z J.2
def qFld(l:Nat)(C:Addr)(ns:List Str)(f:Str)(tp:TP1)(a:TF):TQS:=λU ds=>a U λx=>tp U λπ=>∃d Z,slot U l=some (dv d)/\atQ π d=some (.ob C ns Z)/\ns.length<=100/\(match ixF ns f with
 |some i=>ds.nx (setS U l (dv (putQ π d (.ob C ns (Z.set i x)))))
 | none=>False)
def q5(O:CO X.K C ns)(hp:EPQ M l X oe tp)(he:EF M l X e tf)(hs:swapsWith e (some (.Attribute oe f pos')) pos.line X.env=pure false:=by rfl):QS M l X (.Assign [.Attribute oe f pos'] e pos) (qFld l C ns f tp tf):=λH_=>impS (Hw (hp H_) (he H_) hs) λDz Y H h=>by
 obtain⟨U,o,A,d,v,S,ds,hZ,k1,k2,k3,k4⟩:=h;refine⟨U,o,A,d,v,S,_,hZ,λw y B H1 W fy nB k J=>⟨U,o,A,d,v,S.to W,_,J,λu π H2 s2 vp h2=>?_⟩⟩;obtain⟨d',Z,es,ea,hn,h2⟩:=h2;cases s2_ es S.hd
 split at h2
 ·rename_i i G;obtain⟨u',A1,hv,f1,n1,sub,dm,_⟩:=S.focQ ea;have j:=W.trans s2;cases (vp.fn (hv.to j));obtain⟨b,dx,E,At,rfl,q,ln,h1,rfl,fs⟩:=f1;have lx:ns.length=E.length:=by rw[ln,fs.length]
  have hi:i<Z.length:=by
   have e3:=xq (E:=Z) G ln;rcases zcX i Z.length with z|z
   ·exact z
   exfalso;have hm:=sk G;have:∀(ns:List Str)(Z:List D),ns.length=Z.length->f∈ns->(ns.zip Z).lookup f≠none:=λns=>by
    induction ns with
    |nil=>intro _ _ h;cases h
    |cons a r ih =>
     intro Z l h;cases Z with
     |nil=>simp at l
     |cons d Z =>
      rw[zbP,List.lookup];cases q:(f==a) with
      |true=>exact λz=>by cases z
      |false =>
       rcases zam.mp h with h|h
       ·rw[h]at q;simp at q
       exact ih Z (by simpa using l) h
   exact this ns Z ln hm (by rw[e3];exact zcM z)
  have V:Fts X.K H2 Z E At:=Fts.keep (Gt.same j) _ _ _ (λa _ x L=>j _ _ L) fs;have R:Ft X.K H2 y w B:=Ft.keep (Gt.same s2) _ _ _ (λa _ x L=>s2 _ _ L) fy;obtain⟨B0,A1,C0,eA,f3⟩:=Fts.setA hi V R;have I:=zaR.mp n1;obtain⟨n3,m3⟩:=Hr (P:=λ_=>True) eA I.2 nB (λa Q z=>dm a (zal _ z) (k a Q));obtain⟨A',S',g,_⟩:=S.putH (e:=.ob C ns (Z.set i y)) (ho:=.ins C dx (ns.zip (E.set i w))) ea ⟨b,dx,E,At,rfl,q,ln,h1,rfl,fs⟩ n1 (λu A2 N f2 n2=>by
   cases hv.fn N
   exact⟨rfl,Ft.uniq _ _ _ _ f2 ⟨b,dx,E,At,rfl,q,ln,h1,rfl,fs⟩⟩) j f3 n3 (λa Q=>(m3 a Q).imp id (k a)) (λ_ z=>by cases z) (λ_ _ z=>by cases z) (λH' hb f=>⟨b,dx,_,_,rfl,hb,by rw[zaF];exact ln,h1,rfl,f⟩)
  refine⟨b,C,dx,_,rfl,j _ _ q,O.cl,O.na f (sk G),by rw[zcG];omega,?_⟩
  rw[Xl G lx];exact k1 _ _ _ _ _ _ S' h2
 exact h2.elim
def Bl(l:Nat)(tp:TP1)(a:TF):TQS:=λU ds=>tp U λπ=>∃d Z,slot U l=some (dv d)/\atQ π d=some (.lst Z)/\Z.length<=100000/\a U λf=>ds.nx (setS U l (dv (putQ π d (.lst (Z++[f])))))
def On(O:EPQ M l X oe tp)(Q:EF M l X e tf)(k:∀ {ta tb:TE},PE X oe ta->PE X e tb->PS X (.Expr (.Call (.Attribute oe "append" apos) [e] [] cpos) pos) (Lr (tBM X.K "list" Ta ta (P4 tb tNil))):=by
   intro ta tb J h2;exact gk (Kn zdX PySem.F.slot_list_append PySem.F.type_list_append bp J (yr h2 uv))) :
  QS M l X (.Expr (.Call (.Attribute oe "append" apos) [e] [] cpos) pos) (Bl l tp tf):=λH_=>impS (k (O H_) (Q H_)) λDz Y H h=>by
 obtain⟨U,o,A,d,v,S,ds,R,L,k2,k3,k4⟩:=h;refine⟨U,o,A,d,v,S,_,R,λu π H1 G z J=>?_⟩;have y:=S.to G;obtain⟨d',Z,es,ea,hl,J⟩:=J;cases s2_ es S.hd
 obtain⟨b,ys,A1,D,j,fs,h1,dm,sub,kk⟩:=y.atL ea;have:=z.fn D;subst this;refine⟨.inl ⟨rfl,_,SqL.of j⟩,U,o,A,d,v,y,_,J,λw f B H2 s2 V I r h2=>?_⟩;have W:Fts X.K H2 Z ys A1:=Fts.keep (Gt.same s2) _ _ _ (λa _ x N=>s2 _ _ N) fs;obtain⟨A',S',g,_⟩:=kk H2 (Z++[f]) (ys++[w]) (A1++B) s2 (W.app ⟨w,[],B,[],rfl,by simp,V,rfl,rfl⟩) (by
   rw[zaO];refine⟨h1,I,λa q b j e=>?_⟩;subst e;exact dm a q (r a j)) (λa q=>(zas.mp q).imp id (r a))
 refine⟨b,ys,w,rfl,rfl,s2 _ _ j,?_,L _ _ _ _ _ _ S' h2⟩;rw[fs.length];exact zbA hl aB
end
section
variable{o:List (Nat×Addr)}{A:List Addr}{d:D}
def ST.setR(S:ST K H_ H Y U o l A d v){j:Nat}{e:D}{w:V}(a:j≠l)(h:Rep K H (o.map Prod.snd++A) e w):ST K H_ H (Y.set j (some w)) (setS U j (dv e)) o l A d v:=by
 refine⟨?_,?_,?_,S.ft⟩
 ·rw[k9 _ _ a];exact S.Q.setV j (by rw[yo];exact h)
 ·rw[ym,zaC a];exact S.hd
 rw[zaC a];exact S.hv
theorem u7{α:Type}{f:Str}:∀{ns:List Str}{E:List α},f∉ns->(ns.zip E).lookup f=none
 |[],_,_=>rfl
 |n::ns,[],_=>rfl
 |n::ns,x::E,h=>by
  rw[zbP,List.lookup,zaS.mpr (λz=>h (by rw[z];exact zao))]
  exact u7 λz=>h (zal _ z)
theorem Rq{f:Str}{y:V}:∀{ns:List Str}{E:List V},f∉ns->ns.length=E.length->putF f y (ns.zip E)=(ns++[f]).zip (E++[y])
 |[],[],_,_=>rfl
 |[],_::_,_,h=>by simp at h
 |_::_,[],_,h=>by simp at h
 |n::ns,x::E,h,l=>by
  show(if n=f then(n,y)::ns.zip E else(n,x)::putF f y (ns.zip E))=_
  rw[zaJ (λz=>h (by rw[z];exact zao)),Rq (λz=>h (zal _ z)) (by simpa using l)]
  rfl
end
section
variable{x y f m:Str}{e oe:Expr}{es:List Expr}{np apos pos pos':Pos}{ns:List Str}{t:TQs}{T:FTQ}{k:Nat}{ps:List Str}
structure FM(P:Program)(w:World)(K:W.Frag)(mg:Str->Option Value)(base:Heap)(k:Nat)(C:Addr)(ns:List Str)(m:Str)(ps:List Str)(T:FTQ):Prop where
 ex:∃f fd,FnOk P w K mg base CX0 k f fd ps (spQ K ps.length T)/\wq K fd ps []/\Meth K C m f
 no:m∉ns
def Te(l n:Nat)(C:Addr)(ns:List Str)(T:FTQ)(t:TQs):TQ:=λU φ=>∃Z,slot U l=some (dv (.ob C ns Z))/\t U λes a=>match slot a l with
 |some ⟨.val,d⟩=>Nat.beq (es.length+1) n=true/\T d es λr d'=>φ r (setS a l (dv d'))
 |_=>False
def Ng{H_:Hp}(L:m∉ns):∀Y H Q,Nl X.K H_ l (Te l ps.length C ns T t) Y H Q->F7 C m (spQ X.K ps.length T) [] E0 (tVar l) (G8 X.K H_ l t) Y H Q:=λY H Q q=>by
 obtain⟨U,o,A,d,v,S,φ,⟨Z,z,x⟩,kk⟩:=q;have V:some (dv d)=some (dv (.ob C ns Z)):=by rw[<- z];exact(ya S.hd).symm
 cases V
 obtain⟨a,dx,E,B,R,I,ln,ds,eA,r⟩:=S.ft;refine⟨v,S.hv,a,dx,_,R,I,u7 L,U,o,A,_,v,S,_,x,λus D j H1 W d1 g1 e k J=>?_⟩;have y:slot j l=some (dv d1):=ya e.hd;rw[y]at J;show spQ X.K ps.length T (v::(us++[])) H1 Q E0;rw[zaK];refine⟨d1,D,v,us,W,_,rfl,zcY J.1,e.ft,e.ndA,zr.sub (λa N=>zaE _ N) _ _ k,J.2,λu r d' H' A' g ft M O h1 G h2=>?_⟩;exact kk u r _ H' A' d' (g1.trans g) (e.chg g ft M O) h1 G h2
def vo{pl:Sem Bool}(O:CO X.K C ns)(F:FM X.prog X.w X.K X.mg X.base k C ns m ps T)(hr:Room k X.A)(v:QA M l X (e::es) t)(x:X.N[l]?=some y:=by rfl)(q:Vis X.env.scope y:=by walk_at "o")(hd:D_ y:=by decide)(g:(y==("__classdict__" : Str))=false:=by decide)(a:S_ X e es:=by rfl)(d:B_ X es pos:=by rfl)(r:eval (.Call (.Attribute (.Name y np) m apos) (e::es) [] pos) X.env=(do
   let j <- eval (.Name y np) X.env
   standAt apos.atName
   let (f,first) <- holding [j] (getMethod j m pl)
   callWith pos f first (backTo pos (starEach (e::es) X.env)) (backToKw pos (keywordEach [] X.env))):=by rfl) :
  EQ M l X (.Call (.Attribute (.Name y np) m apos) (e::es) [] pos) (Te l ps.length C ns T t):=λH_=>by
 obtain⟨f,fd,ok,b,u⟩:=F.ex;exact impE (Tj (vi x q hd g) O.cl u ok hr b .nil gm (v H_) a d r) (Ng F.no)
def Fw(l:Nat)(C:Addr)(f:Str)(tp:TP1)(a:TF):TQS:=λU ds=>a U λx=>tp U λπ=>∃d ns Z,slot U l=some (dv d)/\atQ π d=some (.ob C ns Z)/\ns.length<=100/\f∉ns/\ds.nx (setS U l (dv (putQ π d (.ob C (ns++[f]) (Z++[x])))))
def gh(cl:Cls X.K C)(na:jy X.K C f)(hp:EPQ M l X oe tp)(he:EF M l X e tf)(hs:swapsWith e (some (.Attribute oe f pos')) pos.line X.env=pure false:=by rfl):QS M l X (.Assign [.Attribute oe f pos'] e pos) (Fw l C f tp tf):=λH_=>impS (Hw (hp H_) (he H_) hs) λDz Y H h=>by
 obtain⟨U,o,A,d,v,S,ds,hZ,k1,k2,k3,k4⟩:=h;refine⟨U,o,A,d,v,S,_,hZ,λw y B H1 R fy nB r J=>⟨U,o,A,d,v,S.to R,_,J,λu π H2 s2 vp h2=>?_⟩⟩;obtain⟨d',ns,Z,es,ea,hn,hf,h2⟩:=h2;cases s2_ es S.hd
 obtain⟨u',A1,W,f1,V,sub,dm,_⟩:=S.focQ ea;have j:=R.trans s2;cases (vp.fn (W.to j));obtain⟨b,dx,E,At,rfl,q,ln,I,rfl,fs⟩:=f1;have lx:ns.length=E.length:=by rw[ln,fs.length]
 have Q:Fts X.K H2 Z E At:=Fts.keep (Gt.same j) _ _ _ (λa _ x h1=>j _ _ h1) fs;have O:Ft X.K H2 y w B:=Ft.keep (Gt.same s2) _ _ _ (λa _ x h1=>s2 _ _ h1) fy;have D:=zaR.mp V;have G:(ns++[f]).Nodup:=by
  rw[zaO];refine⟨I,by simp,λa k c N e=>?_⟩
  rw[zaN.mp N]at e;exact hf (e▸k)
 obtain⟨A',S',g,_⟩:=S.putH (e:=.ob C (ns++[f]) (Z++[y])) (ho:=.ins C dx ((ns++[f]).zip (E++[w]))) (A1':=At++B) ea ⟨b,dx,E,At,rfl,q,ln,I,rfl,fs⟩ V (λu A2 L f2 n2=>by
  cases W.fn L
  exact⟨rfl,Ft.uniq _ _ _ _ f2 ⟨b,dx,E,At,rfl,q,ln,I,rfl,fs⟩⟩) j (Q.app (es:=[y]) (ys:=[w]) ⟨w,[],B,[],rfl,by simp,O,rfl,rfl⟩) (by
   rw[zaO];refine⟨D.2,nB,λa k c N e=>?_⟩;subst e;exact dm a (zal _ k) (r a N)) (λa k=>(zas.mp k).imp id (r a)) (λ_ z=>by cases z) (λ_ _ z=>by cases z) (λH' hb f'=>⟨b,dx,_,_,rfl,hb,by rw[zLa,zLa,ln];rfl,G,rfl,f'⟩)
 refine⟨b,C,dx,_,rfl,j _ _ q,cl,na,by rw[zcG];omega,?_⟩
 rw[Rq hf lx];exact k1 _ _ _ _ _ _ S' h2
end
def Jl{x a m:Str}{st:Stmt}{f:Addr}{fd:FuncData}{N ps:List Str}{k:Nat}{T:FTQ}{C:Addr}{ns:List Str}(F:Fun K x a st f fd)(S:zv N ps (ze st))(b:wq K fd ps [])(O:Meth K C m f)(I:m∉ns)(B:∀ (qZ:Value) (A:Around) (outer:List Env) (s:Shared) (H:Hp) (xs:XK) (d:D) (Z:List D) (φ:D->D->Prop),Room k (A.deeper (envOfC a (ze st) s.heap.objs.size f qZ))->Z.length+1=ps.length->T d Z φ ->
   ∃ t,QSs (λ_=>True) 0 (cxOf CX0 P w K mg base N a (ze st) f qZ A outer s H xs).nox (yu st) t/\t (yx N.length (d::Z)) {nx:=λU=>∃ d',slot U 0=some (dv d')/\φ .non d',rt:=λr U=>∃ d',slot U 0=some (dv d')/\φ r d'}):FM P w K mg base (k+1) C ns m ps T:=by
 refine⟨⟨f,fd,F.ok S (λvs H Q xs h=>?_) (λqZ A outer s H vs Q xs hr h=>?_),b,O⟩,I⟩
 ·obtain⟨d,Z,v,ws,A,φ,rfl,hl,_,_,r,_⟩:=h;rw[zLc,r.length,hl]
 obtain⟨d,Z,v,ws,l,φ,rfl,hl,ft,h1,r,hT,kk⟩:=h;obtain⟨t,L,M⟩:=B qZ A outer s H xs d Z φ hr hl hT;have R:=cj (N:=N) ft h1 r;refine⟨bx K (without l H) 0 t,L ⟨without l H,zaA⟩,yx N.length (d::Z),[],l,d,v,R,_,M,λρ' σ' H' o' A' d2 j y=>?_,λ_ _ _ _ _ _ _ q=>q.elim,λ_ _ _ _ _ _ _ q=>q.elim,λu e ρ' σ' H' o' A' d2 j G re y=>?_⟩
 all_goals
  obtain⟨d',es,h'⟩:=y;cases (show some (dv d2)=some (dv d') by rw[<- es];exact(ya j.hd).symm)
  obtain⟨g,z⟩:=T5 ft j
 ·exact kk _ .non _ H' A' g j.ft j.ndA z trivial rfl h'
 exact kk _ _ _ H' A' g j.ft j.ndA z G re h'
def ST.make{H_ H H2:Hp}{Y:St}{U:DE}{o:List (Nat×Addr)}{l:Nat}{A:List Addr}{d:D}{v:V}(R:REnv K H_ H Y U o)(hl:l<U.length)(s:Same H H2)(f:Ft K H2 d v A)(B:A.Nodup)(y:∀ a∈A,H a=none) :
  ST K H_ H2 (Y.set l (some v)) (setS U l (dv d)) o l A d v:=by
 have R2:=R.to s;have dis:∀a∈A,a∉o.map Prod.snd:=λa x=>R.ofree (y a x);refine⟨⟨R2.same,λp j=>?_,λp j=>?_,λp j=>?_,?_,λi q e=>?_,?_⟩,?_,?_,f⟩
 ·rcases zas.mp j with j|j
  ·exact R.fresh p j
  obtain⟨a,x,rfl⟩:=zah.mp j;exact R.same.free (y a x)
 ·rcases zas.mp j with j|j
  ·exact R2.trk p j
  obtain⟨a,x,rfl⟩:=zah.mp j;obtain⟨u,hu,_⟩:=Ft.dom _ _ _ f a x;exact⟨u,hu⟩
 ·rcases zas.mp j with j|j
  ·exact R2.mtb p j
  obtain⟨a,x,rfl⟩:=zah.mp j;obtain⟨u,hu,I,G⟩:=Ft.dom _ _ _ f a x;refine⟨λE z=>?_,λob w z=>?_⟩
  ·rw[hu]at z;cases z;exact I _ rfl
  rw[hu]at z;cases z;exact G _ _ rfl
 ·rw[yo,zaO];exact⟨R.nda,B,λa x b r e=>dis b r (e▸x)⟩
 ·rw[W5]at e;obtain⟨hi,e⟩:=j5 e;obtain⟨w,h1,q⟩:=R.slots i q e;refine⟨w,by rw[zaC (Ne.symm hi)];exact h1,?_⟩
  rw[yo];have g:Grow (o.map Prod.snd) (o.map Prod.snd++A) H H2:=⟨λb u r n=>⟨s _ _ r,λz=>(zas.mp z).elim n λz=>by rw[y b z]at r;cases r⟩,λb E r=>s _ _ r,λb ob u r=>s _ _ r⟩
  rcases q with⟨k,q⟩|⟨k,c,e1,m,L⟩
  ·exact .inl ⟨k,RepN.grow g _ _ q⟩
  exact .inr ⟨k,c,e1,zaI _ m,L.grow (λu h=>s _ _ h) g⟩
 ·rw[W5,yk,zaF,zaF];exact R.len
 ·rw[ym,zaL hl]
 rw[zaL (by rw[R.len];exact hl)]
def at_0{α:Type}(a:α)(r:List α):atI (a::r) (0:Int)=some a:=by
 unfold atI ixN;rw[zaM aB,zaM (by rw[zLc];omega)]
 rfl
section
variable{ns ps:List Str}{m:Str}{T:FT}{te:TD}{t:TDs}{k:Nat}
structure FMD(P:Program)(w:World)(K:W.Frag)(mg:Str->Option Value)(base:Heap)(k:Nat)(C:Addr)(ns:List Str)(m:Str)(ps:List Str)(T:FT):Prop where
 ex:∃f fd,FnOk P w K mg base CX0 k f fd ps (spD K ps.length T)/\wq K fd ps []/\Meth K C m f
 no:m∉ns
def z1j(n:Nat)(C:Addr)(ns:List Str)(T:FT)(te:TD)(t:TDs):TD:=λU φ=>te U λr=>(∃Z,r.d=.ob C ns Z)/\t U λa=>Nat.beq (a.length+1) n=true/\T (r.d::a.map EV.d) φ
def z0v{P:Program}{w:World}{K:W.Frag}{mg:Str->Option Value}{base:Heap}{x a m:Str}{st:Stmt}{f:Addr}{fd:FuncData}{N ps:List Str}{k:Nat}{T:FT}{C:Addr}{ns:List Str}(F:Fun K x a st f fd)(S:zv N ps (ze st))(b:wq K fd ps [])(g:Meth K C m f)(e:m∉ns)(d:∀ (qZ:Value) (A:Around) (outer:List Env) (s:Shared) (H:Hp) (xs:XK) (Z:List D) (φ:EV->Prop),Room k (A.deeper (envOfC a (ze st) s.heap.objs.size f qZ))->Z.length=ps.length->T Z φ ->
   ∃ t,SDs (λ_=>True) (cxOf CX0 P w K mg base N a (ze st) f qZ A outer s H xs).nox (yu st) t/\t (yx N.length Z) {nx:=λ_=>φ (dv .non),rt:=λr=>xx r/\φ r}):FMD P w K mg base (k+1) C ns m ps T :=
 ⟨⟨f,fd,Gh F S d,b,g⟩,e⟩
end
section
variable{o:Expr}{te:TD}{pos apos:Pos}{ns ps:List Str}{m:Str}{T:FT}{k:Nat}
def jr{pl:Sem Bool}(O:CO X.K C ns)(F:FMD X.prog X.w X.K X.mg X.base k C ns m ps T)(hr:Room k X.A)(ho:ED M X o te)(h1:eval (.Call (.Attribute o m apos) [] [] pos) X.env=(do
   let y <- eval o X.env
   standAt apos.atName
   let (f,first) <- holding [y] (getMethod y m pl)
   callWith pos f first (backTo pos (starEach [] X.env)) (backToKw pos (keywordEach [] X.env))):=by rfl) :
  ED M X (.Call (.Attribute o m apos) [] [] pos) (z1j ps.length C ns T te aNil):=λH_=>by
 obtain⟨f,fd,ok,b,L⟩:=F.ex;refine impE (Xo (ho H_) O.cl L ok hr b .nil gm h1) λY H Q q=>?_;obtain⟨U,o,R,φ,l,k⟩:=q;refine⟨U,o,R,_,l,λv r H1 g D J=>?_⟩;obtain⟨⟨Z,V⟩,J⟩:=J;have x:=D.view;obtain⟨kd,d⟩:=r;cases V;have z:Rep X.K H1 [] (.ob C ns Z) v:=x.rep0;obtain⟨a,dx,E,rfl,q,_,ln,nd,ds⟩:=x;refine⟨a,dx,_,rfl,q,u7 F.no,?_⟩;show spD X.K ps.length T [.ref a] H1 Q E0;refine⟨[.ob C ns Z],φ,zcY J.1,⟨_,_,rfl,z,rfl⟩,J.2,λu G W B j I N=>?_⟩;exact k u G W (g.trans B) (RV.start (j.lift I λa e=>R.ofree (g.free e)) g) N
end
def Zz(ks:List Key)(k:Key):List Key:=ks.filter λx=>decide (x≠k)
def ri:List Key->List α->Key->List α
 |k'::ks,d::Z,k=>if k'=k then ri ks Z k else d::ri ks Z k
 |_,_,_=>[]
def gw{a k:Key}{ks:List Key}:Zz (a::ks) k=if a=k then Zz ks k else a::Zz ks k:=by
 unfold Zz;rw[zcE];by_cases e:a=k <;> simp[e]
theorem Uj:∀{ks:List Key}{Z:List α}{k:Key},ks.length=Z.length->(Zz ks k).length=(ri ks Z k).length
 |[],[],k,_=>rfl
 |[],_::_,k,h=>by simp at h
 |_::_,[],k,h=>by simp at h
 |k'::ks,d::Z,k,h=>by
  have:=Uj (ks:=ks) (Z:=Z) (k:=k) (by simpa using h)
  rw[gw,ri];split
  ·exact this
  simp[this]
theorem Zj:∀{ks:List Key}{Z:List α}{k:Key}{d:α},d∈ri ks Z k->d∈Z
 |[],Z,k,d,h=>by cases Z <;> cases h
 |k'::ks,[],k,d,h=>by cases h
 |k'::ks,d'::Z,k,d,h=>by
  rw[ri]at h;split at h
  ·exact zal _ (Zj h)
  rcases zam.mp h with rfl|h
  ·exact zao
  exact zal _ (Zj h)
theorem Ug:∀{ks:List Key}{E:List V}{k:Key},Sv (ks.zip E) k=(Zz ks k).zip (ri ks E k)
 |[],E,k=>by cases E <;> rfl
 |k'::ks,[],k=>by
  rw[show ri (k'::ks) ([]:List V) k=[] from rfl,List.zip_nil_right,List.zip_nil_right];rfl
 |k'::ks,x::E,k=>by
  have:=Ug (ks:=ks) (E:=E) (k:=k);rw[zbP,gw,ri];unfold Sv at this ⊢;rw[zcE];by_cases e:k'=k
  ·simp only[e,ne_eq,not_true_eq_false,decide_false,zfG];exact this
  simp only[e,ne_eq,not_false_eq_true,decide_true,zfG,zfR,zbP];rw[this]
section
variable{o:List (Nat×Addr)}{A:List Addr}{d:D}
theorem ga:∀{ks:List Key}{Z:List D}{E:List V}{k:Key},Reps K H O Z E->Reps K H O (ri ks Z k) (ri ks E k)
 |[],Z,E,k,r=>by cases Z <;> cases E <;> exact rfl
 |k'::ks,[],E,k,r=>by cases r;exact rfl
 |k'::ks,d'::Z,E,k,r=>by
  obtain⟨a,ws,rfl,d,t⟩:=r;rw[ri,ri];by_cases e:k'=k
  ·rw[zaM e,zaM e];exact ga t
  rw[zaJ e,zaJ e];exact⟨a,_,rfl,d,ga t⟩
def ST.atD(S:ST K H_ H Y U o l A d v){π:List Nat}{ks:List Key}{es:List D}(h:atQ π d=some (.dk ks es))(p:yt es):∃b ys,valQ H π v (.ref b)/\H b=some (.dK (ks.zip ys))/\ks.length=es.length/\ks.Nodup/\Reps K H [] es ys /\
  ∀H1 j k r,Same H H1->yt k->Reps K H1 [] k r->j.length=k.length->j.Nodup->∃A',ST K H_ (upd H1 b (.dK (j.zip r))) Y (setS U l (dv (putQ π d (.dk j k)))) o l A' (putQ π d (.dk j k)) v/\Grow A A' H (upd H1 b (.dK (j.zip r))):=by
 obtain⟨u,A1,I,G,N,sub,ds,kk⟩:=S.focQ h;obtain⟨b,ys,At,rfl,q,ln,M,rfl,fs⟩:=id G;obtain rfl:=Fts.pure _ _ _ p fs;refine⟨b,ys,I,q,ln,M,Fts.reps _ _ _ (λ_ z=>absurd z aE) fs,λH1 j k r s L h1 y x=>?_⟩
 obtain⟨A',V,g,_⟩:=S.putH (e:=.dk j k) (ho:=.dK (j.zip r)) h G N (λu A2 B R W=>by
  cases I.fn B
  exact⟨rfl,Ft.uniq _ _ _ _ R G⟩) s (zr.fts _ _ L h1) zcD (λa Q=>absurd Q aE) (λ_ z=>by cases z) (λ_ _ z=>by cases z) (λH' O f=>⟨b,r,[],rfl,O,y,x,rfl,f⟩)
 exact⟨A',V,g⟩
end
section
variable{x:Str}{e ke oe:Expr}{te tk:TD}{apos cpos pos pos' tpos:Pos}
def z2j(l:Nat)(tp:TP1)(tk te:TD):TQS:=λU ds=>te U λr=>yz r.d/\tp U λπ=>tk U λa=>∃d ks Z k,slot U l=some (dv d)/\atQ π d=some (.dk ks Z)/\yt Z/\Z.length<=1000/\keyD a.d=some k/\ds.nx (setS U l (dv (putQ π d (.dk (kput ks k) (dput ks Z k r.d)))))
def Uh{ks:List Key}{Z:List D}{k:Key}{d:D}(p:yt Z)(q:yz d):yt (dput ks Z k d):=by
 induction ks generalizing Z with
 |nil=>cases Z <;> exact⟨q,zaA⟩
 |cons k' ks ih =>
  cases Z with
  |nil=>exact⟨q,zaA⟩
  |cons d' Z =>
   rw[dput];split
   ·exact⟨q,p.2⟩
   exact⟨p.1,ih p.2⟩
def ck(hu:X.A.units+64<cLine)(hp:EPQ M l X oe tp)(hk:ED M X ke tk)(he:ED M X e te)(W:swapsWith e (some (.Subscript oe ke pos')) pos.line X.env=pure false:=by rfl):QS M l X (.Assign [.Subscript oe ke pos'] e pos) (z2j l tp tk te):=λH_ =>
 impS (E1 aD (hp H_) (hk H_) (he H_) W) λDz Y H h=>by
  obtain⟨U,o,A,d,v,S,ds,hZ,V,k2,k3,k4⟩:=h;refine⟨U,o,S.R,_,hZ,λw r H1 j Q J=>⟨U,o,A,d,v,S.to j,_,J.2,λu π H2 s2 L h2=>⟨U,o,(S.to (j.trans s2)).R,_,h2,λw2 r2 h1 a x B=>?_⟩⟩⟩;obtain⟨d',ks,Z,k,es,ea,G,hl,ek,B⟩:=B;cases s2_ es S.hd
  have S3:=S.to ((j.trans s2).trans a);obtain⟨b,ys,N,hb,ln,I,y,kk⟩:=S3.atD ea G;cases (L.to a).fn N;have z:w2=kV k:=je x.view ek;subst z;have D:ks.length=ys.length:=by rw[ln,y.length]
  have q:Rep X.K h1 [] r.d w:=RepN.keep (O:=[]) (O':=[]) (Gt.same (s2.trans a)) _ _ J.1 Q.view.rep0;obtain⟨A',S',g⟩:=kk h1 (kput ks k) (dput ks Z k r.d) (dput ks ys k w) (Same.refl _) (Uh G J.1) (b7 y q) (Qn ln) (X0 I);refine⟨b,_,rfl,DPut.k hb ?_,?_⟩
  ·rw[zcG,D,zfZ,y.length];exact zbA hl aB
  rw[Rp I D];exact V _ _ _ _ _ _ S' B
def z2l(l:Nat)(tp:TP1)(tk te:TD):TQS:=λU ds=>tp U λπ=>tk U λa=>∃d ks Z k n,slot U l=some (dv d)/\atQ π d=some (.dk ks Z)/\yt Z/\Z.length<=1000/\keyD a.d=some k/\wk ks Z k=some (.int n)/\te U λr=>∃y,r.d=.int y/\ds.nx (setS U l (dv (putQ π d (.dk (kput ks k) (dput ks Z k (.int (n+y)))))))
def K6(hu:X.A.units+64<cLine)(hp:EPQ M l X oe tp)(hk:ED M X ke tk)(he:ED M X e te)(ha:∀ ov iv new,augStore ke ov iv new=(do holding [new,ov,iv] (setItem ov iv new);release [new,ov,iv] [];pure .next):=by intros;rfl):QS M l X (.AugAssign (.Subscript oe ke tpos) .Add e pos) (z2l l tp tk te):=λH_ =>
 impS (E2 aD (hp H_) (hk H_) (he H_) Ge ha) λDz Y H h=>by
  obtain⟨U,o,A,d,v,S,ds,hZ,k1,k2,k3,k4⟩:=h;refine⟨U,o,A,d,v,S,_,hZ,λu π H1 N vp J=>⟨U,o,(S.to N).R,_,J,λw2 r2 H2 s2 x h2=>?_⟩⟩;obtain⟨d',ks,Z,k,n,es,ea,D,hl,ek,en,h2⟩:=h2;cases s2_ es S.hd
  have a:=N.trans s2;obtain⟨b,ys,vb,V,ln,Q,j,kk⟩:=(S.to a).atD ea D;cases (vp.to s2).fn vb;have G:w2=kV k:=je x.view ek;subst G;have h1:ks.length=ys.length:=by rw[ln,j.length]
  obtain⟨z,ez,rz⟩:=(sw (ks:=ks) (k:=k) j).1 _ en;cases (show z=_ from rz);refine⟨b,.int n,rfl,?_,U,o,(S.to a).R,_,h2,λW r3 H3 q r I=>?_⟩
  ·have:=DGet.k (k:=k) V;rw[qv,ez]at this;exact this
  obtain⟨y,ey,I⟩:=I;have L:=r.view;rw[ey]at L;cases (show W=_ from L);have B:=zr.keep (O:=[]) (O':=[]) (Gt.same q) _ _ D j;obtain⟨A',S',g⟩:=kk H3 (kput ks k) (dput ks Z k (.int (n+y))) (dput ks ys k (.int (n+y))) q (Uh D trivial) (b7 B rfl) (Qn ln) (X0 Q);refine⟨n,y,rfl,rfl,_,DPut.k (q _ _ V) ?_,?_⟩
  ·rw[zcG,h1,zfZ,j.length];exact zbA hl aB
  rw[Rp Q h1];exact k1 _ _ _ _ _ _ S' I
def Be:V->List V->Hp->VK->Prop:=λx vs H Q=>∃a kvs k,x=.ref a/\vs=[kV k,.non]/\H a=some (.dK kvs)/\(∀v,valV kvs k=some v->Q v (upd H a (.dK (Sv kvs k))))/\(valV kvs k=none->Q .non H)
def Eo:MtM X "dict.pop" Be:=by
 intro pn s Y H x vs v us Q I l q h;obtain⟨a,kvs,k,rfl,rfl,j,J,h2⟩:=h;obtain rfl:v=Value.ref a:=l;cases q with
 |cons r1 r2 =>
  cases r2 with
  |cons r2 r3 =>
   cases r3
   cases e:valV kvs k with
   |some w=>exact z3p I j r1 e (.inr ⟨_,rfl⟩) λr s' g d=>⟨w,_,g,d,J w e⟩
   |none=>exact z1h I j r1 e λs' g=>⟨.non,_,g,r2,h2 e⟩
def z2k(l j:Nat)(tp:TP1)(tk:TD):TQS:=λU ds=>tp U λπ=>∃d ks Z,slot U l=some (dv d)/\atQ π d=some (.dk ks Z)/\yt Z/\tk U λa=>∃k,keyD a.d=some k /\
 (∀y,wk ks Z k=some y->ds.nx (setS (setS U l (dv (putQ π d (.dk (Zz ks k) (ri ks Z k))))) j (dv y)))/\(wk ks Z k=none->ds.nx (setS U j (dv .non)))
theorem Q1{α:Type}:∀{ks:List Key}{Z:List α}{k:Key}{d:α},wk ks Z k=some d->d∈Z
 |[],Z,k,d,h=>by cases Z <;> cases h
 |k'::ks,[],k,d,h=>by cases h
 |k'::ks,d'::Z,k,d,h=>by
  rw[wk]at h;split at h
  ·cases h;exact zao
  exact zal _ (Q1 h)
def Ro(j:Nat){I:Pos} {jj} (hj:j≠l) (hN:X.N.Nodup) (hp:EPQ M l X oe tp) (hk:ED M X ke tk) (hi:X.N[j]?=some x:=by rfl) (hx:Loc X.env.scope x:=by first|exact zeJ rfl|exact zdJ rfl)
  (hs:swapsWith (.Call (.Attribute oe "pop" apos) [ke,.Constant .none jj I] [] cpos) (some (.Name x pos')) pos.line X.env=pure false:=by rfl) (hf:X.fn x=true\/X.env.scope.names.lookup x=some .local:=by first|exact .inl rfl|exact .inr rfl|assumption)
  (h1:∀{ta tb:TE},PE X oe ta->PE X ke tb->PE X (.Call (.Attribute oe "pop" apos) [ke,.Constant .none jj I] [] cpos) (tBM X.K "dict" Be ta (P4 tb (P4 (tC .non) tNil))):=by
   intro ta tb J h2;exact Kn PySem.F.plainAttrs_dict zfM PySem.F.type_dict_pop Eo J (yr h2 (yr Hy uv))) :
  QS M l X (.Assign [.Name x pos'] (.Call (.Attribute oe "pop" apos) [ke,.Constant .none jj I] [] cpos) pos) (z2k l j tp tk):=λH_ =>
 impS (d9 (i:=j) hN hi hx (h1 (hp H_) (hk H_)) hs hf) λDz Y H h=>by
  obtain⟨U,o,A,d,v,S,ds,hZ,W,k2,k3,k4⟩:=h;refine⟨U,o,A,d,v,S,_,hZ,λu π H1 s1 vp J=>?_⟩;obtain⟨d',ks,Z,es,ea,B,J⟩:=J;cases s2_ es S.hd
  have Q:=S.to s1;obtain⟨b,ys,vb,hb,ln,nd,r,kk⟩:=Q.atD ea B;cases vp.fn vb;refine⟨.inr (.inr (.inl ⟨rfl,.inl ⟨_,hb⟩⟩)),U,o,Q.R,_,J,λw2 r2 H2 s2 D h2=>?_⟩;obtain⟨k,ek,hy,hn⟩:=h2;have L:w2=kV k:=je D.view ek;subst L;have S2:=Q.to s2;refine⟨b,_,k,rfl,rfl,s2 _ _ hb,λw q=>?_,λq=>?_⟩
  ·rw[qv]at q;cases ey:wk ks Z k with
   |none=>rw[(sw (ks:=ks) (k:=k) r).2 ey]at q;cases q
   |some y =>
    obtain⟨w',a,V⟩:=(sw (ks:=ks) (k:=k) r).1 _ ey;rw[q]at a;cases a;have py:yz y:=yq.mp B y (Q1 ey);have G:=zr.keep (O:=[]) (O':=[]) (Gt.same s2) _ _ B r;obtain⟨A',S',g⟩:=kk H2 (Zz ks k) (ri ks Z k) (ri ks ys k) s2 (yq.mpr λz hz=>yq.mp B z (Zj hz)) (ga G) (Uj ln) (nd.filter _);rw[Ug];exact W _ _ _ _ _ _ (S'.setR hj (RepN.keep (O':=_) g.gt _ _ py V)) (hy y ey)
  rw[qv]at q;refine W _ _ _ _ _ _ (S2.setR (e:=.non) hj rfl) (hn ?_);cases ey:wk ks Z k with
  |none=>rfl
  |some y =>
   obtain⟨w',a,V⟩:=(sw (ks:=ks) (k:=k) r).1 _ ey;rw[q]at a;cases a
end
def Jy(P:Program)(w:World)(K:W.Frag)(mg:Str->Option Value)(base:Heap)(N:List Str)(a:Str)(scope:Scope)(f:Addr)(d:Value)(cl:List (Str×Addr))(A:Around)(outer:List Env)(s:Shared)(H:Hp):Cx where
 prog:=P
 w:=w
 K:=K
 mg:=mg
 base:=base
 A:=A.deeper (W.envX a scope s.heap.objs.size f d cl)
 N:=N
 s₀:=s
 H_:=H
 env:=W.envX a scope s.heap.objs.size f d cl
 outer:=outer
 stack:=W.envX a scope s.heap.objs.size f d cl::outer
 ex:=[]
 calm:=true
 fn:=λ_=>false
 pn:=[]
 xe:=λ_ _=>False
def z0b{P:Program}{w:World}{K:W.Frag}{mg:Str->Option Value}{base:Heap}{k:Nat}{f c L:Addr}{name g x y:Str}{params:Arguments}{body:Expr}{scope:Scope}{pm R:Value}{A:Around}{outer:List Env}{s:Shared}{H:Hp}{u ds:Value}{v wv:V}{Q:VK}{t:TE}(G:(x==y)=false)(Y:scope.names=[(x,.local),(y,.free)])(M:scope.kind=.function)(b0:scope.isCoroutine=false)(O:scope.isGenerator=false)(hr:Room (k+1) A)(l:Env0 P w K mg base A outer s H)(ho:s.heap.get? f=some (W.kla_obj name g params body scope [(y,c)] pm L R))(b2:s.heap.CodeRec (.ref L) g)(hc:s.heap.IsCell c (some ds))(b1:H c=none)(a0:RelV wv ds)(rv:RelV v u)(hb:bindArgs (W.kla_fn name g params body scope [(y,c)] pm (.ref L) R) ⟨[u],[]⟩=pure [(x,u)])(a8:Room k (A.deeper (W.envX g scope s.heap.objs.size f (.ref L) [(y,c)]))->PE (Jy P w K mg base [x,y] g scope f (.ref L) [(y,c)] A outer s H) body t)(ht:t [some v,some wv] H Q) :
  codeAny (model P w) A (.call (.ref f) ⟨[u],[]⟩) (CR CX0 outer P w H s Q E0) s:=by
 have a4:(y==x)=false:=by
  cases e:y==x
  ·rfl
  rw[zeH]at e;rw[e]at G;rw[zbC]at G;cases G
 have lx:scope.names.lookup x=some .local:=by rw[Y];simp[List.lookup]
 have ly:scope.names.lookup y=some .free:=by rw[Y];simp[List.lookup,a4]
 have a3:s.heap.NoLimit:=l.mod.nolimit.keeps λb o e=>(l.bs b o e).1;refine W.kla_callFunE hr.depth ho rfl b0 O rfl b2 ?_;rw[hb];refine zab (wpAny_newFunctionEnv (λz j=>?_) (λz j=>?_) (λh' a9 a7=>?_) M)
 ·rw[Y]at j;rcases zam.mp j with rfl|j
  ·exact λz=>by cases z
  rw[zaN.mp j];exact λz=>by cases z
 ·rw[zaN.mp j];exact lx
 have N:∀b o,s.heap.get? b=some o->h'.get? b=some o:=λb o e=>a7.extBut b o (zaY (zae e)) (zac _ e);refine⟨a3.keeps N,?_⟩;show codeAny _ _ (.expr body (W.envX g scope s.heap.objs.size f (.ref L) [(y,c)])) _ _;have D:∀b:Addr,b∉([]:List Addr):=λb z=>by cases z
 have B:∀z d,([(y,c)]:List (Str×Addr)).lookup z=some d->z=y/\d=c:=λz d e=>by
  unfold List.lookup at e;split at e
  ·rename_i q;rw[zeH]at q;cases e;exact⟨q,rfl⟩
  cases e
 have c0:([(y,c)]:List (Str×Addr)).lookup y=some c:=by simp[List.lookup]
 have a6:(([(x,u)]:List (Str×Value)).reverse.lookup x)=some u:=by simp[List.lookup]
 have I:Inv (Jy P w K mg base [x,y] g scope f (.ref L) [(y,c)] A outer s H) [] [some v,some wv] H {s with heap:=h',toks:=s.toks+[(x,u)].length}:=by
  refine⟨⟨l.mod,M,rfl,rfl,zaj _,λa b d J h2=>(B a d J).1.trans (B b d h2).1.symm,λz j=>?_,λz d h=>(zbE h).elim,λ_=>hr.hd,Around.frames_deeper l.frames,.inr ⟨rfl,rfl⟩,λb z=>absurd z (D b),l.bs,l.bsz,λb _ _=>D b,λb z=>absurd z (D b),l.funs,l.frf⟩,
   rfl,l.bare,Un.kept N,⟨_,a9,λi z d J h2 h3=>?_⟩,λz d h=>?_,l.hok.fresh (zaj _),λz d h=>?_,λp hp=>(by cases hp),l.hok.kept N,rfl⟩
  ·have j:scope.names.lookup z=some .cell\/scope.names.lookup z=some .free:=j;rw[Y]at j;refine⟨c,?_⟩;show([(y,c)]:List (Str×Addr)).lookup z=some c;simp only[List.lookup]at j ⊢;cases e1:z==x
   ·rw[e1]at j;cases e2:z==y
    ·rw[e2]at j;rcases j with j|j <;> cases j
    rfl
   rw[e1]at j;rcases j with j|j <;> cases j
  ·have J:[x,y][i]?=some z:=J
   match i,J,h2 with
   |0,J,h2 =>
    cases J;cases h2
    exact⟨u,rv,.inl ⟨lx,a6⟩⟩
   |1,J,h2 =>
    cases J;cases h2
    exact⟨ds,a0,.inr ⟨.inr ly,c,c0,hc.keeps N⟩⟩
   |i+2,J,h2=>simp at J
  ·have h:([(y,c)]:List (Str×Addr)).lookup z=some d:=h;rw[(B z d h).2];exact⟨_,hc.keeps N⟩
  have h:([(y,c)]:List (Str×Addr)).lookup z=some d:=h;rw[(B z d h).2];exact b1
 refine W.kla_codeExpr (wpAny_mono (a8 (hr.deeper _) [] _ _ H _ I ht) (λz s' q=>?_) λ_ _ z=>False.elim z);obtain⟨r,H',h1,rr,q⟩:=q;exact⟨r,H',h1.os,h1.bare,h1.base,h1.hok,rr,q⟩
abbrev FG:=D->(D->Prop)->Prop
def Le(P:Program)(w:World)(K:W.Frag)(mg:Str->Option Value)(base:Heap)(k:Nat)(o:Obj)(G:FG)(H_:Hp):Prop :=
 (∃fd,o.data=.func fd)/\∀(A:Around)(outer:List Env)(s:Shared)(H:Hp)(f:Addr)(u:Value)(v:V)(d:D)(φ:D->Prop),Room k A->Env0 P w K mg base A outer s H->Same H_ H->H f=some (FoO f o)->RelV v u->Rep K H [] d v->yz d->G d φ ->
  codeAny (model P w) A (.call (.ref f) ⟨[u],[]⟩) (CR CX0 outer P w H s (λa H'=>Same H H'/\∃d',yz d'/\Rep K H' [] d' a/\φ d') E0) s
section
variable{x:Str}{e:Expr}{o:Obj}{G:FG}{te:TD}{k j:Nat}{p pos:Pos}
def z1l(j:Nat)(o:Obj)(G:FG)(te:TD):TD:=λU φ=>slot U j=some ⟨.val,.fo o⟩/\te U λr=>(match r.k with|.own=>False|_=>True)/\yz r.d/\G r.d λd=>φ (dv d)
def Wl(j:Nat)(hL:∀ H,M H->Le X.prog X.w X.K X.mg X.base k o G H)(hr:Room k X.A)(he:ED M X e te)(hN:X.N[j]?=some x:=by rfl)(hv:Vis X.env.scope x:=by walk_at "o")(hd:D_ x:=by decide)(a8:(x==("__classdict__" : Str))=false:=by decide)(hs:starEach [e] X.env=(false,eval e X.env)::starEach [] X.env:=by rfl):ED M X (.Call (.Name x p) [e] [] pos) (z1l j o G te):=λH_=>by
 intro pn s Y H Q I h;obtain⟨U,ds,R,φ,⟨a4,a0⟩,kk⟩:=h;obtain⟨v,ev,a3⟩:=R.slots j _ (si a4);obtain⟨a,rfl,ha,_⟩:∃a,v=.ref a/\H a=some (FoO a o)/\a∉ds.map Prod.snd:=by
  rcases a3 with⟨_,q⟩|⟨q,_⟩
  ·exact q
  cases q
 obtain⟨⟨fd,a6⟩,hL⟩:=hL H_.1 H_.2;have l:∀{H1:Hp}{B:Shared},Inv X pn Y H1 B->H1 a=some (FoO a o)->W.FnAt a B.heap:=λ{H1 B} L q=>by
  obtain⟨q1,_⟩:=(show yy X.prog X.w H1 B.heap a (FoO a o) from L.hok a _ q);obtain⟨oc,od,dt,sl⟩:=o;cases (show dt=_ from a6);exact⟨oc,od,fd,sl,q1⟩
 refine zdB (thn (vi hN hv hd a8 pn s Y H (λv' H'=>v'=.ref a/\H'=H) I ⟨_,ev,rfl,rfl⟩) λu B g=>?_);obtain⟨v',H1,L,rv,rfl,rfl⟩:=g;obtain rfl:u=Value.ref a:=rv;refine W.callWith_F (l L ha) (thn (yr (he H_) uv hs pos pn B Y H1 (λvs H'=>∃v2 r,vs=[v2]/\Same H1 H'/\RV X.K H1 H' (ds.map Prod.snd) r v2/\((match r.k with|.own=>False|_=>True)/\yz r.d/\G r.d λd=>φ (dv d))) L ⟨U,ds,R,_,a0,λv2 r H2 s2 y h2=>⟨v2,r,rfl,s2,y,h2⟩⟩) λus s2 g=>?_) hs rfl
 obtain⟨vs,H2,I2,V,v2,r,rfl,h1,y,hk,pr,hG⟩:=g;cases V with
 |cons r1 rn =>
  cases rn
  refine⟨l I2 (h1 _ _ ha),wpAny_call (zeS (hL X.A X.stack s2 H2 a _ v2 r.d _ hr I2.env0 (R.same.trans h1) (h1 _ _ ha) r1 (RepN.sub (λz hz=>by cases hz) _ _ (y.solid (u6 hk))) pr hG) λrr s' g=>?_)⟩
  cases rr with
  |error e=>exact False.elim g
  |ok fl =>
   cases fl with
   |ret u =>
    refine I2.after ?_;obtain⟨v3,H3,os,D,un,hok,r3,O,d',pd,rd,a7⟩:=g;exact⟨v3,H3,os,D,un,hok,r3,kk v3 (dv d') H3 (h1.trans O) (RepN.pure _ _ pd rd) a7⟩
   |next=>exact False.elim g
   |brk=>exact False.elim g
   |cont=>exact False.elim g
end
def xo(c:Addr)(H:Hp):Hp:=λb=>if b=c then none else H b
def kh{c:Addr}{H:Hp}:xo c H c=none:=zaM rfl
def v6{b c:Addr}{H:Hp}(h:b≠c):xo c H b=H b:=zaJ h
def Pn{H:Hp}{h:Heap}{a:Addr}{o:Obj}(e:h.get? a=some o):yy P w H h a (FoO a o):=⟨e,⟨o,e⟩,λ_ _ q k=>k _ q⟩
def J4{k:Nat}{c D:Addr}{name g x y:Str}{params:Arguments}{body:Expr}{scope:Scope}{pm R:Value}{H_:Hp}{oc od:Obj}{i:Int}{tk t:Tok}{vs:Array Value}{te:TD}(a7:(x==y)=false)(hn:scope.names=[(x,.local),(y,.free)])(b1:scope.kind=.function)(b2:scope.isCoroutine=false)(O:scope.isGenerator=false)(hc:H_ c=some (FoO c oc))(h1:oc.data=.cell (some (.int i tk)))(c0:H_ D=some (FoO D od))(b0:od.data=.fields vs)(a8:vs[1]?=some (.str g t))(a:∀ u,bindArgs (W.kla_fn name g params body scope [(y,c)] pm (.ref D) R) ⟨[u],[]⟩=pure [(x,u)])(qY:∀ (f:Addr) (A:Around) (outer:List Env) (s:Shared) (H:Hp),Room k (A.deeper (W.envX g scope s.heap.objs.size f (.ref D) [(y,c)]))->ED (λ_=>True) (Jy P w K mg base [x,y] g scope f (.ref D) [(y,c)] A outer s H) body te) :
  Le P w K mg base (k+1) (W.kla_obj name g params body scope [(y,c)] pm D R) (λd φ=>te [some (dv d),some (dv (.int i))] λr=>(match r.k with|.own=>False|_=>True)/\yz r.d/\φ r.d) H_:=by
 refine⟨⟨_,rfl⟩,λA outer s H f u v d φ hr j sm hf rv rp pd hG=>?_⟩;have l:=sm _ _ hc;have o1:s.heap.get? c=some oc:=(show yy P w H s.heap c (FoO c oc) from j.hok _ _ l).1;have o2:s.heap.get? D=some od:=(show yy P w H s.heap D (FoO D od) from j.hok _ _ (sm _ _ c0)).1;have o3:s.heap.get? f=some _:=(show yy P w H s.heap f (FoO f _) from j.hok _ _ hf).1;have nown:∀b u,H b=some (.own u)->b≠c:=λb u z e=>by rw[e,l]at z;cases z
 have B:∀b u,H b=some (.tup u)->b≠c:=λb u z e=>by rw[e,l]at z;cases z
 have e1:Env0 P w K mg base A outer s (xo c H):=by
  refine⟨j.frames,j.mod,λb o e=>⟨(j.bs b o e).1,?_⟩,j.bsz,j.funs,λb a=>?_,λb u q=>?_,j.bare⟩
  ·by_cases a:b=c
   ·rw[a];exact kh
   rw[v6 a];exact(j.bs b o e).2
  ·by_cases hb':b=c
   ·rw[hb'];exact kh
   rw[v6 hb'];exact j.frf b a
  by_cases a:b=c
  ·rw[a,kh]at q;cases q
  rw[v6 a]at q;exact(j.hok b u q).stay (λ_ _ _ z=>z) (λb' z=>by rw[v6 (nown _ _ z)];exact z) λb' E z=>by rw[v6 (B _ _ z)];exact z
 have gt:Gt H (xo c H):=⟨λb E z=>by rw[v6 (B _ _ z)];exact z,λb o' u' z=>by rw[v6 (λe=>by rw[e,l]at z;cases z)];exact z⟩
 have R0:=sx (N:=[x,y]) (Z:=[d,.int i]) (vs:=[v,.int i]) (H:=xo c H) (K:=K) ⟨v,_,rfl,RepN.keep gt _ _ pd rp,.int i,[],rfl,rfl,rfl⟩;refine zeS (z0b (wv:=.int i) (Q:=λV H'=>Same (xo c H) H'/\∃d',yz d'/\Rep K H' [] d' V/\φ d') a7 hn b1 b2 O hr e1 o3 ⟨D,od,vs,t,rfl,o2,b0,a8⟩ ⟨oc,o1,h1⟩ kh ⟨tk,rfl⟩ rv (a u) (λa9=>qY f A outer s (xo c H) a9 ⟨xo c H,zaA⟩) ⟨_,[],R0,_,hG,λV r H' s' a0 h'=>⟨s',r.d,h'.2.1,a0.solid (u6 h'.1),h'.2.2⟩⟩) λrr s' M=>?_;cases rr with
 |error e=>exact False.elim M
 |ok fl =>
  cases fl with
  |next=>exact False.elim M
  |brk=>exact False.elim M
  |cont=>exact False.elim M
  |ret u' =>
   obtain⟨V,H',os,bare,un,hok,rr,ds,d',L,a3,a6⟩:=M;have nc:H' c=none:=un.free c oc o1 kh aE
   have a4:c∉ZZ.frs outer:=λz=>by have:=j.frf c z;rw[l]at this;cases this
   have kc:s'.heap.get? c=some oc:=un.keep c oc o1 kh a4 aE
   have G:∀b u,H' b=some u->upd H' c (FoO c oc) b=some u:=λb u z=>by rw[zj (λe=>by rw[e,nc]at z;cases z)];exact z
   have Y:∀b u,H b=some u->b≠c->xo c H b=some u:=λb u z n=>by rw[v6 n];exact z
   refine⟨V,upd H' c (FoO c oc),os,bare,⟨λb o e n a I=>?_,λb o e n a I=>?_,λb o e n I=>?_,λb o e I=>un.there b o e I,λb E z=>G _ _ (un.tups b E (Y _ _ z (B _ _ z))),λb o u z=>G _ _ (un.frzs b o u (Y _ _ z (λe=>by rw[e,l]at z;cases z))),λb ps z=>?_⟩,λb u q=>?_,rr,λb u z=>?_,d',L,RepN.keep ⟨λb E z=>G _ _ z,λb o u z=>G _ _ z⟩ _ _ L a3,a6⟩
   ·exact un.keep b o e (by rw[v6 (λz=>by rw[z,l]at n;cases n)];exact n) a I
   ·exact un.slot b o e (by rw[v6 (λz=>by rw[z,l]at n;cases n)];exact n) a I
   ·have nb:b≠c:=λz=>by rw[z,l]at n;cases n
    rw[zj nb];exact un.free b o e (by rw[v6 nb];exact n) I
   ·obtain⟨m,z'⟩:=un.tbls b ps (Y _ _ z (λe=>by rw[e,l]at z;cases z))
    exact⟨m,G _ _ z'⟩
   ·by_cases a:b=c
    ·subst a;rw[zm]at q;cases q;exact Pn kc
    rw[zj a]at q;exact(hok b u q).stay (λ_ _ _ z=>z) (λb' z=>G _ _ z) λb' E z=>G _ _ z
   by_cases a:b=c
   ·subst a;rw[zm,<- l];exact z
   exact G _ _ (ds _ _ (Y _ _ z a))
def LamC(P:Program)(w:World)(K:W.Frag)(mg:Str->Option Value)(base:Heap)(k:Nat)(o:Obj)(G:FG)(H_:Hp):Prop :=
 ∃core:Hp,Le P w K mg base k o G core/\Same core H_/\∀b kvs,core b≠some (.dK kvs)
def LamC.ok{P:Program}{w:World}{K:W.Frag}{mg:Str->Option Value}{base:Heap}{k:Nat}{o:Obj}{G:FG}{H_:Hp}(h:LamC P w K mg base k o G H_):Le P w K mg base k o G H_:=by
 obtain⟨a,⟨J,h2⟩,e,_⟩:=h;exact⟨J,λA outer s H f u v d φ hr j g=>h2 A outer s H f u v d φ hr j (e.trans g)⟩
theorem LamC.frz{P:Program}{w:World}{K:W.Frag}{mg:Str->Option Value}{base:Heap}{k:Nat}{o ob:Obj}{G:FG}{H_ H:Hp}{a:Addr}{kvs:List (Key×V)}(h:LamC P w K mg base k o G H_)(s:Same H_ H)(e:H a=some (.dK kvs)):LamC P w K mg base k o G (upd H a (.frz ob (.dK kvs))):=by
 obtain⟨d,J,l,j⟩:=h;refine⟨d,J,λb u q=>?_,j⟩;have g:=s _ _ (l _ _ q);rw[zj (λz=>by subst z;rw[e]at g;cases g;exact j _ _ q)]
 exact g
def D2{P:Program}{w:World}{K:W.Frag}{mg:Str->Option Value}{base:Heap}{k:Nat}{o e d:Obj}{G:FG}{H_:Hp}{c a:Addr}(h:Le P w K mg base k o G (upd (upd (λ_=>none) a (FoO a e)) c (FoO c d)))(j:H_ c=some (FoO c d))(g:H_ a=some (FoO a e)):LamC P w K mg base k o G H_:=by
 refine⟨_,h,λb u q=>?_,λb kvs q=>?_⟩
 ·by_cases z1:b=c
  ·subst z1;rw[zm]at q;rw[j];exact q
  rw[zj z1]at q;by_cases z2:b=a
  ·subst z2;rw[zm]at q;rw[g];exact q
  rw[zj z2]at q;cases q
 by_cases z1:b=c
 ·subst z1;rw[zm]at q;cases q
 rw[zj z1]at q;by_cases z2:b=a
 ·subst z2;rw[zm]at q;cases q
 rw[zj z2]at q;cases q
structure Lamd(X:Cx)(pn:List (Addr×Obj))(Y:St)(H:Hp)(Pt:Addr)(q:Str)(pos:Pos)(f' c':Addr)(ob:Obj)(H':Hp)(s':Shared):Prop where
 I:Inv X pn Y H' s'
 hf:H' f'=some (FoO f' ob)
 hn:H f'=none
 hc:H' c'=some (.own Pt)
 hP:H' Pt=H Pt
 tab:s'.heap.get? Pt=some (W.tabObj #[.int pos.line 0,.int pos.col 0,.ref c'])
 cod:∃oc vs t,s'.heap.get? c'=some oc/\oc.data=.fields vs/\vs[1]?=some (.str q t)
 same:Same H H'
 old:∀b u,H' b=some u->b≠f'->b≠c'->H b=some u
 hc0:H c'=none\/H c'=some (.own Pt)
def J5{X:Cx}{pn:List (Addr×Obj)}{Y:St}{H:Hp}{s:Shared}{cM Pt:Addr}{params:Arguments}{body:Expr}{lsc:Scope}{pos:Pos}{d:List (Str×Addr)}{t1 t2 t3:Tok}{Q:Value->Shared->Prop}{xs:Value->Shared->Prop}(I:Inv X pn Y H s)(v:X.env.code=.ref cM)(hC:W.CodeHd s.heap cM Pt)(a6:closureFor lsc X.env=pure d)(a4:defaultsOf params X.env=([],[]))(y:H Pt=some (.tbl #[.int pos.line t1,.int pos.col t2,.str (X.env.qual++"<lambda>") t3]))(hb:s.heap.BuiltinsAt X.mg Pt)(h:∀ f' a g H' s',Lamd X pn Y H Pt (X.env.qual++"<lambda>") pos f' a (W.kla_obj "<lambda>" (X.env.qual++"<lambda>") params body lsc d ((X.mg "__name__").getD .none) a g) H' s'->Q (.ref f') s') :
  wpAny (model X.prog X.w) X.A (eval (.Lambda params body lsc pos) X.env) Q xs s:=by
 have hg:s.heap.Ns mainGlobals X.mg:=I.mod.glob.keeps I.bk;have b2:mainGlobals≠Pt:=λe=>by
  obtain⟨o,es,ep,e1,_⟩:=I.mod.glob;have:=(I.bs _ _ e1).2;rw[e,y]at this;cases this
 obtain⟨qs,hq,hr⟩:=(show yy X.prog X.w H s.heap Pt (.tbl _) from I.hok Pt _ y);refine W.kla_eval a4 ?_;rcases hr with rfl|⟨l,c,q,u1,u2,u3,a,oc,vs,t,e1,e2,e3,e4,e5,e6⟩
 ·refine W.kla_makeFunction (ps:=#[]) a6 I.ok.glob hg v hC hq trivial rfl b2 hb λa g h' tk hx B N a0 b0=>?_;obtain⟨c2,oc,vs,t,e2,b1,a3,V⟩:=a0;cases e2;have ds:h'.get? Pt=some (W.tabObj #[.int pos.line 0,.int pos.col 0,.ref a]):=b0;have M:∀b o,s.heap.get? b=some o->b≠a/\b≠h'.objs.size:=λb o e=>by
   have hz:b<s.heap.objs.size:=zae e;exact⟨λz=>zcS _ (zaU (z▸hz) B),λz=>zcS _ (zaU (z▸hz) (zak B (zfX N)))⟩
  have D:H a=none:=I.hok.fresh B;have j:H h'.objs.size=none:=I.hok.fresh (zak B (zfX N));have a8:a≠h'.objs.size:=zaY N;have a9:a≠Pt:=λe=>by rw[e,y]at D;cases D
  have a7:h'.objs.size≠Pt:=λe=>by rw[e,y]at j;cases j
  have hh:=h h'.objs.size a g;have r:(W.kla_obj "<lambda>" (X.env.qual++"<lambda>") params body lsc d ((X.mg "__name__").getD .none) a g).isFreed=false:=rfl;generalize W.kla_obj "<lambda>" (X.env.qual++"<lambda>") params body lsc d ((X.mg "__name__").getD .none) a g=ob at hh r ⊢;have L:∀b o,b≠Pt->s.heap.get? b=some o->(h'.push ob).get? b=some o:=λb o n e=>zac _ (hx b o n e);have c0:upd (upd H a (.own Pt)) h'.objs.size (FoO h'.objs.size ob) Pt=H Pt:=by rw[zj (Ne.symm a7),zj (Ne.symm a9)]
  have O:upd (upd H a (.own Pt)) h'.objs.size (FoO h'.objs.size ob) a=some (.own Pt):=by rw[zj a8,zm]
  have h1:∀b,b≠a->b≠h'.objs.size->upd (upd H a (.own Pt)) h'.objs.size (FoO h'.objs.size ob) b=H b:=λb R n2=>by rw[zj n2,zj R]
  have x:Same H (upd (upd H a (.own Pt)) h'.objs.size (FoO h'.objs.size ob)):=λb u e=>by
   rw[h1 b (λz=>by rw[z,D]at e;cases e) (λz=>by rw[z,j]at e;cases e)];exact e
  have k:(h'.push ob).get? Pt=some (W.tabObj #[.int pos.line 0,.int pos.col 0,.ref a]):=zac _ ds;have cN:(h'.push ob).get? a=some oc:=zac _ b1;refine hh (upd (upd H a (.own Pt)) h'.objs.size (FoO h'.objs.size ob)) _ ⟨I.un (h':=h'.push ob) (t':=tk) ⟨λb o e n _ _=>L b o (λz=>by rw[z,y]at n;cases n) e,λb o e n _ _=>⟨o.slots,L b o (λz=>by rw[z,y]at n;cases n) e⟩,λb o e n _=>by rw[h1 b (M b o e).1 (M b o e).2];exact n,λb o e _=>?_,λb E e=>x _ _ e,λb o u e=>x _ _ e,λb ps e=>⟨#[],by rw[x _ _ e];simp⟩⟩ λb u e=>?_,zm,j,O,c0,k,⟨oc,vs,t,cN,a3,V⟩,x,λb u e R n2=>by rw[h1 b n2 R]at e;exact e,.inl D⟩
  ·by_cases hb:b=Pt
   ·exact⟨_,by rw[hb];exact k⟩
   exact⟨o,L b o hb e⟩
  by_cases J:b=h'.objs.size
  ·subst J;rw[zm]at e;cases e;exact Pn (zad _ r)
  by_cases h2:b=a
  ·subst h2;rw[O]at e;cases e;exact⟨oc,cN⟩
  rw[h1 b h2 J]at e;by_cases h3:b=Pt
  ·subst h3;rw[y]at e;cases e;exact⟨_,k,.inr ⟨_,_,_,_,_,_,a,oc,vs,t,rfl,rfl,O,cN,a3,V⟩⟩
  refine(I.hok b u e).stay (λb' u' G e'=>L b' u' ?_ e') (λb' z=>x _ _ z) λb' E z=>x _ _ z;rcases G with rfl|G
  ·exact h3
  intro z;rw[z,y]at G;cases G
 injection e1 with e1
 injection e1 with e7 e1
 injection e1 with e8 e1
 injection e1 with e9 _
 cases e7;cases e8;cases e9
 have hf:codeAmong pos (#[Value.int pos.line 0,.int pos.col 0,.ref a]:Array Value).toList=some (.ref a):=by
  show(if (_&&_)=true then _ else _)=_
  rw[zaM aE]
 subst e2;refine W.kla_makeFunctionHit a6 I.ok.glob hg v hC hq trivial hf hb λg h' tk hk hsz=>?_;have hh:=h h'.objs.size a g;show Q _ {s with heap:=h'.push (W.kla_obj "<lambda>" (X.env.qual++"<lambda>") params body lsc d ((X.mg "__name__").getD .none) a g),toks:=tk};have r:(W.kla_obj "<lambda>" (X.env.qual++"<lambda>") params body lsc d ((X.mg "__name__").getD .none) a g).isFreed=false:=rfl;generalize W.kla_obj "<lambda>" (X.env.qual++"<lambda>") params body lsc d ((X.mg "__name__").getD .none) a g=ob at hh r ⊢;have j:H h'.objs.size=none:=I.hok.fresh hsz;have x:Same H (upd H h'.objs.size (FoO h'.objs.size ob)):=λb u e=>by rw[zj (λz=>by rw[z,j]at e;cases e)];exact e
 have L:∀b o,s.heap.get? b=some o->(h'.push ob).get? b=some o:=λb o e=>zac _ (hk b o e);refine hh (upd H h'.objs.size (FoO h'.objs.size ob)) _ ⟨I.laid (t':=tk) L hsz (Pn (zad _ r)),zm,j,x _ _ e3,by rw[x _ _ y,y],L _ _ hq,⟨oc,vs,t,L _ _ e4,e5,e6⟩,x,λb u e R n2=>by rw[zj R]at e;exact e,.inr e3⟩
mutual
theorem Ft.nown:∀(d:D)(v:V)(A:List Addr),Ft K H d v A->∀a∈A,∃u,H a=some u/\∀p,u≠.own p
 |.lst Z,v,A,h=>by
  obtain⟨a,E,B,e,q,rfl,r⟩:=h;intro b j;rcases zam.mp j with rfl|j
  ·exact⟨_,q,λ_ z=>by cases z⟩
  exact Fts.nown Z E B r b j
 |.dk ks Z,v,A,h=>by
  obtain⟨a,E,B,e,q,l,n,rfl,r⟩:=h;intro b j;rcases zam.mp j with rfl|j
  ·exact⟨_,q,λ_ z=>by cases z⟩
  exact Fts.nown Z E B r b j
 |.tup Z,v,A,h=>by
  obtain⟨a,E,e,q,r⟩:=h;exact Fts.nown Z E A r
 |.non,_,_,h=>by obtain⟨rfl,_⟩:=h;intro a g;cases g
 |.bl _,_,_,h=>by obtain⟨rfl,_⟩:=h;intro a g;cases g
 |.int _,_,_,h=>by obtain⟨rfl,_⟩:=h;intro a g;cases g
 |.str _,_,_,h=>by obtain⟨rfl,_⟩:=h;intro a g;cases g
 |.ty _,_,_,h=>by obtain⟨rfl,_⟩:=h;intro a g;cases g
 |.cn _,_,_,h=>by obtain⟨rfl,_⟩:=h;intro a g;cases g
 |.scr _,_,_,h=>by obtain⟨rfl,_⟩:=h;intro a g;cases g
 |.fo _,_,_,h=>h.elim
 |.fd _,_,_,h=>h.elim
 |.ob C ns Z,v,A,h=>by
  obtain⟨a,dx,E,B,e,q,l,n,rfl,r⟩:=h;intro b j;rcases zam.mp j with rfl|j
  ·exact⟨_,q,λ_ z=>by cases z⟩
  exact Fts.nown Z E B r b j
theorem Fts.nown:∀(Z:List D)(E:List V)(A:List Addr),Fts K H Z E A->∀a∈A,∃u,H a=some u/\∀p,u≠.own p
 |[],_,_,h=>by obtain⟨_,rfl⟩:=h;intro a j;cases j
 |d::Z,E,A,h=>by
  obtain⟨v,r,B,C,e,rfl,q,t⟩:=h;intro b g;rcases zas.mp g with g|g
  ·exact Ft.nown d v B q b g
  exact Fts.nown Z r C t b g
end
def spC(P:Program)(w:World)(K:W.Frag)(mg:Str->Option Value)(base:Heap)(e:Nat)(TC:FG->D->(D->Prop)->Prop):Sp:=λvs H Q _=>∃d v wv A o G φ,vs=[v,wv]/\Ft K H d v A/\A.Nodup/\Rep K H A (.fo o) wv/\LamC P w K mg base e o G (without A H)/\TC G d φ /\
 ∀d' H' A',Grow A A' H H'->Ft K H' d' v A'->A'.Nodup->(∀a∈A',a∈A\/H a=none)->φ d'->Q .non H'
structure FMC(P:Program)(w:World)(K:W.Frag)(mg:Str->Option Value)(base:Heap)(k kL:Nat)(C:Addr)(ns:List Str)(m:Str)(ps:List Str)(TC:FG->D->(D->Prop)->Prop):Prop where
 ex:∃f fd,FnOk P w K mg base CX0 k f fd ps (spC P w K mg base kL TC)/\wq K fd ps []/\Meth K C m f
 no:m∉ns
 len:ps.length=2
def gLam(te:TD)(i:Int):FG:=λd φ=>te [some (dv d),some (dv (.int i))] λr=>(match r.k with|.own=>False|_=>True)/\yz r.d/\φ r.d
def qLam(l j:Nat)(C:Addr)(ns:List Str)(te:TD)(TC:FG->D->(D->Prop)->Prop):TQ:=λU φ=>∃i Z,slot U j=some (dv (.int i))/\slot U l=some (dv (.ob C ns Z))/\TC (gLam te i) (.ob C ns Z) λd'=>φ .non (setS U l (dv d'))
section
variable{y m x2 y2:Str}{k kb j:Nat}{cM Pt c:Addr}{ns ps:List Str}{TC:FG->D->(D->Prop)->Prop}{te:TD}{params:Arguments}{body:Expr}{lsc:Scope}{np apos lpos pos:Pos}
def Mi{pl:Sem Bool}(O:CO X.K C ns)(F:FMC X.prog X.w X.K X.mg X.base k (kb+1) C ns m ps TC)(hr:Room k X.A)(j:Nat)(h5:∀ H,M H->∃ t1 t2 t3,H Pt=some (.tbl #[.int lpos.line t1,.int lpos.col t2,.str (X.env.qual++"<lambda>") t3]))(c1:X.env.code=.ref cM)(hC:∀ h,X.K.In h->W.CodeHd h cM Pt)(hB:∀ h,X.K.In h->h.BuiltinsAt X.mg Pt)(i5:closureFor lsc X.env=pure [(y2,c)])(a8:X.env.cells.lookup y2=some c)(f3:defaultsOf params X.env=([],[]))(hj:X.N[j]?=some y2)(f0:X.env.kindOf y2=some .cell)(i2:X.fn y2=true)(h6:(x2==y2)=false)(hn:lsc.names=[(x2,.local),(y2,.free)])(i0:lsc.kind=.function)(i4:lsc.isCoroutine=false)(f2:lsc.isGenerator=false)(hb:∀ pm c' c2 u,bindArgs (W.kla_fn "<lambda>" (X.env.qual++"<lambda>") params body lsc [(y2,c)] pm (.ref c') c2) ⟨[u],[]⟩=pure [(x2,u)])(qY:∀ (c' f:Addr) (A:Around) (outer:List Env) (s:Shared) (H:Hp),Room kb (A.deeper (W.envX (X.env.qual++"<lambda>") lsc s.heap.objs.size f (.ref c') [(y2,c)]))->ED (λ_=>True) (Jy X.prog X.w X.K X.mg X.base [x2,y2] (X.env.qual++"<lambda>") lsc f (.ref c') [(y2,c)] A outer s H) body te)(hN:X.N[l]?=some y:=by rfl)(hv:Vis X.env.scope y:=by walk_at "o")(hd:D_ y:=by decide)(i6:(y==("__classdict__" : Str))=false:=by decide)(e7:starEach [.Lambda params body lsc lpos] X.env=(false,eval (.Lambda params body lsc lpos) X.env)::starEach [] X.env:=by rfl)(ht:eval (.Call (.Attribute (.Name y np) m apos) [.Lambda params body lsc lpos] [] pos) X.env=(do
   let ov <- eval (.Name y np) X.env
   standAt apos.atName
   let (f,first) <- holding [ov] (getMethod ov m pl)
   callWith pos f first (backTo pos (starEach [.Lambda params body lsc lpos] X.env)) (backToKw pos (keywordEach [] X.env))):=by rfl) :
  EQ M l X (.Call (.Attribute (.Name y np) m apos) [.Lambda params body lsc lpos] [] pos) (qLam l j C ns te TC):=λH_=>by
 obtain⟨f,fd,ok,b,hm⟩:=F.ex;intro pn s Y H Q I q;obtain⟨U,o,A,d,v,S,φ,⟨i,Z,hi,i3,hT⟩,kk⟩:=q;cases s2_ i3 S.hd
 obtain⟨a,dx,E,B,rfl,f1,hl,j4,eA,k0⟩:=id S.ft;obtain⟨w0,ew,hw⟩:=S.R.slots j _ (si hi);have j3:w0=.int i:=by
  rcases hw with⟨_,q⟩|⟨q,_⟩
  ·exact q
  cases q
 subst j3;obtain⟨t1,t2,t3,f5⟩:=h5 H_.1 H_.2;have hP:H Pt=some (.tbl #[.int lpos.line t1,.int lpos.col t2,.str (X.env.qual++"<lambda>") t3]):=S.Q.same _ _ f5;have PA:Pt∉A:=λz=>by have:=S.frA _ z;rw[f5]at this;cases this
 refine W.methodCall_KW (pl:=pl) (thn (vi hN hv hd i6 pn s Y H (λv' H'=>v'=.ref a/\H'=H) I ⟨_,S.hv,rfl,rfl⟩) λu s1 hq=>?_) ht;obtain⟨v',H1,I1,rx,rfl,e3⟩:=hq;subst e3;obtain rfl:u=Value.ref a:=rx;refine gy I1 f1 O.cl hm (u7 F.no) ?_;refine W.callWith_K (first:=[.ref a]) (h₀:=X.base) I.ok.mod.kin hm.kp ?_ e7 rfl
 rw[e7];show wpAny _ _ (spliced ((false,eval (.Lambda params body lsc lpos) X.env)::backTo pos (starEach [] X.env))) _ _ s1;refine Calls.spliced_cons (J5 I1 c1 (hC _ I1.kIn) i5 f3 hP (hB _ I1.kIn) λf' c' c2 H2 s2 L=>Calls.spliced_nil ⟨L.I.kIn,?_⟩);obtain⟨oc,vs,tq,h7,e9,e6⟩:=L.cod;have cell:∃ocl tk,s2.heap.get? c=some ocl/\ocl.data=.cell (some (.int i tk)):=by
  obtain⟨mm,_,h8⟩:=L.I.loc;obtain⟨uu,ru,lk⟩:=h8 j y2 _ hj ew (.inr (.inl f0));obtain⟨tk,rfl⟩:=ru;rcases lk with⟨z,_⟩|⟨_,c0,e0,ob,h0,J⟩
  ·rw[f0]at z;cases z
  rw[a8]at e0;cases e0;exact⟨ob,tk,h0,J⟩
 obtain⟨ocl,tk,b0,f4⟩:=cell;have nc:H2 c=none:=L.I.freeC y2 c a8;have G:H2 Pt=some (.tbl #[.int lpos.line t1,.int lpos.col t2,.str (X.env.qual++"<lambda>") t3]):=L.hP.trans hP;have n1:c≠Pt:=λz=>by rw[z,G]at nc;cases nc
 have n2:c≠c':=λz=>by rw[z,L.hc]at nc;cases nc
 have n3:Pt≠c':=λz=>by rw[z,L.hc]at G;cases G
 have cA:c∉A:=λz=>by
  obtain⟨u,hu,_⟩:=Ft.nown _ _ _ S.ft c z;rw[L.same _ _ hu]at nc;cases nc
 have c3:c'∉A:=λz=>by
  obtain⟨u,hu,nu⟩:=Ft.nown _ _ _ S.ft c' z;have:=L.same _ _ hu;rw[L.hc]at this;cases this;exact nu _ rfl
 have fA:f'∉A:=λz=>by
  obtain⟨u,hu,nu⟩:=Ft.nown _ _ _ S.ft f' z;rw[L.hn]at hu;cases hu
 generalize hHp:upd (upd (upd H2 Pt (FoO Pt (W.tabObj #[.int lpos.line 0,.int lpos.col 0,.ref c']))) c' (FoO c' oc)) c (FoO c ocl)=Hp;have p1:Hp c=some (FoO c ocl):=by rw[<- hHp,zm]
 have p2:Hp c'=some (FoO c' oc):=by rw[<- hHp,zj (Ne.symm n2),zm]
 have p3:Hp Pt=some (FoO Pt (W.tabObj #[.int lpos.line 0,.int lpos.col 0,.ref c'])):=by rw[<- hHp,zj (Ne.symm n1),zj n3,zm]
 have p4:∀b,b≠c->b≠c'->b≠Pt->Hp b=H2 b:=λb a1 a2 a3=>by rw[<- hHp,zj a1,zj a2,zj a3]
 have up:∀b u,H2 b=some u->b≠c'->b≠Pt->Hp b=some u:=λb u e a2 a3=>by rw[p4 b (λz=>by rw[z,nc]at e;cases e) a2 a3];exact e
 have dn:∀b,Hp b=none->H2 b=none/\b≠c/\b≠c'/\b≠Pt:=λb e=>by
  have a1:b≠c:=λz=>by rw[z,p1]at e;cases e
  have a2:b≠c':=λz=>by rw[z,p2]at e;cases e
  have a3:b≠Pt:=λz=>by rw[z,p3]at e;cases e
  exact⟨by rw[<- p4 b a1 a2 a3];exact e,a1,a2,a3⟩
 have nn:∀b,H2 b=none->b≠c->Hp b=none:=λb e a1=>by rw[p4 b a1 (λz=>by rw[z,L.hc]at e;cases e) (λz=>by rw[z,G]at e;cases e)];exact e
 have ds:∀b E,H2 b=some (.tup E)->Hp b=some (.tup E):=λb E e=>up b _ e (λz=>by rw[z,L.hc]at e;cases e) (λz=>by rw[z,G]at e;cases e)
 have a6:∀b ob u,H2 b=some (.frz ob u)->Hp b=some (.frz ob u):=λb ob u e=>up b _ e (λz=>by rw[z,L.hc]at e;cases e) (λz=>by rw[z,G]at e;cases e)
 have b1:X.s₀.heap.objs.size<=c:=I.ok.cab y2 c i2 a8;have f8:c∉ZZ.frs X.stack:=λz=>by
  rcases zam.mp (I.stkSub c z) with e|e
  ·exact I.cne y2 c a8 e
  obtain⟨_,ob,h0,_⟩:=I.ok.funs.mem e;exact absurd (zaU (zae h0) b1) (zcS _)
 have h1:=L.I.env0;have Ep:Env0 X.prog X.w X.K X.mg X.base X.A X.stack s2 Hp:=by
  refine⟨h1.frames,h1.mod,λb ob e=>⟨(h1.bs b ob e).1,nn b (h1.bs b ob e).2 ?_⟩,h1.bsz,h1.funs,λb hb=>nn b (h1.frf b hb) (λz=>f8 (z▸hb)),λb u e=>?_,h1.bare⟩
  ·rintro rfl;exact absurd (zaU (zaU (zae e) I.ok.bsz) b1) (zcS _)
  by_cases a1:b=c
  ·subst a1;rw[p1]at e;cases e;exact Pn b0
  by_cases a2:b=c'
  ·subst a2;rw[p2]at e;cases e;exact Pn h7
  by_cases a3:b=Pt
  ·subst a3;rw[p3]at e;cases e;exact Pn L.tab
  rw[p4 b a1 a2 a3]at e;refine(h1.hok b u e).stay (λ_ _ _ z=>z) (λb' z=>up _ _ z (λD=>?_) (λD=>?_)) λb' E z=>ds _ _ z
  ·rw[D,L.hc]at z;cases z;exact a3 rfl
  rw[D,G]at z;cases z
 have b2:∀b∈A,∀u,H1 b=some u->Hp b=some u:=λb hb u e=>up b u (L.same _ _ e) (λz=>c3 (z▸hb)) (λz=>PA (z▸hb));have i7:Ft X.K Hp (.ob C ns Z) (.ref a) A:=Ft.keep ⟨λb E e=>ds _ _ (L.same _ _ e),λb ob u e=>a6 _ _ _ (L.same _ _ e)⟩ _ _ _ b2 S.ft;have i1:Hp f'=some (FoO f' _):=up _ _ L.hf (λz=>by have:=L.hf;rw[z,L.hc]at this;cases this) (λz=>by have:=L.hf;rw[z,G]at this;cases this)
 have d4:=J4 (P:=X.prog) (w:=X.w) (K:=X.K) (mg:=X.mg) (base:=X.base) (k:=kb) (name:="<lambda>") (te:=te) (H_:=upd (upd (λ_=>none) c' (FoO c' oc)) c (FoO c ocl)) h6 hn i0 i4 f2 zm f4 (by rw[zj (Ne.symm n2),zm]) e9 e6 (hb ((X.mg "__name__").getD .none) c' c2) (qY c')
 have h3:=D2 (H_:=without A Hp) d4 (by rw[y3 cA];exact p1) (by rw[y3 c3];exact p2)
 have d0:Vals [V.ref a,V.ref f'] [Value.ref a,Value.ref f']:=.cons rfl (.cons rfl .nil);have g0:=b s2 [Value.ref a,Value.ref f'] L.I.kIn (by rw[zaK];exact F.len.symm)
 rw[zaK]at g0;show wpAny _ _ (call (.ref f) [.ref a,.ref f']) _ _ s2;refine wpAny_call (zeS (ok.run X.A X.stack s2 Hp ⟨[.ref a,.ref f'],[]⟩ _ _ (λu H'=>u=.non/\∃A' d',Grow A A' Hp H'/\Ft X.K H' d' (.ref a) A'/\A'.Nodup/\(∀x∈A',x∈A\/Hp x=none)/\φ .non (setS U l (dv d'))) E0 hr Ep g0 d0 ⟨.ob C ns Z,.ref a,.ref f',A,_,_,_,rfl,i7,S.ndA,⟨f',rfl,i1,fA⟩,h3,hT,λd' H' A' g ft nd fr h'=>⟨rfl,A',d',g,ft,nd,fr,h'⟩⟩) λr s' hq=>?_);cases r with
 |error e=>exact False.elim hq
 |ok fl =>
  cases fl with
  |next=>exact False.elim hq
  |brk=>exact False.elim hq
  |cont=>exact False.elim hq
  |ret u =>
   refine L.I.after ?_;obtain⟨v3,H3,os,bare,un,hok,r3,rfl,A',d',g,ft,nd,fr,h4⟩:=hq;obtain⟨k1,a1⟩:=g.keep c _ p1 cA;obtain⟨k2,a2⟩:=g.keep c' _ p2 c3;obtain⟨k3,a3⟩:=g.keep Pt _ p3 PA;have g8:s'.heap.get? c=some ocl:=(show yy X.prog X.w H3 s'.heap c (FoO c ocl) from hok c _ k1).1;have d3:s'.heap.get? c'=some oc:=(show yy X.prog X.w H3 s'.heap c' (FoO c' oc) from hok c' _ k2).1;have g7:s'.heap.get? Pt=some _:=(show yy X.prog X.w H3 s'.heap Pt (FoO Pt _) from hok Pt _ k3).1;generalize hH4:(λb=>if b=c then none else if b=c' then some (HO.own Pt) else if b=Pt then H2 Pt else H3 b:ZZ.Hp)=H4
   have w1:H4 c=none:=by rw[<- hH4];simp
   have w2:H4 c'=some (.own Pt):=by rw[<- hH4];simp[Ne.symm n2]
   have w3:H4 Pt=H2 Pt:=by rw[<- hH4];simp[Ne.symm n1,n3]
   have w4:∀b,b≠c->b≠c'->b≠Pt->H4 b=H3 b:=λb z1 z2 z3=>by rw[<- hH4];simp[z1,z2,z3]
   have a4:∀b u,H3 b=some u->b≠c->b≠c'->b≠Pt->H4 b=some u:=λb u e z1 z2 z3=>by rw[w4 b z1 z2 z3];exact e
   have a0:∀b E,H3 b=some (.tup E)->H4 b=some (.tup E):=λb E e=>a4 b _ e (λz=>by rw[z,k1]at e;cases e) (λz=>by rw[z,k2]at e;cases e) (λz=>by rw[z,k3]at e;cases e)
   have a7:∀b ob u,H3 b=some (.frz ob u)->H4 b=some (.frz ob u):=λb ob u e=>a4 b _ e (λz=>by rw[z,k1]at e;cases e) (λz=>by rw[z,k2]at e;cases e) (λz=>by rw[z,k3]at e;cases e)
   have g5:Un (ZZ.frs X.stack) [] H2 H4 s2.heap s'.heap:=by
    refine⟨λb ob e n a9 hx=>?_,λb ob e n a9 hx=>?_,λb ob e n hx=>?_,un.there,λb E e=>a0 _ _ (un.tups _ _ (ds _ _ e)),λb ob u e=>a7 _ _ _ (un.frzs _ _ _ (a6 _ _ _ e)),λb ps e=>?_⟩
    ·by_cases z:b=c
     ·subst z;rw[b0]at e;cases e;exact g8
     exact un.keep b ob e (nn b n z) a9 hx
    ·by_cases z:b=c
     ·subst z;exact absurd a9 f8
     exact un.slot b ob e (nn b n z) a9 hx
    ·by_cases z:b=c
     ·rw[z];exact w1
     rw[w4 b z (λD=>by rw[D,L.hc]at n;cases n) (λD=>by rw[D,G]at n;cases n)]
     exact un.free b ob e (nn b n z) hx
    by_cases z:b=Pt
    ·subst z;exact⟨#[],by rw[w3,e];simp⟩
    obtain⟨mo,e4⟩:=un.tbls b ps (up b _ e (λD=>by rw[D,L.hc]at e;cases e) z)
    exact⟨mo,a4 b _ e4 (λD=>by rw[D,k1]at e4;cases e4) (λD=>by rw[D,k2]at e4;cases e4) z⟩
   have e8:HOk X.prog X.w H4 s'.heap:=λb u e=>by
    by_cases z1:b=c
    ·rw[z1,w1]at e;cases e
    by_cases z2:b=c'
    ·subst z2;rw[w2]at e;cases e;exact⟨oc,d3⟩
    by_cases z3:b=Pt
    ·subst z3;rw[w3,G]at e;cases e;exact⟨_,g7,.inr ⟨_,_,_,_,_,_,c',oc,vs,tq,rfl,rfl,w2,d3,e9,e6⟩⟩
    rw[w4 b z1 z2 z3]at e;refine(hok b u e).stay (λ_ _ _ z=>z) (λb' z=>a4 _ _ z (λD=>?_) (λD=>?_) (λD=>?_)) λb' E z=>a0 _ _ z
    ·rw[D,k1]at z;cases z
    ·rw[D,k2]at z;cases z
    rw[D,k3]at z;cases z
   have g4:Grow A A' H1 H4:=by
    refine⟨λb u e n=>?_,λb E e=>a0 _ _ (g.tups _ _ (ds _ _ (L.same _ _ e))),λb ob u e=>a7 _ _ _ (g.frzs _ _ _ (a6 _ _ _ (L.same _ _ e)))⟩;have e5:=L.same _ _ e;by_cases z3:b=Pt
    ·subst z3;exact⟨by rw[w3];exact e5,a3⟩
    by_cases z2:b=c'
    ·subst z2;exact⟨by rw[w2,<- L.hc];exact e5,a2⟩
    obtain⟨q1,q2⟩:=g.keep b u (up b u e5 z2 z3) n;exact⟨a4 b u q1 (λD=>by rw[D,nc]at e5;cases e5) z2 z3,q2⟩
   have i8:Ft X.K H4 d' (.ref a) A':=Ft.keep ⟨a0,a7⟩ _ _ _ (λb hb u e=>a4 b u e (λz=>a1 (z▸hb)) (λz=>a2 (z▸hb)) (λz=>a3 (z▸hb))) ft;have i9:∀x∈A',x∈A\/H1 x=none:=λx hx=>(fr x hx).imp id λz=>L.same.free (dn x z).1;exact⟨.non,H4,os,bare,g5,e8,r3,kk .non .non _ H4 A' d' g4 (S.chg g4 i8 nd i9) trivial rfl h4⟩
end
section
open PySem PySem.Spec PySem.W PyProof.Rows
section
variable{D h1 b:Addr}{rows:Array DictEntry}{ep i:Nat}{o1 o2:Value}
def Oj{k:DictEntry}{n:Nat}{Q:Value->Shared->Prop}(y:s.heap.get? h1=some (jf D i n ep .none (.bool false) o1 o2))(q:∀ h',h'.get? h1=some (jf D i n ep (rawInt s.heap.objs.size) (.bool false) k.key k.val)->h'.get? s.heap.objs.size=some (Xq k)->h'.objs.size=s.heap.objs.size+1->(∀ b o,b≠h1->s.heap.get? b=some o->h'.get? b=some o)->Q (.ref s.heap.objs.size) {s with heap:=h'}) :
  wpAny (model prog w) A (Builtin.Dict_items.pairFromOwner (.ref h1) 6 k.key k.val) Q xs s:=by
 obtain⟨a,g,R,tk,N⟩:=s;have e:=y;have O:h1<a.objs.size:=zae e;unfold Builtin.Dict_items.pairFromOwner;apply zaa;refine wpAny_newTuple ?_;have e2:(a.push (Xq k)).get? h1=some (jf D i n ep .none (.bool false) o1 o2):=zac _ e;have t2:(a.push (Xq k)).get? a.objs.size=some (Xq k):=zad _ rfl;have I:(a.push (Xq k)).objs.size=a.objs.size+1:=zcT ..;have L:∀b o,a.get? b=some o->(a.push (Xq k)).get? b=some o:=λb o j=>zac _ j;show wpAny _ _ (Builtin.Dict_items.ownedTupleIsFree (.ref h1) >>= _) _ _ ⟨a.push (Xq k),g,R,tk,N⟩;generalize a.push (Xq k)=h2 at e2 t2 I L;apply zaa;unfold Builtin.Dict_items.ownedTupleIsFree;apply zaa;refine zbW e2 rfl (x:=.none) rfl (zab (?_:_));simp only[zfG];apply zaa;refine zbW e2 rfl (x:=o1) rfl (?_:_);apply zaa;refine zbW e2 rfl (x:=o2) rfl (?_:_);apply zaa;refine zbV e2 aE λh3 e3 v=>?_
 replace v:Heap.SameBut h1 h2 h3:=v
 replace e3:h3.get? h1=some (jf D i n ep .none (.bool false) k.key o2):=e3
 apply zaa;refine zbV e3 aE λh4 G u=>?_
 replace u:Heap.SameBut h1 h3 h4:=u
 replace G:h4.get? h1=some (jf D i n ep .none (.bool false) k.key k.val):=G
 apply zaa;refine zbV G aE λh5 B r=>?_
 replace r:Heap.SameBut h1 h4 h5:=r
 replace B:h5.get? h1=some (jf D i n ep (rawInt a.objs.size) (.bool false) k.key k.val):=B
 apply zaa;refine zbV B aE λh6 z l=>?_
 replace l:Heap.SameBut h1 h5 h6:=l
 replace z:h6.get? h1=some (jf D i n ep (rawInt a.objs.size) (.bool false) k.key k.val):=z
 have kk:∀b o,b≠h1->h2.get? b=some o->h6.get? b=some o:=λb o d j=>l.extBut b o d (r.extBut b o d (u.extBut b o d (v.extBut b o d j)));have M:=kk _ _ (zeR O) t2;refine zaa (wpAny_letGo (zab (q h6 z M ?_ λb o d j=>kk b o d (L b o j))));show h6.objs.size=a.objs.size+1;rw[l.1,r.1,u.1,v.1,I]
def Pa{k:DictEntry}{Q:Option Value->Shared->Prop}(y:s.heap.get? h1=some (jf D i rows.size ep .none (.bool false) o1 o2))(x:RawD s.heap D rows ep)(I:rows[i]?=some k)(q:∀ h',h'.get? h1=some (jf D (i+1) rows.size ep (rawInt s.heap.objs.size) (.bool false) k.key k.val)->h'.get? s.heap.objs.size=some (Xq k)->h'.objs.size=s.heap.objs.size+1->(∀ b o,b≠h1->s.heap.get? b=some o->h'.get? b=some o)->Q (some (.ref s.heap.objs.size)) {s with heap:=h'}) :
  wpAny (model prog w) A (pyNext (.ref h1)) Q xs s:=by
 obtain⟨u,g,v,tk,r⟩:=s;have ty:Shared.TypeIs ⟨u,g,v,tk,r⟩ (.ref h1) "dict_itemiterator":=⟨_,y,rfl⟩;have e:=y;obtain⟨W,g2,Y,e2⟩:=id x;have hi:i<rows.size:=(zeK.mp I).1;have R:rows[i]=k:=(zeK.mp I).2;unfold pyNext;apply zaa;refine zfS (zbX (name:=Str.ofString "__next__") ty zdD (zbY zdD ty F.entry_dict_itemiterator_next (?_:_) (F.args_dict_itemiterator_next_1 _)));apply zaa;apply zab;apply zaa;apply zaa
 first|refine zaa (zcZ ty (zab (?_:_)))|refine zaa (zdN ty (zab (?_:_)))
 apply zaa;refine wpAny_fieldsOf e rfl ?_;have N:Builtin.Dict_items.ownsTuple "dict_itemiterator" = true:=by decide
 simp only[N,zfG];show wpAny _ _ (if (Value.ref D==Value.none)=true then _ else _) _ _ _
 rw[zaJ (show ¬ ((Value.ref D==Value.none)=true) from λz=>by cases z)]
 apply zaa;apply zab;apply zaa;refine zcR g2 e2 ?_;rw[zaJ (show ¬ _ by simp)]
 apply zaa;apply zab;apply zaa;refine zdS g2 e2 ?_;rw[zaJ (show ¬ _ by simp)]
 apply zab;simp only[show ¬ ((i:Int)<0) by omega,zfR,zdQ,Array.getElem?_eq_getElem hi]
 apply zaa
 first|refine zaa (zcZ ty (zab (?_:_)))|refine zaa (zdN ty (zab (?_:_)))
 apply zaa;refine zfE ty ?_;show wpAny _ _ (setField (.ref h1) 3 (rawInt ((i:Int)+1)) >>= _) _ _ _;apply zaa;refine zbV e aE λJ e1 l=>?_
 replace l:Heap.SameBut h1 u J:=l
 have d:J.get? h1=some (jf D (i+1) rows.size ep .none (.bool false) o1 o2):=by
  have z:((i+1:Nat):Int)=(i:Int)+1:=by omega
  unfold jf;rw[z];simpa [rawInt,jf] using e1
 have a:Shared.TypeIs ⟨J,g,v,tk,r⟩ (.ref h1) "dict_itemiterator":=⟨_,d,rfl⟩;apply zaa;apply zcH;apply zaa;refine zfE a (?_:_);apply zaa;refine zfE a (?_:_);show wpAny _ _ (Builtin.Dict_items.pairFromOwner (.ref h1) 6 rows[i].key rows[i].val) _ _ ⟨J,g,v,tk,r⟩;rw[R];have j:J.objs.size=u.objs.size:=l.1;refine Oj d λh' M t' L O=>zab ⟨_,rfl,zab ?_⟩;have B:=q h' (by rw[<- j];exact M) (by rw[<- j];exact t') (by rw[<- j];exact L) λb o G V=>O b o G (l.extBut b o G V)
 dsimp only at B ⊢
 rw[j];exact B
end
end
section
open PySem PySem.Spec PySem.W
variable{ob:Obj}
def Yd:entryFor table "dict_itemiterator.__iter__" = some Builtin.«dict_keyiterator.__iter__» :=
 entryFor_alias (id':="dict_keyiterator.__iter__") (by kernel_rfl) rfl aF (by kernel_rfl)
def z1r(ob:Obj)(rows:Array DictEntry)(ep:Nat):Prop:=ob.ExactDict/\ob.data=.dict rows ep
end
def ikD(l:List Int):D:=.tup (l.map D.int)
def prD(p:List Int×Int):D:=.tup [ikD p.1,.int p.2]
theorem Ym{K:W.Frag}{H:Hp}{O:List Addr}:∀{ns:List Int}{E:List V},Reps K H O (ns.map D.int) E->E=ns.map V.int
 |[],_,h=>h
 |n::ns,E,h=>by
  obtain⟨v,r,rfl,q,t⟩:=h;rw[show v=V.int n from q,Ym t];rfl
variable{ob:Obj}
theorem jb1{P:Program}{w:World}{k:Key}{u:Value}:∀{es:List DictEntry}{vs:List (Key×Value)}{i:Nat},Pairs (x4 P w) es vs->vs[i]?=some (k,u)->∃e,es[i]?=some e/\(x4 P w).is k e.key=true/\e.val=u
 |_,_,i,.nil,h=>by simp at h
 |_,_,0,.cons J h2 t,h=>by
  simp at h;subst h;exact⟨_,rfl,J,h2⟩
 |_,_,i+1,.cons J h2 t,h=>by
  obtain⟨e,d,a⟩:=jb1 (i:=i) t (by simpa using h)
  exact⟨e,by simpa using d,a⟩
theorem ja1{P:Program}{w:World}:∀{es:List DictEntry}{vs:List (Key×Value)},Pairs (x4 P w) es vs->es.length=vs.length
 |_,_,.nil=>rfl
 |_,_,.cons _ _ t=>by simp[ja1 t]
def Itk(a:Addr)(ob:Obj)(kvs:List (Key×V)):It :=
 ⟨λi H=>H a=some (.frz ob (.dK kvs))/\i<kvs.length,
  λi H x H'=>∃T kv,H T=none/\x=.ref T/\kvs[i]?=some kv/\H'=upd H T (.tup [kV kv.1,kv.2]),
  λi H=>H a=some (.frz ob (.dK kvs))/\i=kvs.length⟩
def T4{P:Program}{w:World}{K:W.Frag}{es:List Expr}{kk:Nat}{tp:Pos}(it:Addr){rows:Array DictEntry}{ep:Nat}(ho:z1r ob rows ep)(hsz:rows.size=kvs.length)(a7:a≠it) :
  Turn P w K (.Tuple es kk tp) (Itk a ob kvs) [it] it (λi h=>∃o1 o2,h.get? it=some (jf a i rows.size ep .none (.bool false) o1 o2)) where
 mem:=by simp
 obj:=λi h st b d=>by
  have e:b=it:=by simpa using d
  subst e;obtain⟨o1,o2,J⟩:=st;exact⟨_,J,λv z=>by cases z⟩
 keep:=λi h h' st k=>by
  obtain⟨o1,o2,J⟩:=st;exact⟨o1,o2,k it aE _ J⟩
 item:=by
  intro X hP hw hK D i pn s Y H xs I R st hg;subst hP hw hK;obtain⟨o1,o2,x⟩:=st;have j:=R it aE
  obtain⟨g1,g2⟩:=hg;obtain⟨Q,O⟩:=(show yy X.prog X.w H s.heap a (.frz ob (.dK kvs)) from I.hok a _ g1);obtain⟨zz,nb,vs,r,o,M,a3,gg,cc,dd,_,ds,nd⟩:=(show yy X.prog X.w H s.heap a (.dK kvs) from O);rw[Q]at gg;cases gg;have ee:M=rows/\a3=ep:=by
   have:=dd.symm.trans ho.2;cases this;exact⟨rfl,rfl⟩
  obtain⟨rfl,rfl⟩:=ee;obtain⟨kv,N⟩:∃kv,kvs[i]?=some kv:=⟨kvs[i],zaf g2⟩;obtain⟨u,eu,ru⟩:=ZZ.KV.at r N;obtain⟨en,a4,a0,V⟩:=jb1 ds eu;have ek:M[i]?=some en:=by rw[<- zfK];exact a4
  have e3:RelV (kV kv.1) en.key:=ZZ.is_kV a0;have e4:RelV kv.2 en.val:=by rw[V];exact ru
  refine Pa x ⟨ob,Q,cc,dd⟩ ek λg zo pr a6 y=>?_;have B:H s.heap.objs.size=none:=I.fresh;have h1:∀b ho,H b=some ho->b≠it:=λb ho q=>zl q j.1;have un:Un (frs X.stack) [it] H (upd H s.heap.objs.size (.tup [kV kv.1,kv.2])) s.heap g :=
   ⟨λb o q _ _ L=>y b o (by simpa using L) q,λb o q _ _ L=>⟨o.slots,y b o (by simpa using L) q⟩,λb o q n _=>by rw[zj (zaY (zae q))];exact n,λb o q L=>⟨o,y b o (by simpa using L) q⟩,
    λb zs q=>by rw[zj (zl q B)];exact q,λb o zs q=>by rw[zj (zl q B)];exact q,λb ps q=>⟨#[],by rw[zj (zl q B),q];simp⟩⟩
  have hok:HOk X.prog X.w (upd H s.heap.objs.size (.tup [kV kv.1,kv.2])) g:=λb o G=>by
   by_cases d:b=s.heap.objs.size
   ·subst d;rw[zm]at G;cases G;exact⟨by simp only[zLc,zLn];rw[zaV];decide,[en.key,en.val],.cons e3 (.cons e4 .nil),⟨_,pr,rfl,_,rfl⟩,_,pr,rfl⟩
   rw[zj d]at G;refine(I.hok b o G).stay (λc ob D O=>y c ob ?_ O) (λc q=>by rw[zj (zl q B)];exact q) λc zs q=>by rw[zj (zl q B)];exact q
   rcases D with rfl|D
   ·exact h1 _ _ G
   exact h1 _ _ D
  have I2:Inv X pn Y (upd H s.heap.objs.size (.tup [kV kv.1,kv.2])) {s with heap:=g}:=I.call' (s':={s with heap:=g}) (ch:=[it]) rfl un hok I.bare λb d=>by
   have q:=R b d;exact⟨q.2.2.2.1,q.2.1,q.2.2.2.2.1,q.2.2.2.2.2⟩
  have l:∀b∈[it],upd H s.heap.objs.size (.tup [kV kv.1,kv.2]) b=none:=λb d=>by
   have e:b=it:=by simpa using d
   subst e;rw[zj (zaY (zae x))];exact j.1
  refine⟨_,rfl,wpAny_letOwnedTupleGo_items zo λg2 z3 sb=>?_⟩;refine⟨.ref s.heap.objs.size,_,I2.turned (t':=s.toks) (λb o d q=>sb.extBut b o d q) (l it aE) j.2.1 j.2.2.2.1 j.2.2.2.2.1 j.2.2.2.2.2,rfl,⟨_,kv,B,rfl,N,rfl⟩,?_,l⟩
  exact⟨_,_,by exact_mod_cast z3⟩
 done:=by
  intro X hP hw hK D i pn s Y H xs I R st hg;subst hP hw hK;obtain⟨o1,o2,x⟩:=st;have j:=R it aE
  obtain⟨g1,rfl⟩:=hg;obtain⟨Q,O⟩:=(show yy X.prog X.w H s.heap a (.frz ob (.dK kvs)) from I.hok a _ g1);rw[<- hsz]at x;exact K4 (I.ok.hd D) ⟨_,_,_,_,x,.inl ⟨rfl,rfl⟩⟩ ⟨ob,Q,ho.1,ho.2⟩ λg y=>⟨rfl,I.turned (t':=s.toks) (λb o d q=>y b o d q) j.1 j.2.1 j.2.2.2.1 j.2.2.2.2.1 j.2.2.2.2.2⟩
 self:=λ_ _ s _ _ st h=>by
  obtain⟨o1,o2,x⟩:=st;have ty:s.TypeIs (.ref it) "dict_itemiterator":=⟨_,x,rfl⟩;refine wpAny_pyIter_slot ty PySem.F.slot_dict_itemiterator_iter (zbY PySem.F.slot_dict_itemiterator_iter ty Yd ?_ (PySem.F.args_dict_itemiterator_iter_1 _));show wpAny _ _ (ret (.ref it)) _ _ s;exact zab ⟨_,rfl,"dict_itemiterator",_,ty,PySem.F.slot_dict_itemiterator_next.lookup,h⟩
def iItk(to:TE):TI:=λY H R=>to Y H λv H1=>∃a ob kvs,v=.ref a/\H1 a=some (.frz ob (.dK kvs))/\R (Itk a ob kvs) H1
def N1{o:Expr}{to:TE}{es:List Expr}{kk:Nat}{tp apos cpos:Pos}(O:PE X o to)(j:attributeBase o "items" X.env (eval o X.env)=eval o X.env:=by rfl)(g:(apos.endLine==cpos.line)=true:=by rfl) :
  PI X (.Tuple es kk tp) (.Call (.Attribute o "items" apos) [] [] cpos) (iItk to):=by
 intro pn s Y H R I h;refine wpAny_Call_method0_late j g (thn (O pn s Y H _ I h) λv d Zh=>?_);obtain⟨y,H1,h1,r1,a,ob,kvs,e1,h2,q⟩:=Zh;subst e1;cases r1;obtain⟨k,L⟩:=(show yy X.prog X.w H1 d.heap a (.frz ob (.dK kvs)) from h1.hok a _ h2);obtain⟨Q,M,vs,r,o',rows,ep,G,z,dd,_,x,V⟩:=(show yy X.prog X.w H1 d.heap a (.dK kvs) from L);rw[k]at G;cases G;have hsz:rows.size=kvs.length:=by rw[<- zcQ,ja1 x,<- r.length]
 have u:∀h:Heap,h.get? a=some ob->RawD h a rows ep:=λh e=>⟨ob,e,z,dd⟩;have l:=zae k;refine⟨"dict","dict.items",PySem.F.plainAttrs_dict,PySem.F.slot_dict_items,O2,(u _ k).ty,λb e=>by cases e;exact⟨ob,k,z.2.1⟩,zfC rfl (PySem.evalArgs_none ?_)⟩
 refine K3 M (u _ k) ?_;have B:Inv X pn Y H1 {d with heap:=d.heap.push {cls:=.type "dict_items",data:=.fields #[.ref a]}}:=h1.kept (t':=d.toks) λb o e=>zac _ e;refine P9 (D:=a) (rows:=rows) (ep:=ep) ⟨_,zad _ rfl,rfl,rfl⟩ (u _ (zac _ k)) ?_;refine⟨_,[_],_,_,H1,rfl,B.kept (t':=d.toks) λb o e=>zac _ e,T4 (ob:=ob) (kvs:=kvs) _ (rows:=rows) (ep:=ep) ⟨z,dd⟩ hsz ?_,⟨.none,.none,zad _ rfl⟩,λb N=>?_,q⟩
 ·rw[size_push'];exact zaY (Nat.lt_succ_of_lt l)
 have e:b=(d.heap.push {cls:=.type "dict_items",data:=.fields #[.ref a]}).objs.size:=by simpa using N
 subst e;exact B.fpOk (zaj _) (B.hok.fresh (zaj _))
mutual
def fltD:D->Prop
 |.int _=>True
 |.str _=>True
 |.tup Z=>Wc Z
 |.non=>False
 |.bl _=>False
 |.ty _=>False
 |.lst _=>False
 |.scr _=>False
 |.fo _=>False
 |.fd _=>False
 |.cn _=>False
 |.dk _ _=>False
 |.ob _ _ _=>False
def Wc:List D->Prop
 |[]=>True
 |d::Z=>fltD d/\Wc Z
end
mutual
theorem RepN.flat(g:∀ b E,H b=some (.tup E)->H' b=some (.tup E)):∀(d:D)(v:V),fltD d->Rep K H O d v->Rep K H' O' d v
 |.int _,_,_,h=>h
 |.str _,_,_,h=>h
 |.tup Z,v,p,h=>by
  obtain⟨a,E,e,q,r⟩:=h;exact⟨a,E,e,⟨SqT.of (g _ _ q.2),g _ _ q.2⟩,zr.flat g Z E p r⟩
 |.non,_,p,_=>p.elim
 |.bl _,_,p,_=>p.elim
 |.ty _,_,p,_=>p.elim
 |.lst _,_,p,_=>p.elim
 |.scr _,_,p,_=>p.elim
 |.fo _,_,p,_=>p.elim
 |.fd _,_,p,_=>p.elim
 |.cn _,_,p,_=>p.elim
 |.dk _ _,_,p,_=>p.elim
 |.ob _ _ _,_,p,_=>p.elim
theorem zr.flat(g:∀ b E,H b=some (.tup E)->H' b=some (.tup E)):∀(Z:List D)(E:List V),Wc Z->Reps K H O Z E->Reps K H' O' Z E
 |[],_,_,h=>h
 |d::Z,E,p,h=>by
  obtain⟨v,r,e,q,t⟩:=h;exact⟨v,r,e,RepN.flat g d v p.1 q,zr.flat g Z r p.2 t⟩
end
theorem qi:∀{Z:List D},Wc Z ↔ ∀d∈Z,fltD d
 |[]=>by simp[Wc]
 |d::Z=>by
  rw[Wc,qi];simp
def g6(ks:List Key)(es:List D):List D:=(ks.zip es).map λp=>.tup [kD p.1,p.2]
def Nw{K:W.Frag}{a:Addr}{ob:Obj}{ks:List Key}{es:List D}{E:List V}(hl:ks.length=es.length)(I:Wc es){H0:Hp}{M:List Addr}(r:Reps K H0 M es E)(hT:∀ b ys,H0 b=some (.tup ys)->(upd H0 a (.frz ob (.dK (ks.zip E)))) b=some (.tup ys)) :
  ItD K (Itk a ob (ks.zip E)) (g6 ks es) (λH _=>H a=some (.frz ob (.dK (ks.zip E)))/\∀b ys,H0 b=some (.tup ys)->H b=some (.tup ys)) where
 go:=λH O i d j e=>by
  obtain⟨j,q⟩:=j;unfold g6 at e;rw[zai]at e;obtain⟨p,ep,rfl⟩:=zar.mp e;obtain⟨e1,e2⟩:=zcV.mp ep;obtain⟨v,h1,G⟩:=r.get e2;have B:(ks.zip E)[i]?=some (p.1,v):=zcV.mpr ⟨e1,h1⟩;refine⟨⟨j,(zag.mp B).1⟩,λx H' Zh=>?_⟩;obtain⟨T,N,l,ex,k,L⟩:=Zh;rw[B]at k;cases k;subst ex L;have u:Same H (upd H T (.tup [kV p.1,v])):=λb w y=>by rw[zj (zl y l)];exact y
  refine⟨u,T,_,rfl,⟨.inl (.inl zm),zm⟩,?_⟩;refine⟨_,_,rfl,?_,_,_,rfl,RepN.flat (λb ys z=>u _ _ (q _ _ z)) _ _ (qi.mp I _ (zan e2)) G,rfl⟩;cases p.1 <;> rfl
 stop:=λH O j=>⟨j.1,by unfold g6;rw[zLm,zcG,zcG,r.length]⟩
 keep:=λO O' H H' j g=>⟨g.3 _ _ _ j.1,λb ys z=>g.2 _ _ (j.2 _ _ z)⟩
section
variable{elt:Expr}{scope:Scope}{T:List Str}{g2:TG}{g:TGD}{te:TD}{pos np fpos apos cpos tp:Pos}{es:List Expr}{kk:Nat}{ns:List Str}{x y f:Str}
def z1k(i j:Nat)(C:Addr)(ns:List Str)(f:Str)(n:Nat)(g:TGD)(te:TD):TD:=λU φ=>∃Z ks es m o,slot U i=some ⟨.val,.ob C ns Z⟩/\slot U j=some (dv (.fo o))/\ixF ns f=some m/\Z[m]?=some (.dk ks es)/\Wc es/\es.length<=100000 /\
 ∃F:D->Option D,(∀d∈g6 ks es,g d (List.replicate n none++[some (dv (.fo o))]) λρ'=>bYes ρ' λc=>(c=true->te ρ' λr=>(match r.k with|.own=>False|_=>True)/\F d=some r.d)/\(c=false->F d=none))/\Wc ((g6 ks es).filterMap F)/\φ (df (.lst ((g6 ks es).filterMap F)))
def Ju(i j:Nat)(O:CO X.K C ns)(b2:∀ (H_ H:Hp) (a:Addr) (kvs:List (Key×V)) (ob:Obj),M H_->Same H_ H->H a=some (.dK kvs)->M (upd H a (.frz ob (.dK kvs))))(S:zx X.env.scope scope T [y])(hj:X.N[j]?=some y)(hg:∀ cl C fp s H,PG (yp X (T++[y]) scope cl C fp s H) (.Tuple es kk tp) g2)(hk:Zt T.length g2)(hl:d5 X.K g2 g)(he:∀ cl C fp s H,ED M (yp X (T++[y]) scope cl C fp s H) elt te)(hN:X.N[i]?=some x:=by rfl)(hv:Vis X.env.scope x:=by walk_at "o")(hd:D_ x:=by decide)(d4:(x==("__classdict__" : Str))=false:=by decide)(hc:X.calm=true:=by rfl)(hs:∀ y,foldedSetIterable (.Call (.Attribute (.Attribute (.Name x np) f fpos) "items" apos) [] [] cpos) X.env y=pure y:=by intro _;rfl)(e4:attributeBase (.Name x np) f X.env (eval (.Name x np) X.env)=eval (.Name x np) X.env:=by rfl)(ds:attributeBase (.Attribute (.Name x np) f fpos) "items" X.env (eval (.Attribute (.Name x np) f fpos) X.env)=eval (.Attribute (.Name x np) f fpos) X.env:=by rfl)(W:(apos.endLine==cpos.line)=true:=by rfl) :
  ED M X (.ListComp elt [⟨.Tuple es kk tp,.Call (.Attribute (.Attribute (.Name x np) f fpos) "items" apos) [] [] cpos,[],0⟩] scope pos) (z1k i j C ns f T.length g te):=λH_ pn s Y H Q I h=>by
 obtain⟨U,o,R,φ,⟨Z,ks,D,m,l,c2,a6,hm,d3,d0,e9,F,a3,e5,e6⟩,k⟩:=h;obtain⟨v0,e8,q0⟩:=R.slots i _ (si c2);obtain⟨a0,dx,xs0,rfl,hins,_,ln,nd,rr⟩:Rep X.K H (o.map Prod.snd) (.ob C ns Z) v0:=by
  rcases q0 with⟨_,q⟩|⟨q,_⟩
  ·exact q
  cases q
 obtain⟨w,ew,b0⟩:=rr.get d3;obtain⟨a,E,rfl,h1,f3,c1,f2,rx⟩:=b0;obtain⟨vj,e7,qj⟩:=R.slots j _ (si a6);obtain⟨fj,rfl,hfj,nfj⟩:∃a,vj=.ref a/\H a=some (FoO a l)/\a∉o.map Prod.snd:=by
  rcases qj with⟨_,q⟩|⟨q,_⟩
  ·exact q
  cases q
 obtain⟨z1,z2,vs,z3,ob,f4,ep,c0,z4⟩:=I.hok a _ h1;have h0:∀ob u,X.H_ a≠some (.frz ob u):=λob u z=>by
  have:=I.base.frzs a ob u z;rw[h1]at this;cases this
 have c3:xs0[m]?=some (.ref a):=ew;have b1:(ns.zip xs0).lookup f=some (.ref a):=by rw[xq hm (by rw[ln,rr.length])];exact c3
 have G:∀b ys,H b=some (.tup ys)->∀ob,(upd H a (.frz ob (.dK (ks.zip E)))) b=some (.tup ys):=λb ys z ob=>by
  rw[zj (λe=>by rw[e,h1]at z;cases z)];exact z
 have lj:j<U.length:=(zag.mp (si a6)).1;have a7:∀ob,M (upd H a (.frz ob (.dK (ks.zip E)))):=λob=>b2 H_.1 H a _ ob H_.2 R.same h1;have Rf:REnv X.K (upd H a (.frz ob (.dK (ks.zip E)))) (upd H a (.frz ob (.dK (ks.zip E)))) Y ((List.replicate U.length none).set j (some (dv (.fo l)))) [] :=
  {same:=Same.refl _,fresh:=λ_ z=>absurd z aE,trk:=λ_ z=>absurd z aE,mtb:=λ_ z=>absurd z aE,nda:=zcD,slots:=(λn r e=>by
    by_cases hn:n=j
    ·subst hn;rw[zaL (by simpa using lj)]at e
     cases e
     exact⟨_,e7,.inl ⟨rfl,fj,rfl,by rw[zj (λz=>by rw[z,h1]at hfj;cases hfj)];exact hfj,by simp⟩⟩
    rw[zaC (Ne.symm hn),zbO]at e;split at e <;> cases e),len:=by rw[zaF,zbH];exact R.len}
 have hi:PI X (.Tuple es kk tp) (.Call (.Attribute (.Attribute (.Name x np) f fpos) "items" apos) [] [] cpos) (λσ' H' R'=>(σ'[i]?=some (some (.ref a0))/\H' a0=some (.ins C dx (ns.zip xs0))/\H' a=some (.frz ob (.dK (ks.zip E)))/\∀b ys,H b=some (.tup ys)->H' b=some (.tup ys))/\Pi X.K (upd H a (.frz ob (.dK (ks.zip E)))) (λU φ=>φ (g6 ks D)) σ' H' R') :=
  impI (N1 (V7 (vi hN hv hd d4) e4) ds W) λσ' H' R' Zh=>by
   obtain⟨⟨J,h2,h3,h4⟩,h5⟩:=Zh;obtain⟨f1,o2,R2,f0,a4,k2⟩:=h5;exact⟨_,J,a0,C,dx,_,.ref a,rfl,h2,O.cl,O.na f (sk hm),b1,a,ob,_,rfl,h3,k2 _ _ _ _ (Same.refl _) (Nw c1 d0 rx (λb ys z=>G b ys z ob)) ⟨h3,h4⟩ a4⟩
 have lc:=bv (X:=X) (T:=T) (H_:=upd H a (.frz ob (.dK (ks.zip E)))) (ti:=λU φ=>φ (g6 ks D)) (tc:=bYes) (te:=te) (js:=[j]) aE hl Y (upd H a (.frz ob (.dK (ks.zip E))))
  (λv H2=>Q v (upd H2 a (.dK (ks.zip E)))/\H2 a=some (.frz ob (.dK (ks.zip E)))) ⟨_,[],Rf,λr=>r=df (.lst ((g6 ks D).filterMap F)),⟨F,by unfold g6;rw[zLm,zcG];omega,λd hd=>by
   have e0:ρ0 T.length [j] ((List.replicate U.length none).set j (some (dv (.fo l))))=List.replicate T.length none++[some (dv (.fo l))]:=by
    unfold ρ0;rw[List.map_singleton,ya (U:=(List.replicate U.length none).set j (some (dv (.fo l)))) (i:=j) (r:=dv (.fo l)) (by rw[zaL (by simpa using lj)])]
   rw[e0];exact a3 d hd,rfl⟩,λv r H2 s2 rv e=>by
   subst e;obtain⟨Da,rfl,B,_,ys,hy,ry⟩:=rv;have a8:Da≠a:=λz=>by subst z;rw[zm]at B;cases B
   have L:H Da=none:=by rw[zj a8]at B;exact B
   have e2:H2 a=some (.frz ob (.dK (ks.zip E))):=s2 _ _ zm;refine⟨k _ (df (.lst ((g6 ks D).filterMap F))) _ (λb u hb=>?_) ⟨Da,rfl,L,R.ofree L,ys,by rw[zj a8];exact hy,zr.flat (λb zs z=>by rw[zj (λq=>by rw[q,e2]at z;cases z)];exact z) _ _ e5 ry⟩ e6,e2⟩
   by_cases y:b=a
   ·subst y;rw[h1]at hb;cases hb;exact zm
   rw[zj y];exact s2 _ _ (by rw[zj y];exact hb)⟩
 have a9:=To (pos:=pos) (tc:=bw X.K (upd H a (.frz ob (.dK (ks.zip E)))) bYes) (te:=qd X.K (upd H a (.frz ob (.dK (ks.zip E)))) te) hc hi S (.cons hj .nil) hg hk (λcl C fp s H'=>w5 (M:=M) ⟨_,a7 ob⟩) (λcl C fp s H'=>he cl C fp s H' ⟨_,a7 ob⟩) hs pn s Y _
  (λv H2=>Q v (upd H2 a (.dK (ks.zip E)))/\H2 a=some (.frz ob (.dK (ks.zip E)))) (I.freeze h1 c0) ⟨⟨e8,by rw[zj (λz=>by rw[z,h1]at hins;cases hins)];exact hins,zm,λb ys z=>G b ys z ob⟩,lc⟩
 exact thn a9 λv s' ⟨y,H2,I2,r2,q2,e2⟩=>⟨y,_,I2.thaw e2 h0,r2,q2⟩
end
def z0w{P:Program}{w:World}{K:W.Frag}{mg:Str->Option Value}{base:Heap}{x g m:Str}{st:Stmt}{f:Addr}{fd:FuncData}{N ps:List Str}{k L:Nat}{TC:FG->D->(D->Prop)->Prop}{C:Addr}{ns:List Str}(F:Fun K x g st f fd)(S:zv N ps (ze st))(b:wq K fd ps [])(hm:Meth K C m f)(O:m∉ns)(len:ps.length=2)(M:∀ (qZ:Value) (A:Around) (outer:List Env) (s:Shared) (H:Hp) (xs:XK) (o:Obj) (G:FG) (d:D) (φ:D->Prop),Room k (A.deeper (envOfC g (ze st) s.heap.objs.size f qZ))->TC G d φ ->
   ∃ t,QSs (λH=>LamC P w K mg base L o G H) 0 (cxOf CX0 P w K mg base N g (ze st) f qZ A outer s H xs).nox (yu st) t/\t (yx N.length [d,.fo o]) {nx:=λU=>∃ d',slot U 0=some (dv d')/\φ d',rt:=λ_ _=>False}):FMC P w K mg base (k+1) L C ns m ps TC:=by
 refine⟨⟨f,fd,F.ok S (λvs H Q xs h=>?_) (λqZ A outer s H vs Q xs hr h=>?_),b,hm⟩,O,len⟩
 ·obtain⟨d,v,wv,A,o,G,φ,rfl,_⟩:=h;exact len.symm
 obtain⟨d,v,wv,B,o,G,φ,rfl,ft,R,r,hL,hT,kk⟩:=h;obtain⟨t,ht,hq⟩:=M qZ A outer s H xs o G d φ hr hT;have S0:=cj (N:=N) (Z:=[.fo o]) (ws:=[wv]) ft R ⟨wv,[],rfl,r,rfl⟩;refine⟨bx K (without B H) 0 t,ht ⟨without B H,hL⟩,yx N.length [d,.fo o],[],B,d,v,S0,_,hq,λρ' σ' H' o' A' d2 l ds=>?_,λ_ _ _ _ _ _ _ q=>q.elim,λ_ _ _ _ _ _ _ q=>q.elim,λu e ρ' σ' H' o' A' d2 l pe re q=>q.elim⟩;obtain⟨d',es,h'⟩:=ds;have e2:some (dv d2)=some (dv d'):=by
  rw[<- es];exact(ya l.hd).symm
 cases e2
 have h1:∀b x,H b=some x->b∉B->H' b=some x:=λb x j I=>l.Q.same b x (by rw[y3 I];exact j)
 refine kk _ H' A' ⟨λb x j I=>⟨h1 b x j I,λz=>?_⟩,λb E j=>h1 b _ j λz=>?_,λb ob w j=>h1 b _ j λz=>?_⟩ l.ft l.ndA (λa ha=>?_) h'
 ·have:=l.frA b z;rw[y3 I,j]at this;cases this
 ·obtain⟨w,y,Y,_⟩:=Ft.dom _ _ _ ft b z;rw[j]at y;cases y;exact Y _ rfl
 ·obtain⟨w',y,_,V⟩:=Ft.dom _ _ _ ft b z;rw[j]at y;cases y;exact V _ _ rfl
 have:=l.frA a ha;by_cases hA:a∈B
 ·exact .inl hA
 rw[y3 hA]at this;exact .inr this
def Wt(G:Hp->Prop):Prop:=∀H H',G H->Same H H'->G H'
section
variable{H₁:Hp}{o:List (Nat×Addr)}{A A':List Addr}{d d':D}
def ST.rebase(S:ST K H_ H Y U o l A d v):Same H_ (without (o.map Prod.snd++A) H)/\ST K (without (o.map Prod.snd++A) H) H Y U o l A d v:=by
 have e:∀p∈o++tg l A,p.2∈o.map Prod.snd++A:=λp a=>by rw[<- yo o l A];exact zah.mpr ⟨p,a,rfl⟩
 refine⟨λb u h=>?_,⟨u5 _ _,λp a=>wn (e p a),S.Q.trk,S.Q.mtb,S.Q.nda,S.Q.slots,S.Q.len⟩,S.hd,S.hv,S.ft⟩;rw[y3]
 ·exact S.Q.same b u h
 intro z;rw[<- yo o l A]at z;obtain⟨p,a,rfl⟩:=zah.mp z;rw[S.Q.fresh p a]at h;cases h
def ST.back(s:Same H_ H₁)(S:ST K H₁ H Y U o l A d v):ST K H_ H Y U o l A d v :=
 ⟨⟨s.trans S.Q.same,λp a=>s.free (S.Q.fresh p a),S.Q.trk,S.Q.mtb,S.Q.nda,S.Q.slots,S.Q.len⟩,S.hd,S.hv,S.ft⟩
def ST.growB{o':List (Nat×Addr)}{ρ':DE}{σ':St}{H2:Hp}(S:ST K H_ H Y U o l A d v)(k:ST K (without (o.map Prod.snd++A) H) H2 σ' ρ' o' l A' d' v):Grow (o.map Prod.snd++A) (o'.map Prod.snd++A') H H2:=by
 have a:∀b u,H b=some u->b∉o.map Prod.snd++A->H2 b=some u:=λb u h n=>k.Q.same b u (by rw[y3 n];exact h)
 have g:∀b,b∈o.map Prod.snd++A->(∀E,H b≠some (.tup E))/\∀ob u,H b≠some (.frz ob u):=λb j=>by
  rw[<- yo o l A]at j;obtain⟨p,e,rfl⟩:=zah.mp j;exact S.Q.mtb p e
 refine⟨λb u h n=>⟨a b u h n,λz=>?_⟩,λb E h=>a b _ h λz=>(g b z).1 _ h,λb ob u h=>a b _ h λz=>(g b z).2 _ _ h⟩;rw[<- yo o' l A']at z;obtain⟨p,e,rfl⟩:=zah.mp z;have:=k.Q.fresh p e;rw[y3 n,h]at this;cases this
end
def GLq(K:W.Frag)(l:Nat)(g2:TG)(g:TGD):Prop:=∀(H_ H:Hp)(Y:St)(U:DE)(o:List (Nat×Addr))(A:List Addr)(d0:D)(v0:V)(d:D)(v:V)(L:DE->Prop)(Q:St->Hp->Prop),ST K H_ H Y U o l A d0 v0->Rep K H (o.map Prod.snd++A) d v->g d U L ->
 (∀ρ' σ',ST K H_ H σ' ρ' o l A d0 v0->L ρ'->Q σ' H)->g2 v Y H Q
def Ji{K:W.Frag}{l:Nat}(i:Nat)(h:i≠l):GLq K l (sn i) (gN i):=λH_ H Y U o A d0 e d v L Q S r a k=>k _ _ (S.setR h r) a
def Q8{K:W.Frag}{l:Nat}(i j:Nat)(hi:i≠l)(u:j≠l):GLq K l (gTup K 2 (jg (sn i) (jg (sn j) gNil))) (gT2 i j):=λH_ H Y U o A d0 x d v L Q S h e k=>by
 unfold gT2 at e;split at e
 ·rename_i a b;obtain⟨p,E,rfl,q,r⟩:=h;obtain⟨g,r1,rfl,J,v2,r2,rfl,h2,rfl⟩:=r;exact⟨p,_,rfl,q.1,rfl,g,_,rfl,v2,_,rfl,rfl,k _ _ ((S.setR hi J).setR u h2) e⟩
 exact e.elim
section
variable{e oe:Expr}{te:TD}{pos:Pos}
def qFor(l:Nat)(ti:TID)(g:TGD)(tb:TQS):TQS:=λU ds=>ti (hid l U) λZ=>∃P:Nat->DE->Prop,P 0 U/\(∀i d U,Z[i]?=some d->P i U->g d U λρ'=>tb ρ' {nx:=P (i+1),rt:=λ_ _=>False})/\∀U,P Z.length U->ds.nx U
def Ou{body:List Stmt}{tb:TQS}(a:QSs M l X body tb):PSs X body (λDz Y H=>∃H₁:{H:Hp // M H},bx X.K H₁.1 l tb Dz Y H):=λpn s Y H Dz I ⟨H₁,h⟩=>a H₁ pn s Y H Dz I h
def Ol{tgx iter:Expr}{body:List Stmt}{ti:TID}{g2:TG}{g:TGD}{tb:TQS}(mG:Wt M)(hi:EI M X tgx iter ti)(hg:PG X tgx g2)(hl:GLq X.K l g2 g)(hb:QSs M l X body tb)(hc:X.calm=true:=by rfl)(hp:PassesOwn (model X.prog X.w) X.A X.env X.xe:=by exact PassesOwn.never)(hs:∀ x,foldedSetIterable iter X.env x=pure x:=by intro _;rfl):QS M l X (.For tgx iter body [] pos) (qFor l ti g tb):=λH_=>impS (Ow hp hc (hi H_) hg (Ou hb) hs) λDz Y H h=>by
 obtain⟨U,o,A,d,v,S,ds,hZ,k1,k2,k3,k4⟩:=h;refine⟨hid l U,o++tg l A,S.Q,_,hZ,λh1 Z PJ H1 s1 I N Zh=>?_⟩;obtain⟨P,p0,k,B⟩:=Zh;have R:=S.to s1;obtain⟨G,Sb⟩:=R.rebase;rw[yo]at N;have G1:M (without (o.map Prod.snd++A) H1):=mG _ _ H_.2 G;refine⟨λi m σ' H'=>m=Z.length-i/\i<=Z.length/\∃ρ' o' A' d',ST X.K (without (o.map Prod.snd++A) H1) H' σ' ρ' o' l A' d' v/\P i ρ',⟨_,rfl,zbG _,U,o,A,d,Sb,p0⟩,?_⟩;rintro i m σ' H' ⟨rfl,a0,ρ',o',A',d',D,L⟩;have r:=I.keep _ _ _ _ N (R.growB D);by_cases hlt:i<Z.length
 ·have O:Z[i]?=some Z[i]:=by simp[hlt]
  obtain⟨j1,j2⟩:=I.go H' _ i _ r O;refine .inr ⟨j1,λj H2=>∃a o2 A2 d2,ST X.K (without (o.map Prod.snd++A) H1) H2 j a o2 l A2 d2 v/\P (i+1) a,λj H2 ⟨a,o2,A2,d2,S2,p2⟩=>⟨_,(by omega:Z.length-(i+1)<Z.length-i),rfl,hlt,a,o2,A2,d2,S2,p2⟩,λx H2 y=>?_⟩
  obtain⟨s2,rp⟩:=j2 x H2 y;refine hl _ H2 σ' ρ' o' A' d' v _ x _ _ (D.to s2) rp (k i _ ρ' O L) λz W S3 q3=>?_;exact⟨⟨_,G1⟩,z,o',A',d',v,S3,_,q3,λu V H4 o4 A4 d4 S4 q4=>⟨u,o4,A4,d4,S4,q4⟩,λ_ _ _ _ _ _ _ q=>q.elim,λ_ _ _ _ _ _ _ q=>q.elim,λ_ _ _ _ _ _ _ _ _ _ _ q=>q.elim⟩
 have e:i=Z.length:=by omega
 subst e;exact .inl ⟨I.stop H' _ r,k1 _ _ _ _ _ _ (D.back G) (B ρ' L)⟩
def Fx(l:Nat)(C:Addr)(ns:List Str)(f:Str)(tp:TP1)(te:TD):TQS:=λU ds=>tp U λπ=>∃d Z i x,slot U l=some (dv d)/\atQ π d=some (.ob C ns Z)/\ns.length<=100/\ixF ns f=some i/\Z[i]?=some (.int x)/\te U λr=>∃y,r.d=.int y/\ds.nx (setS U l (dv (putQ π d (.ob C ns (Z.set i (.int (x+y)))))))
def Om{f:Str}{C:Addr}{ns:List Str}{tpos:Pos}(O:CO X.K C ns)(hp:EPQ M l X oe tp)(he:ED M X e te):QS M l X (.AugAssign (.Attribute oe f tpos) .Add e pos) (Fx l C ns f tp te):=λH_ =>
 impS (Ox (hp H_) (he H_) Ge) λDz Y H h=>by
  obtain⟨U,o,A,d,v,S,ds,hZ,k1,k2,k3,k4⟩:=h;refine⟨U,o,A,d,v,S,_,hZ,λu π H1 s1 vp J=>?_⟩;obtain⟨d',Z,i,x,es,ea,hn,L,ex,J⟩:=J;cases s2_ es S.hd
  have N:=S.to s1;obtain⟨u',A1,hv,I,V,sub,dm,_⟩:=N.focQ ea;cases (vp.fn hv);obtain⟨b,dx,E,At,rfl,q,ln,nd,rfl,fs⟩:=id I;have W:ns.length=E.length:=by rw[ln,fs.length]
  have hi:i<Z.length:=(zag.mp ex).1;have h1:E[i]?=some (.int x):=by
   obtain⟨w,A0,_,_,h1,_,fw,_⟩:=Fts.foc fs ex;obtain⟨_,rfl⟩:=fw;exact h1
  refine⟨b,C,dx,_,.int x,rfl,q,O.cl,O.na f (sk L),by rw[xq L W];exact h1,U,o,N.R,_,J,λw r H2 s2 rv h2=>?_⟩
  obtain⟨y,ey,h2⟩:=h2;have Q:=rv.view;rw[ey]at Q;cases (show w=_ from Q);have G:Fts X.K H2 Z E At:=Fts.keep (Gt.same s2) _ _ _ (λa _ x hx=>s2 _ _ hx) fs;obtain⟨B0,A2,C0,eA,f3⟩:=Fts.setA (B:=[]) (e:=.int (x+y)) (u:=.int (x+y)) hi G ⟨rfl,rfl⟩;have j:=zaR.mp V;obtain⟨n3,m3⟩:=Hr (B:=[]) (P:=λ_=>True) eA j.2 zcD (λa D=>absurd D aE)
  obtain⟨A',S',g,_⟩:=N.putH (e:=.ob C ns (Z.set i (.int (x+y)))) (ho:=.ins C dx (ns.zip (E.set i (.int (x+y))))) ea I V (λu A2 k f2 n2=>by
   cases hv.fn k
   exact⟨rfl,Ft.uniq _ _ _ _ f2 I⟩) s2 f3 n3 (λa D=>(m3 a D).imp id λz=>absurd z aE) (λ_ z=>by cases z) (λ_ _ z=>by cases z) (λH' hb f=>⟨b,dx,_,_,rfl,hb,by rw[zaF];exact ln,nd,rfl,f⟩)
  refine⟨x,y,rfl,rfl,dx,_,s2 _ _ q,by rw[zcG];omega,?_⟩
  rw[Xl L W];exact k1 _ _ _ _ _ _ S' h2
end
def spQG(G:Hp->Prop)(K:W.Frag)(n:Nat)(T:FTQ):Sp:=λvs H Q _=>∃d Z v ws A φ,vs=v::ws/\Z.length+1=n/\Ft K H d v A/\A.Nodup/\Reps K H A Z ws/\G (without A H)/\T d Z φ /\
 ∀u r d' H' A',Grow A A' H H'->Ft K H' d' v A'->A'.Nodup->(∀a∈A',a∈A\/H a=none)->yz r->Rep K H' [] r u->φ r d'->Q u H'
structure FMG(G:Hp->Prop)(P:Program)(w:World)(K:W.Frag)(mg:Str->Option Value)(base:Heap)(k:Nat)(C:Addr)(ns:List Str)(m:Str)(ps:List Str)(T:FTQ):Prop where
 ex:∃f fd,FnOk P w K mg base CX0 k f fd ps (spQG G K ps.length T)/\wq K fd ps []/\Meth K C m f
 no:m∉ns
def xk{K:W.Frag}{H_ H:Hp}{Y:St}{U:DE}{o:List (Nat×Addr)}{l:Nat}{A:List Addr}{d:D}{v:V}(S:ST K H_ H Y U o l A d v):Same H_ (without A H):=λb u h=>by
 rw[y3]
 ·exact S.Q.same b u h
 intro z;rw[S.frA b z]at h;cases h
section
variable{e:Expr}{es:List Expr}{y m:Str}{np apos pos:Pos}{ns ps:List Str}{T:FTQ}{t:TQs}{k:Nat}
def jn{pl:Sem Bool}(mG:Wt M)(O:CO X.K C ns)(F:FMG M X.prog X.w X.K X.mg X.base k C ns m ps T)(hr:Room k X.A)(L:QA M l X (e::es) t)(hN:X.N[l]?=some y:=by rfl)(hv:Vis X.env.scope y:=by walk_at "o")(hd:D_ y:=by decide)(h1:(y==("__classdict__" : Str))=false:=by decide)(G:S_ X e es:=by rfl)(I:B_ X es pos:=by rfl)(ht:eval (.Call (.Attribute (.Name y np) m apos) (e::es) [] pos) X.env=(do
   let W <- eval (.Name y np) X.env
   standAt apos.atName
   let (f,first) <- holding [W] (getMethod W m pl)
   callWith pos f first (backTo pos (starEach (e::es) X.env)) (backToKw pos (keywordEach [] X.env))):=by rfl) :
  EQ M l X (.Call (.Attribute (.Name y np) m apos) (e::es) [] pos) (Te l ps.length C ns T t):=λH_=>by
 obtain⟨f,fd,ok,b,hm⟩:=F.ex;refine impE (Tj (vi hN hv hd h1) O.cl hm ok hr b .nil gm (L H_) G I ht) λY H Q q=>?_;obtain⟨U,o,A,d,v,S,φ,⟨Z,V,D⟩,kk⟩:=q;have e0:some (dv d)=some (dv (.ob C ns Z)):=by rw[<- V];exact(ya S.hd).symm
 cases e0
 obtain⟨a,dx,E,B,ev,qa,ln,nn,eA,r⟩:=S.ft;refine⟨v,S.hv,a,dx,_,ev,qa,u7 F.no,U,o,A,_,v,S,_,D,λus ds x H1 A1 d1 g1 j z J=>?_⟩;have R:slot x l=some (dv d1):=ya j.hd;rw[R]at J;show spQG M X.K ps.length T (v::(us++[])) H1 Q E0;rw[zaK];refine⟨d1,ds,v,us,A1,_,rfl,zcY J.1,j.ft,j.ndA,zr.sub (λa L=>zaE _ L) _ _ z,mG _ _ H_.2 (xk j),J.2,λu r d' H' A' g ft nd fr pr rr h2=>?_⟩;exact kk u r _ H' A' d' (g1.trans g) (j.chg g ft nd fr) pr rr h2
end
def Hl{K:W.Frag}{N:List Str}{a d c:D}{k v j:V}{H:Hp}{g:List Addr}(x:3<=N.length)(ft:Ft K H d v g)(u:g.Nodup)(r:Rep K H g a k)(l:Rep K H g c j):ST K (without g H) H (ZZ.start N [k,v,j]) (yx N.length [a,d,c]) [] 1 g d v:=by
 refine Hm ft u rfl rfl (by unfold ZZ.start yx;simp) λi q hi e=>?_
 match i,hi,e with
 |0,_,e=>cases (show some (some (dv a))=some (some q) from e);exact⟨k,rfl,rfl,r⟩
 |1,hi,_=>exact absurd rfl hi
 |2,_,e=>cases (show some (some (dv c))=some (some q) from e);exact⟨j,rfl,rfl,l⟩
 |i+3,_,e =>
  have e:(List.replicate (N.length-3) (none:Option EV))[i]?=some (some q):=e;rw[zbO]at e;split at e <;> cases e
abbrev FTM:=D->D->D->(D->D->Prop)->Prop
def spM(K:W.Frag)(T:FTM):Sp:=λvs H Q _=>∃d a c v va vc A φ,vs=[va,v,vc]/\Ft K H d v A/\A.Nodup/\Rep K H A a va/\Rep K H A c vc/\T d a c φ /\
 ∀u r d' H' A',Grow A A' H H'->Ft K H' d' v A'->A'.Nodup->(∀b∈A',b∈A\/H b=none)->yz r->Rep K H' [] r u->φ r d'->Q u H'
structure FMid(P:Program)(w:World)(K:W.Frag)(mg:Str->Option Value)(base:Heap)(k:Nat)(x:Str)(ps:List Str)(T:FTM):Prop where
 ex:∃f fd,FnOk P w K mg base CX0 k f fd ps (spM K T)/\wq K fd ps []/\W.keepIn K (.ref f)=true/\mg x=some (.ref f)
abbrev FTE:=D->D->D->(D->Prop)->Prop
def spE(G:Hp->Prop)(K:W.Frag)(T:FTE):Sp:=λvs H Q _=>∃d a c v va vc A φ,vs=[va,v,vc]/\Ft K H d v A/\A.Nodup/\Rep K H A a va/\Rep K H A c vc/\G (without A H)/\T d a c φ /\
 ∀u r H' A',Same (without A H) H'->Ft K H' r u A'->A'.Nodup->(∀b∈A',without A H b=none)->φ r->Q u H'
structure FEat(G:Hp->Prop)(P:Program)(w:World)(K:W.Frag)(mg:Str->Option Value)(base:Heap)(k:Nat)(x:Str)(ps:List Str)(T:FTE):Prop where
 ex:∃f fd,FnOk P w K mg base CX0 k f fd ps (spE G K T)/\wq K fd ps []/\W.keepIn K (.ref f)=true/\mg x=some (.ref f)
abbrev TC1:=DE->(D->Prop)->Prop
def Ay(K:W.Frag)(H_:Hp)(l:Nat)(t:TC1):TE:=λY H Q=>∃U o A d v,ST K H_ H Y U o l A d v/\∃φ,t U φ/\∀u r H' A',Same (without A H) H'->Ft K H' r u A'->A'.Nodup->(∀b∈A',without A H b=none)->φ r->Q u H'
def EC(G:Hp->Prop)(l:Nat)(X:Cx)(e:Expr)(t:TC1):Prop:=∀H_:{H:Hp // G H},PE X e (Ay X.K H_.1 l t)
section
variable{x y:Str}{a c e:Expr}{ta tc:TD}{k:Nat}{ps:List Str}{p np pos:Pos}{T:FTM}{TE1:FTE}
def W6{K:W.Frag}{H_ H H':Hp}{Y:St}{U:DE}{o:List (Nat×Addr)}{A:List Addr}{d:D}{v:V}{r:EV}{w:V}(S:ST K H_ H Y U o l A d v)(e:RV K H H' ((o++tg l A).map Prod.snd) r w)(g:match r.k with|.own=>False|_=>True):Rep K H' A r.d w:=by
 have:=e.solid (u6 g);rw[yo]at this;exact RepN.sub (λa j=>zaE _ j) _ _ this
def qMid(l:Nat)(T:FTM)(ta tc:TD):TQ:=λU φ=>ta (hid l U) λe=>(match e.k with|.own=>False|_=>True)/\tc (hid l U) λa=>(match a.k with|.own=>False|_=>True)/\∃d,slot U l=some (dv d)/\T d e.d a.d λr d'=>φ r (setS U l (dv d'))
def Ub(F:FMid X.prog X.w X.K X.mg X.base k x ps T)(hr:Room k X.A)(ha:ED M X a ta)(hc:ED M X c tc)(hN:X.N[l]?=some y:=by rfl)(hv:Vis X.env.scope y:=by walk_at "o")(hd:D_ y:=by decide)(h1:(y==("__classdict__" : Str))=false:=by decide)(hg:Gl X x:=by rfl)(I:D_ x:=by decide)(J:starEach [a,.Name y np,c] X.env=(false,eval a X.env)::starEach [.Name y np,c] X.env:=by rfl)(h2:starEach [.Name y np,c] X.env=(false,eval (.Name y np) X.env)::starEach [c] X.env:=by rfl)(h3:starEach [c] X.env=(false,eval c X.env)::starEach [] X.env:=by rfl)(D:(backTo pos (starEach [.Name y np,c] X.env)).any (·.1)=false:=by rfl) :
  EQ M l X (.Call (.Name x p) [a,.Name y np,c] [] pos) (qMid l T ta tc):=λH_=>by
 obtain⟨f,fd,ok,b,kp,m⟩:=F.ex;refine impE (gl ok hr hg m kp b .nil gm (yr (ha H_) (yr (vi hN hv hd h1) (yr (hc H_) uv h3) h2) J) I J D) λY H Q q=>?_;obtain⟨U,o,A,d,v,S,φ,B,kk⟩:=q;refine⟨hid l U,o++tg l A,S.Q,_,B,λV ra H1 e z O=>⟨v,S.hv,hid l U,o++tg l A,(S.to e).Q,_,O.2,λR ds H2 s2 j q2=>?_⟩⟩;obtain⟨G,d',es,hT⟩:=q2;cases s2_ es S.hd
 have L:=S.to (e.trans s2);refine⟨d,ra.d,ds.d,v,V,R,A,_,rfl,L.ft,L.ndA,RepN.grow (Grow.same s2) _ _ (W6 S z O.1),W6 (S.to e) j G,hT,λu r d' H' A' g ft nd fr pr W h'=>?_⟩;exact kk u r _ H' A' d' ((Grow.same (e.trans s2)).trans g) (L.chg g ft nd fr) pr W h'
def cMid(l:Nat)(T:FTE)(ta tc:TD):TC1:=λU φ=>ta (hid l U) λe=>(match e.k with|.own=>False|_=>True)/\tc (hid l U) λa=>(match a.k with|.own=>False|_=>True)/\∃d,slot U l=some (dv d)/\T d e.d a.d φ
def Yg{A:List Addr}{H H':Hp}(s:Same H H'):Same (without A H) (without A H'):=λb u h=>by
 by_cases hb:b∈A
 ·rw[wn hb]at h;cases h
 rw[y3 hb]at h ⊢;exact s b u h
def Ue(mG:Wt M)(F:FEat M X.prog X.w X.K X.mg X.base k x ps TE1)(hr:Room k X.A)(ha:ED M X a ta)(hc:ED M X c tc)(hN:X.N[l]?=some y:=by rfl)(hv:Vis X.env.scope y:=by walk_at "o")(hd:D_ y:=by decide)(h1:(y==("__classdict__" : Str))=false:=by decide)(hg:Gl X x:=by rfl)(I:D_ x:=by decide)(J:starEach [a,.Name y np,c] X.env=(false,eval a X.env)::starEach [.Name y np,c] X.env:=by rfl)(h2:starEach [.Name y np,c] X.env=(false,eval (.Name y np) X.env)::starEach [c] X.env:=by rfl)(h3:starEach [c] X.env=(false,eval c X.env)::starEach [] X.env:=by rfl)(D:(backTo pos (starEach [.Name y np,c] X.env)).any (·.1)=false:=by rfl) :
  EC M l X (.Call (.Name x p) [a,.Name y np,c] [] pos) (cMid l TE1 ta tc):=λH_=>by
 obtain⟨f,fd,ok,b,kp,m⟩:=F.ex;refine impE (gl ok hr hg m kp b .nil gm (yr (ha H_) (yr (vi hN hv hd h1) (yr (hc H_) uv h3) h2) J) I J D) λY H Q q=>?_;obtain⟨U,o,A,d,v,S,φ,B,kk⟩:=q;refine⟨hid l U,o++tg l A,S.Q,_,B,λV ra H1 g z O=>⟨v,S.hv,hid l U,o++tg l A,(S.to g).Q,_,O.2,λR ds H2 s2 j q2=>?_⟩⟩;obtain⟨G,d',es,hT⟩:=q2;cases s2_ es S.hd
 have e:=g.trans s2;have L:=S.to e;refine⟨d,ra.d,ds.d,v,V,R,A,_,rfl,L.ft,L.ndA,RepN.grow (Grow.same s2) _ _ (W6 S z O.1),W6 (S.to g) j G,mG _ _ H_.2 (xk L),hT,λu r H' A' W ft nd fr h'=>?_⟩;exact kk u r H' A' ((Yg e).trans W) ft nd (λb hb=>(Yg e).free (fr b hb)) h'
def Nk(K:W.Frag)(H_:Hp)(l:Nat)(t:TC1):TS:=λDz Y H=>∃U o A d v,ST K H_ H Y U o l A d v/\∃φ,t U φ/\∀u r H' A',Same H_ H'->Ft K H' r u A'->A'.Nodup->(∀b∈A',H_ b=none)->φ r->Dz.rt u H'
def QC(G:Hp->Prop)(l:Nat)(X:Cx)(st:List Stmt)(t:TC1):Prop:=∀H_:{H:Hp // G H},PSs X st (Nk X.K H_.1 l t)
def cSeq(t:TQS)(u:TC1):TC1:=λU φ=>t U {nx:=λρ'=>u ρ' φ,rt:=λ_ _=>False}
def wg{st:Stmt}{rest:List Stmt}{t:TQS}{u:TC1}(h:QS M l X st t)(hr:QC M l X rest u):QC M l X (st::rest) (cSeq t u):=λH_=>gx (wc (h H_) (hr H_)) λDz Y H h=>by
 obtain⟨U,o,A,d,v,S,φ,a,kk⟩:=h;exact⟨U,o,A,d,v,S,_,a,λρ' σ' H' o' A' d' e h'=>⟨ρ',o',A',d',v,e,φ,h',kk⟩,λ_ _ _ _ _ _ _ q=>q.elim,λ_ _ _ _ _ _ _ q=>q.elim,λ_ _ _ _ _ _ _ _ _ _ _ q=>q.elim⟩
def cIf(tc:TQb)(t u:TC1):TC1:=λU φ=>tc U λb a=>(b=true->t a φ)/\(b=false->u a φ)
def Fs{j:Expr}{k rest:List Stmt}{tb:TQb}{t u:TC1}(x:QT M l X j tb)(y:QC M l X k t)(hr:QC M l X rest u):QC M l X (.If j k [] pos::rest) (cIf tb t u):=λH_ =>
 gx (wc (Ov (x H_) (y H_) bh) (hr H_)) λDz Y H h=>by
  obtain⟨U,o,A,d,v,S,φ,e,kk⟩:=h;refine⟨U,o,A,d,v,S,_,e,λz a H1 r d1 g q J=>?_⟩;cases z
  ·exact⟨a,o,r,d1,v,q,φ,J.2 rfl,kk⟩
  exact⟨a,o,r,d1,v,q,φ,J.1 rfl,kk⟩
def V5{t:TC1}(h:EC M l X e t):QC M l X [.Return (some e) pos] t:=λH_=>gx (sj (j9 (h H_))) λDz Y H h=>by
 obtain⟨U,o,A,d,v,S,φ,a,kk⟩:=h;refine⟨U,o,A,d,v,S,_,a,λu r H' A' g ft j q h'=>kk u r H' A' ((xk S).trans g) ft j (λb k=>(xk S).free (q b k)) h'⟩
end
def Me{G:Hp->Prop}{P:Program}{w:World}{K:W.Frag}{mg:Str->Option Value}{base:Heap}{x e:Str}{st:Stmt}{f:Addr}{fd:FuncData}{N ps:List Str}{k:Nat}{T:FTE}(F:Fun K x e st f fd)(S:zv N ps (ze st))(b:wq K fd ps [])(m:mg x=some (.ref f))(len:ps.length=3)(R:3<=N.length)(h1:∀ (qZ:Value) (A:Around) (outer:List Env) (s:Shared) (H:Hp) (xs:XK) (d a c:D) (φ:D->Prop),Room k (A.deeper (envOfC e (ze st) s.heap.objs.size f qZ))->T d a c φ ->
   ∃ t,QC G 1 (cxOf CX0 P w K mg base N e (ze st) f qZ A outer s H xs).nox (yu st) t/\t (yx N.length [a,d,c]) φ):FEat G P w K mg base (k+1) x ps T:=by
 refine⟨f,fd,F.ok S (λvs H Q xs h=>?_) (λqZ A outer s H vs Q xs hr h=>?_),b,F.kp,m⟩
 ·obtain⟨d,a,c,v,y,q,A,φ,rfl,_⟩:=h;exact len.symm
 obtain⟨d,a,c,v,y,q,l,φ,rfl,ft,L,I,B,V,hT,kk⟩:=h;obtain⟨t,M,O⟩:=h1 qZ A outer s H xs d a c φ hr hT;exact⟨Nk K (without l H) 1 t,M ⟨without l H,V⟩,yx N.length [a,d,c],[],l,d,v,Hl R ft L I B,φ,O,λu r H' A' z j g Y h'=>kk u r H' A' z j g Y h'⟩
def M9{P:Program}{w:World}{K:W.Frag}{mg:Str->Option Value}{base:Heap}{x j:Str}{st:Stmt}{f:Addr}{fd:FuncData}{N ps:List Str}{k:Nat}{T:FTM}(F:Fun K x j st f fd)(S:zv N ps (ze st))(b:wq K fd ps [])(m:mg x=some (.ref f))(len:ps.length=3)(Y:3<=N.length)(h1:∀ (qZ:Value) (A:Around) (outer:List Env) (s:Shared) (H:Hp) (xs:XK) (d a c:D) (φ:D->D->Prop),Room k (A.deeper (envOfC j (ze st) s.heap.objs.size f qZ))->T d a c φ ->
   ∃ t,QSs (λ_=>True) 1 (cxOf CX0 P w K mg base N j (ze st) f qZ A outer s H xs).nox (yu st) t/\t (yx N.length [a,d,c]) {nx:=λ_=>False,rt:=λr U=>∃ d',slot U 1=some (dv d')/\φ r d'}):FMid P w K mg base (k+1) x ps T:=by
 refine⟨f,fd,F.ok S (λvs H Q xs h=>?_) (λqZ A outer s H vs Q xs hr h=>?_),b,F.kp,m⟩
 ·obtain⟨d,a,c,v,B,z,A,φ,rfl,_⟩:=h;exact len.symm
 obtain⟨d,a,c,v,B,z,y,φ,rfl,ft,M,I,G,hT,kk⟩:=h;obtain⟨t,R,V⟩:=h1 qZ A outer s H xs d a c φ hr hT;refine⟨bx K (without y H) 1 t,R ⟨without y H,zaA⟩,yx N.length [a,d,c],[],y,d,v,Hl Y ft M I G,_,V,λ_ _ _ _ _ _ _ q=>q.elim,λ_ _ _ _ _ _ _ q=>q.elim,λ_ _ _ _ _ _ _ q=>q.elim,λu e ρ' σ' H' o' A' d2 l L re O=>?_⟩;obtain⟨d',es,h'⟩:=O;cases s2_ es l.hd
 obtain⟨g,ds⟩:=T5 ft l;exact kk _ _ _ H' A' g l.ft l.ndA ds L re h'
section
variable{σ':St}{ρ':DE}{o o':List (Nat×Addr)}{l2:Nat}{A A2:List Addr}{d d2:D}{v2:V}
def REnv.move(R:REnv K H_ H Y U o)(same:Same H_ H')(own:∀ p∈o',H_ p.2=none/\∃ u,H' p.2=some u/\(∀ E,u≠.tup E)/\∀ ob w,u≠.frz ob w)(l:(o'.map Prod.snd).Nodup)(g:Grow (o.map Prod.snd) (o'.map Prod.snd) H H')(j:∀ i r,ρ'[i]?=some (some r)->U[i]?=some (some r)/\σ'[i]?=Y[i]?/\∀ a,(i,a)∈o->(i,a)∈o'/\H' a=H a)(len:σ'.length=ρ'.length):REnv K H_ H' σ' ρ' o' where
 same:=same
 fresh:=λp d=>(own p d).1
 trk:=λp d=>let ⟨u,h,_⟩:=(own p d).2;⟨u,h⟩
 mtb:=λp d=>by
  obtain⟨_,u,h,x,v⟩:=own p d;refine⟨λE z=>?_,λob w z=>?_⟩
  ·rw[h]at z;cases z;exact x _ rfl
  rw[h]at z;cases z;exact v _ _ rfl
 nda:=l
 len:=len
 slots:=λi r e=>by
  obtain⟨e1,e2,e3⟩:=j i r e;obtain⟨w,B,q⟩:=R.slots i r e1;refine⟨w,by rw[e2];exact B,?_⟩
  rcases q with⟨k,q⟩|⟨k,a,D,m,c⟩
  ·exact .inl ⟨k,RepN.grow g _ _ q⟩
  obtain⟨m',y⟩:=e3 a m;exact .inr ⟨k,a,D,m',c.grow (λu h=>by rw[y];exact h) g⟩
def ST.own(S:ST K H_ H Y U o l A d v):∀p∈o++tg l A,H_ p.2=none/\∃u,H p.2=some u/\(∀E,u≠.tup E)/\∀ob w,u≠.frz ob w:=λp a=>by
 obtain⟨u,hu⟩:=S.Q.trk p a;obtain⟨m1,m2⟩:=S.Q.mtb p a;exact⟨S.Q.fresh p a,u,hu,λE z=>m1 E (by rw[hu,z]),λob w z=>m2 ob w (by rw[hu,z])⟩
def Wv{p:Nat×Addr}:p∈tg l A ↔ p.1=l/\p.2∈A:=by
 unfold tg;rw[zah];exact⟨λ⟨a,d,e⟩=>e▸⟨rfl,d⟩,λ⟨J,h2⟩=>⟨p.2,h2,by rw[<- J]⟩⟩
def uo(l:Nat)(A:List Addr)(o:List (Nat×Addr)):(tg l A++o).map Prod.snd=A++o.map Prod.snd:=by
 rw[zMa,Hh]
def U0{i:Nat}{r:EV}(h:(hid l (hid l2 U))[i]?=some (some r)):i≠l/\i≠l2/\U[i]?=some (some r):=by
 obtain⟨J,h2⟩:=j5 h;obtain⟨d,a⟩:=j5 h2;exact⟨J,d,a⟩
def ST.park(S:ST K H_ H Y U o l A d v)(I:l2<U.length)(x:l≠l2)(s:Same H H')(f:Ft K H' d2 v2 A2)(B:A2.Nodup)(q:∀ a∈A2,H a=none):ST K H_ H' (Y.set l2 (some v2)) (hid l2 U) (tg l2 A2++o) l A d v:=by
 have y:=S.to s;refine⟨S.Q.move (S.Q.same.trans s) (λp j=>?_) ?_ ⟨λb u g n=>⟨s _ _ g,λz=>?_⟩,λb E g=>s _ _ g,λb ob u g=>s _ _ g⟩ (λi r e=>?_) ?_,?_,?_,y.ft⟩
 ·rw[zbN]at j;rcases zas.mp j with j|j
  ·obtain⟨_,k⟩:=Wv.mp j;obtain⟨u,hu,G,D⟩:=Ft.dom _ _ _ f _ k;exact⟨S.Q.same.free (q _ k),u,hu,G,D⟩
  exact y.own p j
 ·rw[zbN,uo,zaO];exact⟨B,S.Q.nda,λa k b g e=>by
   subst e;obtain⟨p,j,rfl⟩:=zah.mp g;obtain⟨u,hu⟩:=S.Q.trk p j;rw[q _ k]at hu;cases hu⟩
 ·rw[zbN,uo]at z;rcases zas.mp z with z|z
  ·rw[q b z]at g;cases g
  exact n z
 ·obtain⟨J,h2,h1⟩:=U0 e;exact⟨by rw[dg J];exact h1,zaC (Ne.symm h2),λa k=>⟨by rw[zbN];exact zaE _ k,by
   obtain⟨u,hu⟩:=S.Q.trk (i,a) k;rw[hu];exact s _ _ hu⟩⟩
 ·rw[yk,yk,zaF,zaF,zaF];have:=S.Q.len;rw[yk,zaF]at this;exact this
 ·rw[dg x];exact S.hd
 rw[zaC (Ne.symm x)];exact S.hv
def ST.flip(S:ST K H_ H Y U (tg l2 A2++o) l A d v)(x:l2<U.length)(B:l≠l2)(q:Y[l2]?=some (some v2))(f:Ft K H d2 v2 A2):ST K H_ H Y (hid l (setS U l2 (dv d2))) (tg l A++o) l2 A2 d2 v2:=by
 have k:∀p,p∈(tg l A++o)++tg l2 A2 ↔ p∈(tg l2 A2++o)++tg l A:=λp=>by simp only[zas];exact⟨λz=>by rcases z with(z|z)|z <;> simp[z],λz=>by rcases z with(z|z)|z <;> simp[z]⟩
 have D:∀a,a∈((tg l A++o)++tg l2 A2).map Prod.snd ↔ a∈((tg l2 A2++o)++tg l A).map Prod.snd:=λa=>by
  rw[zah,zah];exact⟨λ⟨p,g,e⟩=>⟨p,(k p).mp g,e⟩,λ⟨p,g,e⟩=>⟨p,(k p).mpr g,e⟩⟩
 refine⟨S.Q.move S.Q.same (λp g=>S.own p ((k p).mp g)) ?_ ⟨λb u j n=>⟨j,λz=>n ((D b).mp z)⟩,λb E j=>j,λb ob u j=>j⟩ (λi r e=>?_) ?_,?_,q,f⟩
 ·have p:=S.Q.nda;refine(List.Perm.nodup_iff (List.Perm.map _ ?_)).mp p;exact(List.perm_append_comm).trans (by rw[zbN];exact List.Perm.append_left _ List.perm_append_comm)
 ·obtain⟨J,h2,y⟩:=U0 e;rw[ym,zaC (Ne.symm J)]at y;exact⟨by rw[dg h2];exact y,rfl,λa G=>⟨(k _).mpr G,rfl⟩⟩
 ·rw[yk,yk,zaF,zaF,ym,zaF];have:=S.Q.len;rw[yk,zaF]at this;exact this
 rw[dg (Ne.symm B),ym,zaL x]
def ST.gone(S:ST K H_ H Y U (tg l2 A2++o) l A d v)(h1:l2<U.length)(O:l≠l2)(I:Y[l2]?=some (some v2))(f:Ft K H d2 v2 A2)(s:Same (without A H) H'):ST K H_ H' Y (hid l (setS U l2 (dv d2))) o l2 A2 d2 v2:=by
 have x:=S.Q.nda;rw[yo,uo,zaO,zaO]at x;have q:∀b u,H b=some u->b∉A->H' b=some u:=λb u g n=>s b u (by rw[y3 n];exact g)
 have M:∀a∈A2,a∉A:=λa k g=>x.2.2 a (zaI _ k) a g rfl;have dO:∀a∈o.map Prod.snd,a∉A:=λa k g=>x.2.2 a (zaE _ k) a g rfl;have R:Ft K H' d2 v2 A2:=Ft.keep ⟨λb E g=>q b _ g λz=>by
   obtain⟨w,j,G,_⟩:=Ft.dom _ _ _ S.ft b z;rw[g]at j;cases j;exact G _ rfl,λb ob w g=>q b _ g λz=>by
   obtain⟨N,j,_,D⟩:=Ft.dom _ _ _ S.ft b z;rw[g]at j;cases j;exact D _ _ rfl⟩ _ _ _ (λa k u hu=>q a u hu (M a k)) f
 refine⟨S.Q.move ((xk S).trans s) (λp L=>?_) ?_ ⟨λb u g n=>?_,λb E g=>q b _ g λz=>?_,λb ob u g=>q b _ g λz=>?_⟩ (λi r e=>?_) ?_,?_,I,R⟩
 ·have y:p∈(tg l2 A2++o)++tg l A:=by
   rcases zas.mp L with z|z
   ·simp[z]
   simp[z]
  obtain⟨J,u,h2,B⟩:=S.own p y;refine⟨J,u,q _ _ h2 ?_,B⟩;rcases zas.mp L with z|z
  ·exact dO _ (zah.mpr ⟨p,z,rfl⟩)
  exact M _ (Wv.mp z).2
 ·rw[yo,zaO];exact⟨x.1.2.1,x.1.1,λa k b g e=>x.1.2.2 b g a k e.symm⟩
 ·rw[yo,uo,zas,zas]at n;refine⟨q b u g λz=>n (.inr z),λz=>n (.inl ?_)⟩;rw[yo]at z;rcases zas.mp z with z|z
  ·exact .inr z
  exact .inl z
 ·obtain⟨w,j,G,_⟩:=Ft.dom _ _ _ S.ft b z;rw[g]at j;cases j;exact G _ rfl
 ·obtain⟨N,j,_,D⟩:=Ft.dom _ _ _ S.ft b z;rw[g]at j;cases j;exact D _ _ rfl
 ·obtain⟨J,h2,B⟩:=U0 e;rw[ym,zaC (Ne.symm J)]at B;refine⟨by rw[dg h2];exact B,rfl,λa k=>?_⟩
  have y:(i,a)∈o:=by
   rcases zas.mp k with z|z
   ·rcases zas.mp z with z|z
    ·exact absurd (Wv.mp z).1 J
    exact z
   exact absurd (Wv.mp z).1 h2
  refine⟨zaI _ y,?_⟩;obtain⟨_,u,hu,_⟩:=S.own (i,a) k;rw[hu];exact q _ _ hu (dO _ (zah.mpr ⟨(i,a),y,rfl⟩))
 ·rw[yk,yk,zaF,zaF,ym,zaF];have:=S.Q.len;rw[yk,zaF]at this;exact this
 rw[dg (Ne.symm O),ym,zaL h1]
end
structure FMZ(P:Program)(w:World)(K:W.Frag)(mg:Str->Option Value)(base:Heap)(k:Nat)(C:Addr)(ns:List Str)(m:Str)(ps:List Str)(T:FTZ):Prop where
 ex:∃f fd,FnOk P w K mg base CX0 k f fd ps (spZ K ps.length T)/\wq K fd ps []/\Meth K C m f
 no:m∉ns
variable{l2:Nat}
section
variable{x y z m:Str}{e e1 e2 m1 m2:Expr}{t1 t2:TC1}{k:Nat}{p np apos cpos pos pos':Pos}
def cRet(l:Nat):TC1:=λU φ=>∃d,slot U l=some (dv d)/\φ d
def Mp(j:X.N[l]?=some x:=by rfl)(hv:Vis X.env.scope x:=by walk_at "o")(hd:D_ x:=by decide)(e:(x==("__classdict__" : Str))=false:=by decide):EC M l X (.Name x p) (cRet l):=λH_=>impE (vi j hv hd e) λY H Q q=>by
 obtain⟨U,o,A,d,v,S,φ,⟨d',es,a⟩,kk⟩:=q;cases s2_ es S.hd
 exact⟨v,S.hv,kk v d H A (u5 _ _) S.ft S.ndA (λb g=>wn g) a⟩
def cLst(t:TC1):TC1:=λU φ=>t U λr=>φ (.lst [r])
def z1f{t:TC1}(h:EC M l X e t)(h1:starEach [e] X.env=(false,eval e X.env)::starEach [] X.env:=by rfl):EC M l X (.List [e] pos) (cLst t):=λH_=>impE (Ru (yr (h H_) uv h1)) λY H Q q=>by
 obtain⟨U,o,A,d,v,S,φ,g,kk⟩:=q;refine⟨U,o,A,d,v,S,_,g,λu r H1 y B f G L J=>⟨by rw[zaV];simp,λp j=>?_⟩⟩
 have n:=y4 j (HO.lst [u]);refine kk (.ref p) (.lst [r]) _ (p::y) (B.trans n) ⟨p,[u],y,rfl,zm,rfl,u,[],y,[],rfl,by simp,Ft.keep (Gt.same n) _ _ _ (λa _ x I=>n _ _ I) f,rfl,rfl⟩ (zaR.mpr ⟨λz=>?_,G⟩) (λb k=>?_) J
 ·obtain⟨w,D,_⟩:=Ft.dom _ _ _ f p z;rw[j]at D;cases D
 rcases zam.mp k with rfl|k
 ·exact B.free j
 exact L b k
def Eu(K:W.Frag)(H_:Hp)(l l2:Nat)(t1 t2:TC1):TE:=λY H Q=>∃U o A d v A2 d2 v2,ST K H_ H Y U (tg l2 A2++o) l A d v/\l2<U.length/\l≠l2/\Y[l2]?=some (some v2)/\Ft K H d2 v2 A2/\A2.Nodup/\∃φ:D->Prop,t1 U (λr1=>∃E,r1=.lst E/\E.length<=1000/\t2 (hid l (setS U l2 (dv d2))) λr2=>∃ys,r2=.lst ys/\ys.length<=1000/\φ (.lst (E++ys))) /\
 ∀u r H' A',Same H_ H'->Ft K H' r u A'->A'.Nodup->(∀b∈A',H_ b=none)->φ r->Q u H'
def Hx(J:EC M l X e1 t1)(h2:EC M l2 X e2 t2)(H_:{H:Hp // M H}):PE X (.BinOp e1 .Add e2 pos) (Eu X.K H_.1 l l2 t1 t2):=impE (Ki N7 (J H_) (h2 H_)) λY H Q q=>by
 obtain⟨U,o,A,d,v,A2,d2,v2,S,ds,ne,W,f,a3,φ,V,kk⟩:=q;refine⟨U,_,A,d,v,S,_,V,λu1 r1 H1 B1 s1 f1 O I r=>?_⟩;obtain⟨E,rfl,lx,r⟩:=r;have h1:=S.gone ds ne W f s1;refine⟨_,o,A2,d2,v2,h1,_,r,λu2 r2 H2 B2 s2 f2 N G k=>?_⟩;obtain⟨ys,rfl,ly,k⟩:=k;have R:∀b u,H1 b=some u->b∉A2->H2 b=some u:=λb u g n=>s2 b u (by rw[y3 n];exact g)
 have dA:∀a∈A2,H a≠none:=λa D z=>by
  obtain⟨w,j,_⟩:=Ft.dom _ _ _ f a D;rw[z]at j;cases j
 have nd:=S.Q.nda;rw[yo,uo,zaO,zaO]at nd;have b1:∀b∈B1,b∉A2:=λb g z=>by
  have:=I b g;by_cases hA:b∈A
  ·exact nd.2.2 b (zaI _ z) b hA rfl
  rw[y3 hA]at this;exact dA b z this
 have gt:Gt H1 H2:=⟨λb E g=>R b _ g λz=>by
   obtain⟨w,j,O,_⟩:=Ft.dom _ _ _ h1.ft b z;rw[g]at j;cases j;exact O _ rfl,λb ob w g=>R b _ g λz=>by
   obtain⟨w',j,_,N⟩:=Ft.dom _ _ _ h1.ft b z;rw[g]at j;cases j;exact N _ _ rfl⟩
 have a0:=Ft.keep gt _ _ _ (λa D u hu=>R a u hu (b1 a D)) f1;have dB:∀b∈B1,b∉B2:=λb g z=>by
  have:=G b z;rw[y3 (b1 b g)]at this;obtain⟨w,j,_⟩:=Ft.dom _ _ _ f1 b g;rw[this]at j;cases j
 obtain⟨a1,B,C1,rfl,q1,rfl,g1⟩:=a0;obtain⟨a2,y,C2,rfl,q2,rfl,g2⟩:=f2;refine⟨a1,a2,B,y,rfl,rfl,q1,q2,by rw[g1.length,g2.length,zaV];omega,λp L=>?_⟩
 have n:=y4 L (HO.lst (B++y));have sb:Same H_.1 H2:=(xk h1).trans s2;have pn:∀b∈C1++C2,b≠p:=λb g e=>by
  subst e;rcases zas.mp g with z|z
  ·obtain⟨w,j,_⟩:=Fts.dom _ _ _ g1 b z;rw[L]at j;cases j
  obtain⟨w,j,_⟩:=Fts.dom _ _ _ g2 b z;rw[L]at j;cases j
 refine kk (.ref p) (.lst (E++ys)) _ (p::(C1++C2)) (sb.trans n) ⟨p,_,_,rfl,zm,rfl,Fts.keep (Gt.same n) _ _ _ (λa _ x hx=>n _ _ hx) (g1.app g2)⟩ (zaR.mpr ⟨λz=>pn p z rfl,?_⟩) (λb g=>?_) k
 ·rw[zaO];exact⟨(zaR.mp O).2,(zaR.mp N).2,λa D b g e=>dB a (zal _ D) (e▸zal _ g)⟩
 rcases zam.mp g with rfl|g
 ·exact sb.free L
 rcases zas.mp g with z|z
 ·exact(xk S).free (I b (zal _ z))
 exact(xk h1).free (G b (zal _ z))
def cTwo(l l2:Nat)(C:Addr)(ns:List Str)(T:FTZ)(g e:TQ)(t1 t2:TC1):TC1:=λU φ=>l2<U.length/\∃Z,slot U l=some (dv (.ob C ns Z))/\T [.ob C ns Z] λd2=>g (hid l2 U) λ_ d=>∃d1,slot d l=some (dv d1)/\l2<d.length/\e (hid l (setS d l2 (dv d2))) λ_ a=>∃d2',slot a l2=some (dv d2')/\l<a.length/\l2<a.length /\
 t1 (hid l2 (setS a l (dv d1))) (λr1=>∃E,r1=.lst E/\E.length<=1000/\t2 (hid l (setS (hid l2 (setS a l (dv d1))) l2 (dv d2'))) λr2=>∃ys,r2=.lst ys/\ys.length<=1000/\φ (.lst (E++ys)))
def Bi{pl:Sem Bool}{C:Addr}{ns:List Str}{T:FTZ}{q1 q2:TQ}{p1 p2 p3 p4:Pos}(O:CO X.K C ns)(F:FMZ X.prog X.w X.K X.mg X.base k C ns m [y] T)(hr:Room k X.A)(G:l≠l2)(a6:X.N.Nodup)(a3:EQ M l X m1 q1)(a0:EQ M l2 X m2 q2)(J:EC M l X e1 t1)(h2:EC M l2 X e2 t2)(hN:X.N[l]?=some x:=by rfl)(a7:X.N[l2]?=some z:=by rfl)(hv:Vis X.env.scope x:=by walk_at "o")(hd:D_ x:=by decide)(a4:(x==("__classdict__" : Str))=false:=by decide)(g:Loc X.env.scope z:=by first|exact zeJ rfl|exact zdJ rfl)(hf:X.fn z=true\/X.env.scope.names.lookup z=some .local:=by first|exact .inl rfl|exact .inr rfl|assumption)(hs:swapsWith (.Call (.Attribute (.Name x np) m apos) [] [] cpos) (some (.Name z p1)) p2.line X.env=pure false:=by rfl)(ht:eval (.Call (.Attribute (.Name x np) m apos) [] [] cpos) X.env=(do
   let ov <- eval (.Name x np) X.env
   standAt apos.atName
   let (f,first) <- holding [ov] (getMethod ov m pl)
   callWith cpos f first (backTo cpos (starEach [] X.env)) (backToKw cpos (keywordEach [] X.env))):=by rfl)(ds:swapsWith m1 none p3.line X.env=pure false:=by rfl)(W:swapsWith m2 none p4.line X.env=pure false:=by rfl) :
  QC M l X [.Assign [.Name z p1] (.Call (.Attribute (.Name x np) m apos) [] [] cpos) p2,.Expr m1 p3,.Expr m2 p4,.Return (some (.BinOp e1 .Add e2 pos)) pos'] (cTwo l l2 C ns T q1 q2 t1 t2):=λH_=>by
 obtain⟨f,fd,ok,b,hm⟩:=F.ex;refine gx (wc (d9 (i:=l2) a6 a7 g (Xo (vi hN hv hd a4) O.cl hm ok hr b .nil gm ht) hs hf) (wc (gk (a3 H_) ds) (wc (gk (a0 H_) W) (sj (j9 (Hx J h2 H_)))))) λDz Y H h=>?_;obtain⟨U,o,A,d,v,S,φ,⟨j,Z,es,hT⟩,kk⟩:=h;have e0:some (dv (.ob C ns Z))=some (dv d):=by rw[<- es];exact ya S.hd
 cases e0
 obtain⟨a,dx,vs,B,rfl,qa,ln,nn,eA,r⟩:=id S.ft;refine⟨.ref a,S.hv,a,dx,_,rfl,qa,u7 F.no,?_⟩;refine⟨[.ob C ns Z],_,rfl,⟨_,_,rfl,Ft.rep _ _ _ (λ_ _ z=>absurd z aE) S.ft,rfl⟩,hT,λu d2 A2 H1 s1 f2 n2 q J=>?_⟩
 have S1:=S.park j G s1 f2 n2 q;refine⟨_,_,A,_,_,S1,_,J,λ_ _ c2 H2 A1 d1 g1 I _ _ h2=>?_⟩;obtain⟨c0,b0,R,h2⟩:=h2;have e1:some (dv c0)=some (dv d1):=by rw[<- b0];exact ya I.hd
 cases e1
 have V:(Y.set l2 (some u))[l2]?=some (some u):=zaL (by
  have:=S.Q.len;rw[yk,zaF]at this;rw[this];exact j)
 have b2:∀a∈A2,a∉A:=λa e hb=>by
  obtain⟨w,hw,_⟩:=Ft.dom _ _ _ S.ft a hb;rw[q a e]at hw;cases hw
 have a8:Ft X.K H2 d2 u A2:=Ft.keep g1.gt _ _ _ (λa e x g=>(g1.keep a x g (b2 a e)).1) f2;have S3:=I.flip R G V a8;refine⟨_,_,A2,_,_,S3,_,h2,λ_ _ c1 H3 A3 d3 g3 D _ _ h3=>?_⟩;obtain⟨b1,a9,L,h1,h3⟩:=h3;have e3:some (dv b1)=some (dv d3):=by rw[<- a9];exact ya D.hd
 cases e3
 have dd:∀a∈A1,a∉A2:=λa e hb=>by
  have:=S3.dis a hb;rw[uo]at this;exact this (zaI _ e)
 have f3:Ft X.K H3 d1 (.ref a) A1:=Ft.keep g3.gt _ _ _ (λa e x g=>(g3.keep a x g (dd a e)).1) I.ft;have S5:=D.flip L (Ne.symm G) I.hv f3;exact⟨_,o,A1,d1,_,A3,d3,u,S5,by rw[yk,zaF,ym,zaF];exact h1,G,D.hv,D.ft,D.ndA,φ,h3,kk⟩
end
section
variable{x y z m f:Str}{e1 e2:Expr}{t1 t2:TC1}{k:Nat}{np apos cpos pos pos':Pos}{ns:List Str}
def z3t(l l2:Nat)(C:Addr)(ns:List Str)(T:FTZ)(t1 t2:TC1):TC1:=λU φ=>l2<U.length/\∃Z,slot U l=some (dv (.ob C ns Z))/\T [.ob C ns Z] λd2 =>
 t1 (hid l2 U) (λr1=>∃E,r1=.lst E/\E.length<=1000/\t2 (hid l (setS (hid l2 U) l2 (dv d2))) λr2=>∃ys,r2=.lst ys/\ys.length<=1000/\φ (.lst (E++ys)))
def Fq{pl:Sem Bool}{T:FTZ}{I p2:Pos}(O:CO X.K C ns)(F:FMZ X.prog X.w X.K X.mg X.base k C ns m [y] T)(hr:Room k X.A)(L:l≠l2)(q:X.N.Nodup)(J:EC M l X e1 t1)(h2:EC M l2 X e2 t2)(hN:X.N[l]?=some x:=by rfl)(D:X.N[l2]?=some z:=by rfl)(hv:Vis X.env.scope x:=by walk_at "o")(hd:D_ x:=by decide)(j:(x==("__classdict__" : Str))=false:=by decide)(hx:Loc X.env.scope z:=by first|exact zeJ rfl|exact zdJ rfl)(hf:X.fn z=true\/X.env.scope.names.lookup z=some .local:=by first|exact .inl rfl|exact .inr rfl|assumption)(hs:swapsWith (.Call (.Attribute (.Name x np) m apos) [] [] cpos) (some (.Name z I)) p2.line X.env=pure false:=by rfl)(ht:eval (.Call (.Attribute (.Name x np) m apos) [] [] cpos) X.env=(do
   let h1 <- eval (.Name x np) X.env
   standAt apos.atName
   let (f,first) <- holding [h1] (getMethod h1 m pl)
   callWith cpos f first (backTo cpos (starEach [] X.env)) (backToKw cpos (keywordEach [] X.env))):=by rfl) :
  QC M l X [.Assign [.Name z I] (.Call (.Attribute (.Name x np) m apos) [] [] cpos) p2,.Return (some (.BinOp e1 .Add e2 pos)) pos'] (z3t l l2 C ns T t1 t2):=λH_=>by
 obtain⟨f,fd,ok,b,hm⟩:=F.ex;refine gx (wc (d9 (i:=l2) q D hx (Xo (vi hN hv hd j) O.cl hm ok hr b .nil gm ht) hs hf) (sj (j9 (Hx J h2 H_)))) λDz Y H h=>?_;obtain⟨U,o,A,d,v,S,φ,⟨e,Z,es,hT⟩,kk⟩:=h;have e0:some (dv (.ob C ns Z))=some (dv d):=by rw[<- es];exact ya S.hd
 cases e0
 obtain⟨a,dx,vs,B,rfl,ds,ln,nn,eA,r⟩:=id S.ft;refine⟨.ref a,S.hv,a,dx,_,rfl,ds,u7 F.no,?_⟩;refine⟨[.ob C ns Z],_,rfl,⟨_,_,rfl,Ft.rep _ _ _ (λ_ _ z=>absurd z aE) S.ft,rfl⟩,hT,λu d2 A2 H1 W V R G J=>?_⟩
 have S1:=S.park e L W V R G;have g:(Y.set l2 (some u))[l2]?=some (some u):=zaL (by
  have:=S.Q.len;rw[yk,zaF]at this;rw[this];exact e)
 exact⟨_,o,A,_,_,A2,d2,u,S1,by rw[yk,zaF];exact e,L,g,V,R,φ,J,kk⟩
end
abbrev FTT:=D->D->(D->Prop)->Prop
def spT(K:W.Frag)(T:FTT):Sp:=λvs H Q _=>∃d c v vc A φ,vs=[v,vc]/\Ft K H d v A/\A.Nodup/\yz c/\Rep K H [] c vc/\T d c φ /\
 ∀u r H' A',Same (without A H) H'->Ft K H' r u A'->A'.Nodup->(∀b∈A',without A H b=none)->φ r->Q u H'
structure FMT(P:Program)(w:World)(K:W.Frag)(mg:Str->Option Value)(base:Heap)(k:Nat)(C:Addr)(ns:List Str)(m:Str)(ps:List Str)(T:FTT):Prop where
 ex:∃f fd,FnOk P w K mg base CX0 k f fd ps (spT K T)/\wq K fd ps []/\Meth K C m f
 no:m∉ns
section
variable{x y z m f g:Str}{e a1 a2 a5 e1 e2:Expr}{k:Nat}{ps:List Str}{p np apos pos:Pos}{ns:List Str}
def z3u(l:Nat)(C:Addr)(ns:List Str)(T:FTT)(te:TQ):TC1:=λU φ=>∃Z,slot U l=some (dv (.ob C ns Z))/\te U λc a=>∃d1,slot a l=some (dv d1)/\T d1 c φ
def Dv{pl:Sem Bool}{T:FTT}{te:TQ}(O:CO X.K C ns)(F:FMT X.prog X.w X.K X.mg X.base k C ns m ps T)(hr:Room k X.A)(he:EQ M l X e te)(hN:X.N[l]?=some y:=by rfl)(hv:Vis X.env.scope y:=by walk_at "o")(hd:D_ y:=by decide)(D:(y==("__classdict__" : Str))=false:=by decide)(j:starEach [e] X.env=(false,eval e X.env)::starEach [] X.env:=by rfl)(z:(backTo pos (starEach [] X.env)).any (·.1)=false:=by rfl)(ht:eval (.Call (.Attribute (.Name y np) m apos) [e] [] pos) X.env=(do
   let W <- eval (.Name y np) X.env
   standAt apos.atName
   let (f,first) <- holding [W] (getMethod W m pl)
   callWith pos f first (backTo pos (starEach [e] X.env)) (backToKw pos (keywordEach [] X.env))):=by rfl) :
  EC M l X (.Call (.Attribute (.Name y np) m apos) [e] [] pos) (z3u l C ns T te):=λH_=>by
 obtain⟨f,fd,ok,b,hm⟩:=F.ex;refine impE (Tj (vi hN hv hd D) O.cl hm ok hr b .nil gm (yr (he H_) uv j) j z ht) λY H Q q=>?_;obtain⟨U,o,A,d,v,S,φ,⟨Z,h1,x⟩,kk⟩:=q;have e0:some (dv d)=some (dv (.ob C ns Z)):=by rw[<- h1];exact(ya S.hd).symm
 cases e0
 obtain⟨a,dx,E,B,ev,qa,ln,nn,eA,r⟩:=id S.ft;refine⟨v,S.hv,a,dx,_,ev,qa,u7 F.no,U,o,A,_,v,S,_,x,λu c a0 H1 ds d1 g1 R pc rc J=>?_⟩;obtain⟨L,I,hT⟩:=J;have e1:some (dv L)=some (dv d1):=by rw[<- I];exact ya R.hd
 cases e1
 refine⟨d1,c,v,u,ds,_,rfl,R.ft,R.ndA,pc,rc,hT,λu2 r2 H2 A2 s2 f2 n2 G h2=>?_⟩;have V:Same (without A H) (without ds H1):=λb w g=>by
  by_cases hA:b∈A
  ·rw[wn hA]at g;cases g
  rw[y3 hA]at g;obtain⟨k1,k2⟩:=g1.keep b w g hA;rw[y3 k2];exact k1
 exact kk u2 r2 H2 A2 (V.trans s2) f2 n2 (λb g=>V.free (G b g)) h2
theorem Fts.two{K:W.Frag}{H:Hp}:∀{Z:List D}{E:List V}{A:List Addr}{i j:Nat}{d e:D},Fts K H Z E A->i<j->Z[i]?=some d->Z[j]?=some e->∃w u B C,E[i]?=some w/\E[j]?=some u/\Ft K H d w B/\Ft K H e u C/\List.Sublist (B++C) A
 |[],_,_,_,_,_,_,_,_,h,_=>by cases h
 |d0::Z,E,A,0,0,_,_,_,h,_,_=>absurd h (zcS _)
 |d0::Z,E,A,0,j+1,d,e,h,_,J,h2=>by
  obtain⟨v,r,B,C,rfl,rfl,q,t⟩:=h;cases (show some d0=some d from J);obtain⟨w,k,a,g,z,rfl,f,_⟩:=Fts.foc t (show Z[j]?=some e from h2);exact⟨v,w,B,k,rfl,z,q,f,List.Sublist.append (List.Sublist.refl _) ((List.sublist_append_right a k).trans (List.sublist_append_left _ _))⟩
 |d0::Z,E,A,i+1,0,_,_,_,h,_,_=>absurd h (zdT _)
 |d0::Z,E,A,i+1,j+1,d,e,h,hl,J,h2=>by
  obtain⟨v,r,B,C,rfl,rfl,q,t⟩:=h;obtain⟨w,u,a,g,e1,e2,y,x,l⟩:=Fts.two (i:=i) (j:=j) t (Nat.lt_of_succ_lt_succ hl) J h2;exact⟨w,u,a,g,e1,e2,y,x,l.trans (List.sublist_append_right _ _)⟩
def z1o(l:Nat)(C:Addr)(ns:List Str)(f g:Str)(ta tb tc:TD):TC1:=λU φ=>ta U λr1=>yz r1.d/\tb U λr2=>yz r2.d/\∃Z i j x y,slot U l=some (dv (.ob C ns Z))/\ixF ns f=some i/\ixF ns g=some j/\i<j/\Z[i]?=some x/\Z[j]?=some y/\tc U λa=>yz a.d/\φ (.tup [r1.d,r2.d,x,y,a.d])
def Du {x1} {D e I G:Pos} {ta tb tc:TD} (O:CO X.K C ns) (ha:ED M X a1 ta) (hb:ED M X a2 tb) (hc:ED M X a5 tc) (hN:X.N[l]?=some y:=by rfl) (hv:Vis X.env.scope y:=by walk_at "o") (hd:D_ y:=by decide) (ds:(y==("__classdict__" : Str))=false:=by decide)
  (b0:attributeBase (.Name y D) f X.env (eval (.Name y D) X.env)=eval (.Name y D) X.env:=by rfl) (a9:attributeBase (.Name y e) g X.env (eval (.Name y e) X.env)=eval (.Name y e) X.env:=by rfl)
  (J:starEach [a1,a2,.Attribute (.Name y D) f I,.Attribute (.Name y e) g G,a5] X.env=(false,eval a1 X.env)::starEach [a2,.Attribute (.Name y D) f I,.Attribute (.Name y e) g G,a5] X.env:=by rfl)
  (h2:starEach [a2,.Attribute (.Name y D) f I,.Attribute (.Name y e) g G,a5] X.env=(false,eval a2 X.env)::starEach [.Attribute (.Name y D) f I,.Attribute (.Name y e) g G,a5] X.env:=by rfl)
  (h3:starEach [.Attribute (.Name y D) f I,.Attribute (.Name y e) g G,a5] X.env=(false,eval (.Attribute (.Name y D) f I) X.env)::starEach [.Attribute (.Name y e) g G,a5] X.env:=by rfl)
  (h4:starEach [.Attribute (.Name y e) g G,a5] X.env=(false,eval (.Attribute (.Name y e) g G) X.env)::starEach [a5] X.env:=by rfl) (h5:starEach [a5] X.env=(false,eval a5 X.env)::starEach [] X.env:=by rfl) :
  EC M l X (.Tuple [a1,a2,.Attribute (.Name y D) f I,.Attribute (.Name y e) g G,a5] x1 pos) (z1o l C ns f g ta tb tc):=λH_ =>
 impE (N2 (yr (ha H_) (yr (hb H_) (yr (V7 (vi hN hv hd ds) b0) (yr (V7 (vi hN hv hd ds) a9) (yr (hc H_) uv h5) h4) h3) h2) J)) λY H Q q=>by
  obtain⟨U,o,A,d,v,S,φ,a7,kk⟩:=q;refine⟨U,o,S.R,_,a7,λL r1 H1 s1 a6 k1=>⟨U,o,(S.to s1).R,_,k1.2,λv2 r2 H2 s2 a4 k2=>?_⟩⟩;have W:=s1.trans s2;have S2:=S.to W;obtain⟨p2,Z,i,j,x,y,es,ei,ej,a8,ex,ey,k3⟩:=k2;have e0:some (dv d)=some (dv (.ob C ns Z)):=by rw[<- es];exact(ya S.hd).symm
  cases e0
  obtain⟨a,dx,E,B,rfl,q,ln,nn,rfl,r⟩:=id S2.ft;have lx:ns.length=E.length:=by rw[ln,r.length]
  obtain⟨w,u,B1,C1,ew,eu,f1,f2,sl⟩:=Fts.two r a8 ex ey;refine⟨_,S.hv,a,C,dx,_,w,rfl,q,O.cl,O.na f (sk ei),by rw[xq ei lx];exact ew,_,S.hv,a,C,dx,_,u,rfl,q,O.cl,O.na g (sk ej),by rw[xq ej lx];exact eu,U,o,S2.R,_,k3,λh1 r5 H3 s3 a3 k5=>⟨by rw[zaV];simp,λp hp=>?_⟩⟩
  have n:=y4 hp (HO.tup [L,v2,w,u,h1]);have a0:=(W.trans s3).trans n;have k:=s3.trans n;have rp:∀{H1 H2:Hp}{O:List Addr}{r:EV}{v:V},RV X.K H1 H2 O r v->yz r.d->Same H2 (upd H3 p (.tup [L,v2,w,u,h1]))->Ft X.K (upd H3 p (.tup [L,v2,w,u,h1])) r.d v []:=λrv pr s=>RepN.ft (O:=[]) _ _ pr (RepN.keep (O:=[]) (Gt.same s) _ _ pr rv.view.rep0);have nd:=(zaR.mp S2.ndA);refine kk (.ref p) (.tup [r1.d,r2.d,x,y,r5.d]) _ (B1++C1) ((u5 _ _).trans a0) ⟨p,[L,v2,w,u,h1],rfl,⟨SqT.of zm,zm⟩,L,_,[],B1++C1,rfl,rfl,rp a6 k1.1 ((s2.trans s3).trans n),v2,_,[],B1++C1,rfl,rfl,rp a4 p2 k,w,_,B1,C1,rfl,rfl,Ft.keep (Gt.same k) _ _ _ (λb _ z hz=>k _ _ hz) f1,u,_,C1,[],rfl,by simp,Ft.keep (Gt.same k) _ _ _ (λb _ z hz=>k _ _ hz) f2,h1,[],[],[],rfl,rfl,rp a3 k5.1 n,rfl,rfl⟩ (sl.nodup nd.2) (λb hb=>wn (zal _ (sl.subset hb))) k5.2
end
def z0u{P:Program}{w:World}{K:W.Frag}{mg:Str->Option Value}{base:Heap}{x a m:Str}{st:Stmt}{f:Addr}{fd:FuncData}{N ps:List Str}{k:Nat}{T:FTT}{C:Addr}{ns:List Str}(F:Fun K x a st f fd)(S:zv N ps (ze st))(b:wq K fd ps [])(M:Meth K C m f)(G:m∉ns)(len:ps.length=2)(B:∀ (qZ:Value) (A:Around) (outer:List Env) (s:Shared) (H:Hp) (xs:XK) (d c:D) (φ:D->Prop),Room k (A.deeper (envOfC a (ze st) s.heap.objs.size f qZ))->yz c->T d c φ ->
   ∃ t,QC (λ_=>True) 0 (cxOf CX0 P w K mg base N a (ze st) f qZ A outer s H xs).nox (yu st) t/\t (yx N.length [d,c]) φ):FMT P w K mg base (k+1) C ns m ps T:=by
 refine⟨⟨f,fd,F.ok S (λvs H Q xs h=>?_) (λqZ A outer s H vs Q xs hr h=>?_),b,M⟩,G⟩
 ·obtain⟨d,c,v,e,A,φ,rfl,_⟩:=h;exact len.symm
 obtain⟨d,c,v,e,l,φ,rfl,ft,I,q,z,hT,kk⟩:=h;obtain⟨t,h1,L⟩:=B qZ A outer s H xs d c φ hr q hT;have R:=cj (N:=N) (Z:=[c]) (ws:=[e]) ft I ⟨e,[],rfl,RepN.pure _ _ q z,rfl⟩;exact⟨Nk K (without l H) 0 t,h1 ⟨without l H,zaA⟩,yx N.length [d,c],[],l,d,v,R,φ,L,λu r H' A' y j g O h'=>kk u r H' A' y j g O h'⟩
def M5{x e G y:Str}{st:Stmt}{rest:List Stmt}{f fI C:Addr}{fd B:FuncData}{N ps v:List Str}{k kI l:Nat}{T:FTZ}{TI:FTQ}{d0:D}{p1 p2 p3 p4:Pos}(F:Fun K x e st f fd)(S:zv N ps (ze st))(M:Mk K C fI)(FI:FnOk P w K mg base CX0 kI fI B v (spQ K 1 TI))(bI:wq K B v [])(mC:mg G=some (.ref C))(a6:kI<k)(hI:TI (.ob C [] []) [] λr d=>r=.non/\d=d0)(j:yu st=.Assign [.Name y p1] (.Call (.Name G p2) [] [] p3) p4::rest)(h1:N[l]?=some y)(O:Loc (ze st) y)(V:∀ (qZ:Value) (A:Around) (outer:List Env) (s:Shared) (H:Hp) (xs:XK),(cxOf CX0 P w K mg base N e (ze st) f qZ A outer s H xs).nox.fn y=true\/(ze st).names.lookup y=some .local)(hg:∀ (qZ:Value) (A:Around) (outer:List Env) (s:Shared) (H:Hp) (xs:XK),Gl (cxOf CX0 P w K mg base N e (ze st) f qZ A outer s H xs).nox G)(Y:D_ G)(qY:∀ (qZ:Value) (A:Around) (outer:List Env) (s:Shared) (H:Hp) (xs:XK) (Z:List D) (φ:D->Prop),Room k (A.deeper (envOfC e (ze st) s.heap.objs.size f qZ))->Z.length=ps.length->T Z φ ->
   ∃ t,QC (λ_=>True) l (cxOf CX0 P w K mg base N e (ze st) f qZ A outer s H xs).nox rest t/\t (setS (yx N.length Z) l (dv d0)) φ):FnOk P w K mg base CX0 (k+1) f fd ps (spZ K ps.length T):=by
 refine F.ok S (λvs H Q xs h=>?_) (λqZ A outer s H vs Q xs hr h=>?_)
 ·obtain⟨Z,φ,hl,r,_⟩:=h;rw[r.length,hl]
 obtain⟨Z,φ,hl,r,hT,kk⟩:=h;obtain⟨t,ht,hq⟩:=qY qZ A outer s H xs Z φ hr hl hT;rw[j];refine⟨_,wc (d9 (i:=l) S.nd h1 O (Kj M FI hr.d (hg qZ A outer s H xs) mC bI .nil gm Y) (by rfl) (V qZ A outer s H xs)) (ht ⟨H,zaA⟩),?_⟩
 intro a dx ha W L;have n1:=y4 W (HO.own a);have ds:upd H dx (.own a) a=none:=by rw[zj (Ne.symm L)];exact ha
 have n2:=y4 ds (HO.ins C dx []);have n:=n1.trans n2;have R0:=sx (N:=N) (Z:=Z) (vs:=vs) (H:=H) r;have R:l<N.length:=by
  rcases zcX l N.length with q|q
  ·exact q
  rw[zcM q]at h1;cases h1
 have sl:(ZZ.start N vs).length=N.length:=by
  have:=r.length;have:ps.length<=N.length:=by
   have:=zbZ List.length S.pre;rw[zcC]at this;omega
  unfold ZZ.start;rw[zLa,zLm,zbH];omega
 have dl:(yx N.length Z).length=N.length:=by rw[<- R0.len,sl]
 refine⟨.ob C [] [],[],.ref a,[],[a],_,rfl,rfl,⟨a,dx,[],[],rfl,zm,rfl,zcD,rfl,rfl,rfl⟩,by simp,rfl,hI,λu r' d' H' A' g ft nd fr pr rr h'=>?_⟩
 obtain⟨rfl,rfl⟩:=h';refine⟨rr,?_⟩;have s':Same H H':=λb u j=>(g.keep b u (n _ _ j) λz=>by rw[zaN.mp z,ha]at j;cases j).1
 have a4:∀b∈A',H b=none:=λb j=>(fr b j).elim (λz=>by rw[zaN.mp z];exact ha) λz=>n.free z
 exact⟨_,[],A',_,.ref a,ST.make R0 (by rw[dl];exact R) s' ft nd a4,φ,hq,λu r H2 A2 sm a0 I a3 h2=>kk u r A2 H2 sm a0 I a3 h2⟩
def c9:fillsNumberSlot (.type "tuple") "mul" = pure false :=
 PySem.fillsNumberSlot_seq (id:="tuple.__mul__") (r:=some (.builtin "tuple.__rmul__")) F.slot_tuple_mul.lookup aF F.slot_tuple_rmul.lookup aF
def V3:seqRepeat? (.type "tuple")=pure (some (.builtin "tuple.__mul__")):=by
 unfold seqRepeat?;rw[PySem.seqSlot_of (T:="tuple") (name:="__mul__") (id:="tuple.__mul__") F.slot_tuple_mul.lookup aF,PySem.seqSlot_of (T:="tuple") (name:="__rmul__") (id:="tuple.__rmul__") F.slot_tuple_rmul.lookup aF]
 rfl
def Vz(a:Int)(t:Tok)(l:Addr)(its:Array Value)(n:Nat)(dd:Option Addr)(e:Array (Option Value)) :
  Meets (Builtin.«int.__rmul__» ⟨[.int a t,.ref l],[]⟩) (λ_ R s=>s.heap.get? l=some {cls:=.type "tuple",dict:=dd,data:=.seq its n,slots:=e}/\R (.ok (.ret Value.notImplemented)) s) :=
 .of_wp λprog w A R s h=>by
  obtain⟨k,g,d,tk,j⟩:=s;obtain⟨hl,h⟩:=h;wp_walk;exact⟨_,rfl,h⟩
def F0(l:Addr)(its:Array Value)(n:Nat)(dd:Option Addr)(v:Array (Option Value))(k:Int)(t:Tok)(G:2<=k)(J:its.size*k.toNat<=sizeLine)(a:its.isEmpty=false) :
  Meets (Builtin.«tuple.__mul__» ⟨[.ref l,.int k t],[]⟩) (λ_ R s=>s.heap.get? l=some {cls:=.type "tuple",dict:=dd,data:=.seq its n,slots:=v}/\R (.ok (.ret (.ref s.heap.objs.size))) {s with heap:=s.heap.push {cls:=.type "tuple",data:=.seq ((List.replicate k.toNat its).foldl (·++·) #[])}}) :=
 .of_wp λprog w A R s h=>by
  obtain⟨D,g,d,tk,B⟩:=s;obtain⟨hl,h⟩:=h;have x:0<its.size:=by
   rcases Nat.eq_zero_or_pos its.size with z|z
   ·rw[Array.isEmpty_iff_size_eq_zero.mpr z]at a;cases a
   exact z
  have j:k.toNat<=sizeLine:=zak (Nat.le_mul_of_pos_left _ x) J;rw[zaV]at J j;have e:(k.toNat:Int)=k:=Int.toNat_of_nonneg aD
  have q:(its.size:Int)*k=((its.size*k.toNat:Nat):Int):=by rw[Int.natCast_mul,e]
  wp_walk;rw[zaJ (by simp;omega)]
  dsimp only
  refine zaa ?_;unfold Builtin.Tuple.tupleItemsOf;refine zaa (zcU hl rfl (zab ?_))
  try dsimp only
  rw[zaJ (by simp[a];omega)]
  try dsimp only
  rw[zaJ (by simp[a];omega)]
  try dsimp only
  rw[zaJ (by rw[q];omega)]
  try dsimp only
  rw[zaJ (λz=>by have:=zbU z;rw[q,zaV]at this;omega)]
  refine zaa ?_;unfold Builtin.Tuple.tupleExact;refine zbT (zab ⟨_,rfl,h⟩) ?_;have r:=jh its.toList k.toNat [];rw[List.nil_append]at r;have y:List.foldl (λu x2=>u++x2) #[] (List.replicate k.toNat its)=(List.replicate k.toNat its.toList).flatten.toArray:=r;rw[y];simp only[sizeOk,zap];rw[Tu,zcQ,Nat.mul_comm,zaV];exact J
def z2h(K:W.Frag):R2:=λx y H Q=>∃l k E,x=.ref l/\y=.int k/\SqT K H l E/\E≠[]/\1<=k/\E.length*k.toNat<=sizeLine/\(k=1->Q (.ref l) H) /\
 (k≠1->∀p,H p=none->Q (.ref p) (upd H p (.tup (List.replicate k.toNat E).flatten)))
def Lp(l:Addr)(its:Array Value)(n:Nat)(dd:Option Addr)(a:Array (Option Value))(t:Tok) :
  Meets (Builtin.«tuple.__mul__» ⟨[.ref l,.int 1 t],[]⟩) (λ_ R s=>s.heap.get? l=some {cls:=.type "tuple",dict:=dd,data:=.seq its n,slots:=a}/\R (.ok (.ret (.ref l))) s) :=
 .of_wp λprog w A R s h=>by
  obtain⟨j,g,d,tk,e⟩:=s;obtain⟨hl,h⟩:=h;wp_walk;exact⟨_,rfl,h⟩
def Ec:OpR X (binaryOp .Mult) (z2h X.K):=by
 intro pn s Y H x y v u Q I L h1 h;obtain⟨l,k,E,rfl,rfl,V,j,J,z,N,M⟩:=h;cases L;obtain⟨t,rfl⟩:=h1;obtain⟨its,r,O,_⟩:=I.tuple V;obtain⟨⟨W,dd,D,g⟩,e,R,n,hd⟩:=O;cases R;cases hd;have d:its.toArray.isEmpty=false:=by
  cases its with
  |nil=>exact absurd (r.nil_iff.mp rfl) j
  |cons a b=>rfl
 refine wpAny_binaryOp_repeat_ref (T:="tuple") (U:="int") aB ⟨_,e,rfl⟩ (λs'=>typeIs_int s' k t) c9 F.fills_int_mul zfU V3 F.slot_int_index.lookup
  (zeU zfU (typeIs_int s k t) F.entry_int_rmul (F.args_int_rmul_2 _ _) (Vz k t l its.toArray n dd g) ⟨e,rfl,⟨_,e,rfl⟩,?_⟩)
 by_cases k1:k=1
 ·subst k1;exact zeU F.slot_tuple_mul ⟨_,e,rfl⟩ F.entry_tuple_mul (F.args_tuple_mul_2 _ _) (Lp l its.toArray n dd g t) ⟨e,⟨.ref l,H,I,rfl,N rfl⟩⟩
 refine zeU F.slot_tuple_mul ⟨_,e,rfl⟩ F.entry_tuple_mul (F.args_tuple_mul_2 _ _) (F0 l its.toArray n dd g k t aD (by rw[zap,<- r.length];exact z) d) ⟨e,?_⟩
 have B:=jh its k.toNat [];rw[List.nil_append]at B;rw[show List.foldl (λG x2=>G++x2) #[] (List.replicate k.toNat its.toArray)=(List.replicate k.toNat its).flatten.toArray from B];refine⟨.ref s.heap.objs.size,_,I.laid (t':=s.toks) (o:=.tup (List.replicate k.toNat E).flatten) (λb ob q=>zac _ q) (zaj _) ?_,rfl,M k1 _ (I.hok.fresh (zaj _))⟩;exact⟨by rw[Tu,Nat.mul_comm];exact z,_,r.rep k.toNat,IsTup.new _ _,_,zad _ rfl,rfl⟩
section
variable{a b:Expr}{ta tb:TD}{pos:Pos}
def z2d:D->D->(EV->Prop)->Prop:=λx y φ=>∃(ns:List Int)(k:Nat),x=ikD ns/\y=.int k/\ns≠[]/\1<=k/\ns.length*k<=sizeLine/\φ (dv (ikD (List.replicate k ns).flatten))
def Do(B:ED M X a ta)(z:ED M X b tb):ED M X (.BinOp a .Mult b pos) (d2 z2d ta tb):=Zh Ec (λH O x y G j φ Q ho v u h k=>by
 obtain⟨ns,m,rfl,rfl,d,J,l,h⟩:=h;obtain⟨c,E,rfl,q,r⟩:=v;cases (show j=V.int m from u);have ex:=Ym r;subst ex;refine⟨c,m,_,rfl,rfl,q.1,by simpa using d,by omega,by rw[zLm];simpa using l,λe=>?_,λe p g=>?_⟩
 ·have:m=1:=by omega
  subst this;refine k _ (dv (ikD (List.replicate 1 ns).flatten)) H (Same.refl H) ⟨c,_,rfl,q,?_⟩ h;simpa using zr.ints ns
 refine k _ _ _ (y4 g _) (V2 g (Z:=(List.replicate m ns).flatten.map D.int) ?_) h;rw[show((m:Int)).toNat=m from by simp]
 rw[show(List.replicate m (ns.map V.int)).flatten=(List.replicate m ns).flatten.map V.int from by rw[List.map_flatten,List.map_replicate]]
 exact zr.ints _) B z
end
variable{G:Hp->Prop}
def Z9{x a m:Str}{st:Stmt}{f:Addr}{fd:FuncData}{N ps:List Str}{k:Nat}{T:FTQ}{C:Addr}{ns:List Str}(F:Fun K x a st f fd)(S:zv N ps (ze st))(b:wq K fd ps [])(R:Meth K C m f)(h1:m∉ns)(B:∀ (A:Around) (outer:List Env) (s:Shared) (H:Hp) (xs:XK) (d:D) (Z:List D) (φ:D->D->Prop),Room k (A.deeper (envOfC a (ze st) s.heap.objs.size f fd.code))->Z.length+1=ps.length->T d Z φ ->
   ∃ t,QSs G 0 (cxOf CX0 P w K mg base N a (ze st) f fd.code A outer s H xs).nox (yu st) t/\t (yx N.length (d::Z)) {nx:=λU=>∃ d',slot U 0=some (dv d')/\φ .non d',rt:=λr U=>∃ d',slot U 0=some (dv d')/\φ r d'}):FMG G P w K mg base (k+1) C ns m ps T:=by
 refine⟨⟨f,fd,M6 F S (λvs H Q xs h=>?_) (λA outer s H vs Q xs hr h=>?_),b,R⟩,h1⟩
 ·obtain⟨d,Z,v,ws,A,φ,rfl,hl,_,_,r,_⟩:=h;rw[zLc,r.length,hl]
 obtain⟨d,Z,v,ws,l,φ,rfl,hl,ft,L,r,V,hT,kk⟩:=h;obtain⟨t,M,O⟩:=B A outer s H xs d Z φ hr hl hT;have W:=cj (N:=N) ft L r;refine⟨bx K (without l H) 0 t,M ⟨without l H,V⟩,yx N.length (d::Z),[],l,d,v,W,_,O,λρ' σ' H' o' A' d2 j y=>?_,λ_ _ _ _ _ _ _ q=>q.elim,λ_ _ _ _ _ _ _ q=>q.elim,λu e ρ' σ' H' o' A' d2 j I re y=>?_⟩
 all_goals
  obtain⟨d',es,h'⟩:=y;cases (show some (dv d2)=some (dv d') by rw[<- es];exact(ya j.hd).symm)
  obtain⟨g,z⟩:=T5 ft j
 ·exact kk _ .non _ H' A' g j.ft j.ndA z trivial rfl h'
 exact kk _ _ _ H' A' g j.ft j.ndA z I re h'
structure LamT(G:Hp->Prop)(K:W.Frag)(mg:Str->Option Value)(cd:Value)(cM Pt:Addr)(line col:Nat)(q:Str):Prop where
 cd:cd=.ref cM
 hd:∀h,K.In h->W.CodeHd h cM Pt
 bt:∀h,K.In h->h.BuiltinsAt mg Pt
 tb:∀H,G H->∃t1 t2 t3,H Pt=some (.tbl #[.int line t1,.int col t2,.str q t3])
section
open AutoSeq1 (wpAny_loadPart')
def kl(l:Addr)(items:Array Value)(n:Nat)(e:Option Addr)(k:Array (Option Value)) :
  Meets (Builtin.«enumerate.__new__» ⟨[.type "enumerate",.ref l],[]⟩) (λ_ R s=>s.heap.get? l=some {cls:=.type "tuple",dict:=e,data:=.seq items n,slots:=k} /\
   R (.ok (.ret (.ref (s.heap.push {cls:=.type "tuple_iterator",data:=.fields #[.ref l,.int 0 0]}).objs.size)))
    {s with heap:=(s.heap.push {cls:=.type "tuple_iterator",data:=.fields #[.ref l,.int 0 0]}).push {cls:=.type "enumerate",data:=.fields #[.none,.bool false,.ref s.heap.objs.size,rawInt 0,.none,.none]}}) :=
 .of_wp λprog w A R s h=>by
  obtain⟨r,g,d,tk,q⟩:=s;obtain⟨hl,h⟩:=h;have j:=sub_enumerate;have a:Heap.IsTuple (Shared.heap ⟨r,g,d,tk,q⟩) l items:=⟨_,hl,rfl,n,rfl⟩;wp_walk using wpAny_loadPart' hl;refine wpAny_stack_any λst=>zab ?_;split
  ·rename_i c _ _ _ _ _;cases (c==Value.type "enumerate")
   ·wp_walk using wpAny_loadPart' hl,zcP a;exact⟨_,rfl,h⟩
   wp_walk using wpAny_loadPart' hl,zcP a;exact⟨_,rfl,h⟩
  wp_walk using wpAny_loadPart' hl,zcP a;exact⟨_,rfl,h⟩
def kn{l:Addr}{items:Array Value}{Q:Value->Shared->Prop}(q:s.heap.IsTuple l items)(h:∀ h',IsEnum h' (s.heap.objs.size+1) s.heap.objs.size 0 .none->h'.IsTupleIter s.heap.objs.size l 0->h'.objs.size=s.heap.objs.size+2 ->
   (∀ b o,s.heap.get? b=some o->h'.get? b=some o)->Q (.ref (s.heap.objs.size+1)) {s with heap:=h'}) :
  wpAny (model prog w) A (call (.type "enumerate") [.ref l]) Q xs s:=by
 obtain⟨⟨c,g,r,k⟩,hl,e,n,hd⟩:=q
 replace e:c=.type "tuple":=e
 replace hd:r=.seq items n:=hd
 subst e hd;refine callType_new F.called_enumerate aB (F.typeCall_enumerate_1 _) (F.newCall_enumerate_1 _) (λa=>F.args_object_init_2 a _) F.entry_enumerate_new
  (kl l items n g k) ⟨hl,?_⟩
 have d:(s.heap.push {cls:=.type "tuple_iterator",data:=.fields #[.ref l,.int 0 0]}).objs.size=s.heap.objs.size+1:=zcT ..;show _/\_;rw[d];have j:IsEnum ((s.heap.push {cls:=.type "tuple_iterator",data:=.fields #[.ref l,.int 0 0]}).push
   {cls:=.type "enumerate",data:=.fields #[.none,.bool false,.ref s.heap.objs.size,rawInt 0,.none,.none]}) (s.heap.objs.size+1) s.heap.objs.size 0 .none:=by
  have:=zad (s.heap.push {cls:=.type "tuple_iterator",data:=.fields #[.ref l,.int 0 0]})
   (o:={cls:=.type "enumerate",data:=.fields #[.none,.bool false,.ref s.heap.objs.size,rawInt 0,.none,.none]}) rfl
  rw[d]at this;exact this
 refine⟨⟨_,j,rfl⟩,h _ j ⟨_,zac _ (zad _ rfl),rfl,rfl⟩ (by rw[zcT,d]) λb o x=>zac _ (zac _ x)⟩
def Zw{e it l:Addr}{i:Nat}{items:Array Value}{a:Value}{Q:Option Value->Shared->Prop}(r:A.handled=none)(k:IsEnum s.heap e it i a)(g:s.heap.IsTupleIter it l i)(hl:s.heap.IsTuple l items)(q:items[i]?=none)(v:∀ h',Heap.ExtBut it s.heap h'->Q none {s with heap:=h'}):wpAny (model prog w) A (pyNext (.ref e)) Q xs s:=by
 have hT:s.TypeIs (.ref e) "enumerate":=⟨_,k,rfl⟩;unfold pyNext;refine zaa (zfS (zbX (name:=Str.ofString "__next__") hT F.slot_enumerate_next
  (zbY F.slot_enumerate_next hT F.entry_enumerate_next ?_ (F.args_enumerate_next_1 _))))
 show wpAny _ _ (field (.ref e) 2 >>= _) _ _ _;refine zaa (zbW k rfl (x:=.ref it) rfl ?_);refine zaa (bo r g hl q λh' x j d=>?_);obtain⟨o,ho,u⟩:=d;refine zaa (zfO (T:="StopIteration") (b:=true) ⟨o,ho,u⟩ isSubtype_stop ?_);exact zab (v _ j)
def Sw{it l:Addr}{items:Array Value}(u:A.handled=none)(d:it≠l):Draws prog w A it [it,l] items.size (λi x=>items[i]?=some x) (λi h=>h.IsTupleIter it l i/\h.IsTuple l items) where
 live:=λi h z=>let ⟨o,ho,_⟩:=z.1;⟨o,ho⟩
 frame:=λi h h' z k=>by
  obtain⟨⟨o,ho,r⟩,o2,a,r2⟩:=z;exact⟨⟨o,k it aE o ho,r⟩,o2,k l aE o2 a,r2⟩
 item:=λi s Q xs hi z v=>by
  have e:items[i]?=some items[i]:=by simp[hi]
  exact Yt z.1 z.2 e λg q j=>v _ g s.toks e ⟨q,z.2.extBut j.extBut (Ne.symm d)⟩ j
 done:=λs Q xs z y=>bo u z.1 z.2 aE y
def IteT(K:W.Frag)(l:Addr):It :=
 ⟨λi H=>∃E x,SqT K H l E/\E[i]?=some x,
  λi H v H'=>∃T x,H T=none/\v=.ref T/\(∀E,SqT K H l E->E[i]?=some x)/\H'=upd H T (.tup [.int i,x]),
  λi H=>∃E,SqT K H l E/\E.length<=i⟩
def P3{P:Program}{w:World}{K:W.Frag}{es:List Expr}{kk:Nat}{tp:Pos}{e it l:Addr}(L:e≠it) :
  Turn P w K (.Tuple es kk tp) (IteT K l) [e,it] e (λi h=>(∃j,IsEnum h e it i j)/\h.IsTupleIter it l i) where
 mem:=by simp
 obj:=λi h ds b d=>by
  obtain⟨⟨j,J⟩,o,h2,h3,h4⟩:=ds;simp only[zam,zaH,zbM]at d;rcases d with rfl|rfl
  ·exact⟨_,J,λv q=>(by cases q)⟩
  exact⟨o,h2,λv q=>by rw[h4]at q;cases q⟩
 keep:=λi h h' ds k=>by
  obtain⟨⟨j,J⟩,h2⟩:=ds;exact⟨⟨j,k e aE _ J⟩,h2.at λo q=>k it aE o q⟩
 item:=by
  intro X hP hw hK B i pn s Y H xs I V ds hg;subst hP hw hK;obtain⟨E,x,e1,z⟩:=hg;obtain⟨r,r1,pl,hz⟩:=I.tuple e1;obtain⟨u,hu,ru⟩:=r1.get z;obtain⟨⟨j,h1⟩,O⟩:=ds;have fe:=V e aE
  have M:=V it aE
  have a4:it≠l:=λq=>by
   obtain⟨o1,J,G,_⟩:=O;obtain⟨o2,h2,N,_⟩:=pl;rw[q,h2]at J;cases J;rw[N]at G
   injection G with G
   exact absurd G aB
  have a6:e∉[it,l]:=λq=>by
   simp only[zam,zaH,zbM]at q;rcases q with q|q
   ·exact L q
   obtain⟨o2,h2,N,_⟩:=pl;rw[<- q,h1]at h2;cases h2
   injection N with N
   exact absurd N aB
  have a0:r.toArray[i]?=some u:=by simpa using hu
  refine wpAny_pyNext_enum_itemD (Sw (items:=r.toArray) (I.ok.hd B) a4) h1 ⟨O,pl⟩ (zeK.mp a0).1 L a6 λu' g tk a3 zo ⟨zi,_⟩ pr hsz Q=>?_;rw[a0]at a3;cases a3;have R:H s.heap.objs.size=none:=I.fresh;have a:∀b,b∉[e,it]->b≠e/\b≠it:=λb d=>by
   simp only[zam,zaH,zbM,not_or]at d;exact d
  have D:∀b ho,H b=some ho->b≠e/\b≠it:=λb ho q=>⟨zl q fe.1,zl q M.1⟩;have un:Un (frs X.stack) [e,it] H (upd H s.heap.objs.size (.tup [.int i,x])) s.heap g :=
   ⟨λb o q _ _ z=>Q b o (a b z).1 (a b z).2 q,λb o q _ _ z=>⟨o.slots,Q b o (a b z).1 (a b z).2 q⟩,λb o q n _=>by rw[zj (zaY (zae q))];exact n,λb o q z=>⟨o,Q b o (a b z).1 (a b z).2 q⟩,
    λb zs q=>by rw[zj (zl q R)];exact q,λb o zs q=>by rw[zj (zl q R)];exact q,λb ps q=>⟨#[],by rw[zj (zl q R),q];simp⟩⟩
  have hok:HOk X.prog X.w (upd H s.heap.objs.size (.tup [.int i,x])) g:=λb o q=>by
   by_cases d:b=s.heap.objs.size
   ·subst d;rw[zm]at q;cases q;refine⟨by simp only[zLc,zLn];rw[zaV];decide,[.int i tk,u],.cons ⟨_,rfl⟩ (.cons ru .nil),⟨_,pr,rfl,_,rfl⟩,_,pr,rfl⟩
   rw[zj d]at q;refine(I.hok b o q).stay (λc ob B q2=>Q c ob ?_ ?_ q2) (λc q=>by rw[zj (zl q R)];exact q) λc zs q=>by rw[zj (zl q R)];exact q
   ·rcases B with rfl|B
    ·exact(D _ _ q).1
    exact(D _ _ B).1
   rcases B with rfl|B
   ·exact(D _ _ q).2
   exact(D _ _ B).2
  have I2:Inv X pn Y (upd H s.heap.objs.size (.tup [.int i,x])) {s with heap:=g,toks:=tk+1}:=I.call' (s':={s with heap:=g,toks:=tk+1}) (ch:=[e,it]) rfl un hok I.bare λb d=>by
   have q:=V b d;exact⟨q.2.2.2.1,q.2.1,q.2.2.2.2.1,q.2.2.2.2.2⟩
  have y:∀b∈[e,it],upd H s.heap.objs.size (.tup [.int i,x]) b=none:=λb d=>by
   have lb:b<s.heap.objs.size:=by
    obtain⟨o,q2,_⟩:=O;simp only[zam,zaH,zbM]at d;rcases d with rfl|rfl
    ·exact zae h1
    exact zae q2
   rw[zj (zaY lb)];exact(V b d).1
  refine⟨_,rfl,wpAny_letOwnedTupleGo_enum zo λg2 z3 sb=>?_⟩;refine⟨.ref s.heap.objs.size,_,I2.turned (t':=tk+1) (λb o d q=>sb.extBut b o d q) (y e aE) fe.2.1 fe.2.2.2.1 fe.2.2.2.2.1 fe.2.2.2.2.2,rfl,⟨_,x,R,rfl,(λzs q=>by rw[<- I.tuple_inj e1 q];exact z),rfl⟩,?_,y⟩
  exact⟨⟨_,by exact_mod_cast z3⟩,zi.at λo q=>sb.extBut _ o (Ne.symm L) q⟩
 done:=by
  intro X hP hw hK B i pn s Y H xs I V ds hg;subst hP hw hK;obtain⟨E,e1,a7⟩:=hg;obtain⟨r,r1,pl,hz⟩:=I.tuple e1;obtain⟨⟨j,h1⟩,O⟩:=ds;have M:=V it aE
  have a8:=r1.length;have a4:it≠l:=λq=>by
   obtain⟨o1,J,G,_⟩:=O;obtain⟨o2,h2,N,_⟩:=pl;rw[q,h2]at J;cases J;rw[N]at G
   injection G with G
   exact absurd G aB
  have en:r.toArray.size<=i:=by rw[zap];omega
  exact Zw (I.ok.hd B) h1 O pl (Array.getElem?_eq_none en) λg Q=>⟨rfl,I.turned (t':=s.toks) (λb o d q=>Q b o d q) M.1 M.2.1 M.2.2.2.1 M.2.2.2.2.1 M.2.2.2.2.2⟩
 self:=λ_ _ _ _ _ ds h=>by
  obtain⟨⟨j,h1⟩,_⟩:=ds;exact wpAny_pyIter_enum h1 h
def z0p(K:W.Frag)(ta:TA):TI:=λY H R=>ta Y H λvs H1=>∃l E,vs=[.ref l]/\SqT K H1 l E/\R (IteT K l) H1
def Kg{X:Cx}{es:List Expr}{kk:Nat}{tp:Pos}{a:Expr}{ta:TA}{p pos:Pos}(G:Gl X "enumerate")(D:X.mg "enumerate" = none)(L:PA X [a] ta)(h1:starEach [a] X.env=(false,eval a X.env)::starEach [] X.env:=by rfl):PI X (.Tuple es kk tp) (.Call (.Name "enumerate" p) [a] [] pos) (z0p X.K ta):=by
 intro pn s Y H R I h;refine zdB (Yz I G D Zo ?_ aB aB)
 refine zdI (thn (L pos pn s Y H _ I h) λus k Zh=>?_) h1 (by rfl)
 obtain⟨vs,H1,d,r1,l,E,e,e1,q⟩:=Zh;subst e;obtain⟨u,rfl,z⟩:=Zu r1;cases z;obtain⟨v,r1,pl,M⟩:=d.tuple e1;refine kn pl λg j y hsz B=>wpAny_pyIter_enum j ?_;refine⟨_,_,_,_,H1,rfl,d.kept (t':=k.toks) B,P3 (by exact Nat.succ_ne_self _),⟨⟨_,j⟩,y⟩,λb x=>?_,q⟩
 have r:k.heap.objs.size<=b:=by
  simp only[zam,zaH,zbM]at x;rcases x with rfl|rfl
  ·exact zeB _ _
  exact zaj _
 exact d.fpOk r (d.hok.fresh r)
end
def iET(t:TDs):TID:=λU φ=>t U λa=>match a with
 | [r]=>(match r.k with|.own=>False|_=>True)/\(match r.d with
  |.tup l=>φ (enD l)
  | _=>False)
 |_=>False
def J8{K:W.Frag}{l:Addr}{Z:List D}:ItD K (IteT K l) (enD Z) (λH O=>Rep K H O (.tup Z) (.ref l)) where
 go:=λH O i d k e=>by
  obtain⟨a,E,v,q,r⟩:=k;cases v;unfold enD at e;rw[zai,List.getElem?_zipIdx]at e;cases ex:Z[i]? with
  |none=>rw[ex]at e;cases e
  |some x =>
   rw[ex]at e;have L:d=.tup [.int (i:Nat),x]:=by simpa using e.symm
   subst L;obtain⟨u,G,h1⟩:=r.get ex;refine⟨⟨E,u,q.1,G⟩,λz H' I=>?_⟩;obtain⟨T,M,hT,rfl,j,rfl⟩:=I;have j:=j _ q.1;rw[G]at j;cases j;have y:Same H (upd H T (.tup [.int i,u])):=λb w B=>by rw[zj (zl B hT)];exact B
   refine⟨y,T,[.int i,u],rfl,⟨.inl (.inl zm),zm⟩,?_⟩;exact⟨.int i,[u],rfl,by exact rfl,u,[],rfl,RepN.grow (Grow.same y) _ _ h1,rfl⟩
 stop:=λH O k=>by
  obtain⟨a,E,v,q,r⟩:=k;cases v;exact⟨E,q.1,by unfold enD;rw[zLm,List.length_zipIdx,r.length];exact zaj _⟩
 keep:=λO O' H H' k g=>RepN.grow g _ _ k
def Qh{es:List Expr}{kk:Nat}{tp:Pos}{a:Expr}{t:TDs}{p pos:Pos}(y:X.mg "enumerate" = none)(D:EA M X [a] t)(z:Gl X "enumerate":=by rfl)(B:starEach [a] X.env=(false,eval a X.env)::starEach [] X.env:=by rfl):EI M X (.Tuple es kk tp) (.Call (.Name "enumerate" p) [a] [] pos) (iET t):=λH_=>impI (Kg z y (D H_) B) λY H R q=>by
 obtain⟨U,o,G,φ,g,k⟩:=q;refine⟨U,o,G,_,g,λvs h1 H1 u e J=>?_⟩;split at J
 ·rename_i r;obtain⟨x,J⟩:=J;obtain⟨I,w1,rfl,v,rfl⟩:=e;have j:=v.solid (u6 x);obtain⟨kd,d⟩:=r;cases d with
  |tup l =>
   obtain⟨a,E,rfl,q,r⟩:=id j;exact⟨a,E,rfl,q.1,k _ _ _ H1 u J8 j J⟩
  |_=>exact J.elim
 exact J.elim
section
variable{x:Str}{e:Expr}{pos:Pos}
def Bk(j:Nat)(t:TQs):TQS:=λU ds=>t U λes a=>ds.nx (setS a j (dv (.lst es)))
def Tb{scope:Scope}{T F:List Str}{js:List Nat}{tgt iter elt:Expr}{ti:TID}{te:TQ}{k:Nat}(j:Nat){y:Str}{G g:Pos}(D:j≠l)(hN:X.N.Nodup)(hi:EI M X tgt iter ti)(S:zx X.env.scope scope T F)(B:Paired (λx j=>X.N[j]?=some x) F js)(O:js.Nodup)(hk:js[k]?=some l)(hT:T.length=1)(hg:∀ cl C fp s H,PG (yp X (T++F) scope cl C fp s H) tgt (sn 0))(he:∀ cl C fp s H,EQ M (1+k) (yp X (T++F) scope cl C fp s H) elt te)(hc:X.calm=true:=by rfl)(W:∀ x,foldedSetIterable iter X.env x=pure x:=by intro _;rfl)(V:X.N[j]?=some y:=by rfl)(q:X.env.scope.names.lookup y=some .local:=by rfl)(u:swapsWith (.ListComp elt [⟨tgt,iter,[],0⟩] scope pos) (some (.Name y G)) g.line X.env=pure true:=by rfl) :
  QS M l X (.Assign [.Name y G] (.ListComp elt [⟨tgt,iter,[],0⟩] scope pos) g) (Bk j (Oq ti l (1+k) js te)):=λH_ =>
 impS (k6 (tc:=tYes) (te:=Nl X.K H_.1 (1+k) te) hc hN V (.inl q) (hi H_) S B hg (by rw[hT];exact yi aB) (λcl C fp s H=>Th) (λcl C fp s H=>he cl C fp s H H_) u W (.inr q)) λDz Y H h=>by
  obtain⟨U,o,A,d,v,S',ds,hZ,R,k2,k3,k4⟩:=h;refine Yw O hk hT Y H _ ⟨U,o,A,d,v,S',_,hZ,λa E es I H1 A1 d1 g1 S1 r Q L h1 r1 J=>?_⟩;exact R _ _ _ _ _ _ (S1.setR (e:=.lst es) D ⟨a,E,rfl,r,λz=>(zas.mp z).elim L Q,zr.pure _ _ h1 r1⟩) J
end
def spZG(G:Hp->Prop)(K:W.Frag)(n:Nat)(T:FTZ):Sp:=λvs H Q _=>∃Z φ,Z.length=n/\Reps K H [] Z vs/\G H/\T Z φ/\∀u d A H',Same H H'->Ft K H' d u A->A.Nodup->(∀a∈A,H a=none)->φ d->Q u H'
structure FZG(G:Hp->Prop)(P:Program)(w:World)(K:W.Frag)(mg:Str->Option Value)(base:Heap)(k:Nat)(x:Str)(ps:List Str)(T:FTZ):Prop where
 ex:∃f fd,FnOk P w K mg base CX0 k f fd ps (spZG G K ps.length T)/\wq K fd ps []/\W.keepIn K (.ref f)=true/\mg x=some (.ref f)
def Ax(K:W.Frag)(H_:Hp)(t:TC1):TE:=λY H Q=>∃U o,REnv K H_ H Y U o/\∃φ,t U φ/\∀u r H' A,Same H H'->Ft K H' r u A->A.Nodup->(∀b∈A,H b=none)->φ r->Q u H'
def EZ(G:Hp->Prop)(X:Cx)(e:Expr)(t:TC1):Prop:=∀H_:{H:Hp // G H},PE X e (Ax X.K H_.1 t)
section
variable{x:Str}{ps:List Str}{T:FTZ}{T2:FTE}{k:Nat}{e e1 e3:Expr}{es:List Expr}{t:TDs}{ta tc:TD}{tz:TC1}{p pos:Pos}
def Cd(n:Nat)(T:FTZ)(t:TDs):TC1:=λU φ=>t U λa=>Nat.beq a.length n=true/\T (a.map EV.d) φ
def Dk(F:FZ X.prog X.w X.K X.mg X.base k x ps T)(hr:Room k X.A)(I:EA M X (e::es) t)(B:Gl X x:=by rfl)(l:D_ x:=by decide)(D:S_ X e es:=by rfl)(j:B_ X es pos:=by rfl) :
  EZ M X (.Call (.Name x p) (e::es) [] pos) (Cd ps.length T t):=λH_=>by
 obtain⟨f,fd,ok,b,z,m⟩:=F.ex;refine impE (gl ok hr B m z b .nil gm (I H_) l D j) λY H Q q=>?_;obtain⟨U,o,R,φ,g,kk⟩:=q;refine⟨U,o,R,_,g,λvs v H1 r a J=>?_⟩;show spZ X.K ps.length T (vs++[]) H1 _ E0;rw[zaK];refine⟨v.map EV.d,_,by rw[zLm];exact zcY J.1,a.reps0,J.2,λu d A H2 s2 ft y h1 h2=>?_⟩
 exact kk u d H2 A (r.trans s2) ft y (λb G=>r.free (h1 b G)) h2
def Wf(z:Wt M)(F:FZG M X.prog X.w X.K X.mg X.base k x ps T)(hr:Room k X.A)(h1:EA M X (e::es) t)(D:Gl X x:=by rfl)(r:D_ x:=by decide)(G:S_ X e es:=by rfl)(l:B_ X es pos:=by rfl) :
  EZ M X (.Call (.Name x p) (e::es) [] pos) (Cd ps.length T t):=λH_=>by
 obtain⟨f,fd,ok,b,B,m⟩:=F.ex;refine impE (gl ok hr D m B b .nil gm (h1 H_) r G l) λY H Q q=>?_;obtain⟨U,o,R,φ,j,kk⟩:=q;refine⟨U,o,R,_,j,λvs v H1 a g J=>?_⟩;show spZG M X.K ps.length T (vs++[]) H1 _ E0;rw[zaK];refine⟨v.map EV.d,_,by rw[zLm];exact zcY J.1,g.reps0,z _ _ H_.2 (R.same.trans a),J.2,λu d A H2 s2 ft y L h2=>?_⟩
 exact kk u d H2 A (a.trans s2) ft y (λb I=>a.free (L b I)) h2
def dZ(t:TC1):TD:=λU φ=>t U λd=>φ ⟨.new,d⟩
def z1e(h:EZ M X e tz):ED M X e (dZ tz):=λH_=>impE (h H_) λY H Q q=>by
 obtain⟨U,o,R,φ,d,kk⟩:=q;exact⟨U,o,R,_,d,λu r H' A s ft k j h'=>kk u ⟨.new,r⟩ H' s (Ft.repN _ _ _ (λa g=>⟨R.ofree (j a g),j a g⟩) ft) h'⟩
def zMid(T:FTE)(ta tc:TD)(tz:TC1):TC1:=λU φ=>ta U λe=>(match e.k with|.own=>False|_=>True)/\tz U λd=>tc U λa=>(match a.k with|.own=>False|_=>True)/\T d e.d a.d φ
def ro{H H':Hp}{A:List Addr}(s:Same H H')(d:∀ a∈A,H a=none):Same H (without A H'):=λb u h=>by
 by_cases hb:b∈A
 ·rw[d b hb]at h;cases h
 rw[y3 hb];exact s b u h
def REnv.beside{K:W.Frag}{H_ H H':Hp}{Y:St}{U:DE}{o:List (Nat×Addr)}{l:Nat}{A:List Addr}{d:D}{v:V}(R:REnv K H_ H Y U o)(s:Same H H')(f:Ft K H' d v A)(y:A.Nodup)(q:∀ a∈A,H a=none):REnv K H_ H' Y U (tg l A++o):=by
 have x:=R.to s;refine R.move (R.same.trans s) (λp g=>?_) ?_ ⟨λb u j n=>⟨s _ _ j,λz=>?_⟩,λb E j=>s _ _ j,λb ob u j=>s _ _ j⟩ (λi r e=>⟨e,rfl,λa k=>⟨zaE _ k,?_⟩⟩) R.len
 ·rcases zas.mp g with g|g
  ·obtain⟨_,k⟩:=Wv.mp g;obtain⟨u,hu,G,B⟩:=Ft.dom _ _ _ f _ k;exact⟨R.same.free (q _ k),u,hu,G,B⟩
  obtain⟨u,hu⟩:=x.trk p g;obtain⟨m1,m2⟩:=x.mtb p g;exact⟨R.fresh p g,u,hu,λE z=>m1 E (by rw[hu,z]),λob w z=>m2 ob w (by rw[hu,z])⟩
 ·rw[uo,zaO];exact⟨y,R.nda,λa k b j e=>by
   subst e;obtain⟨p,g,rfl⟩:=zah.mp j;obtain⟨u,hu⟩:=R.trk p g;rw[q _ k]at hu;cases hu⟩
 ·rw[uo]at z;rcases zas.mp z with z|z
  ·rw[q b z]at j;cases j
  exact n z
 obtain⟨u,hu⟩:=R.trk _ k;rw[s _ _ hu,hu]
def z0y{l:Expr}(mG:Wt M)(F:FEat M X.prog X.w X.K X.mg X.base k x ps T2)(hr:Room k X.A)(B:ED M X e1 ta)(hz:EZ M X l tz)(hc:ED M X e3 tc)(hg:Gl X x:=by rfl)(O:D_ x:=by decide)(J:starEach [e1,l,e3] X.env=(false,eval e1 X.env)::starEach [l,e3] X.env:=by rfl)(h2:starEach [l,e3] X.env=(false,eval l X.env)::starEach [e3] X.env:=by rfl)(h3:starEach [e3] X.env=(false,eval e3 X.env)::starEach [] X.env:=by rfl)(N:(backTo pos (starEach [l,e3] X.env)).any (·.1)=false:=by rfl) :
  EZ M X (.Call (.Name x p) [e1,l,e3] [] pos) (zMid T2 ta tc tz):=λH_=>by
 obtain⟨f,fd,ok,b,kp,m⟩:=F.ex;refine impE (gl ok hr hg m kp b .nil gm (yr (B H_) (yr (hz H_) (yr (hc H_) uv h3) h2) J) O J N) λY H Q q=>?_;obtain⟨U,o,R,φ,L,kk⟩:=q;refine⟨U,o,R,_,L,λva ra H1 D I q1=>⟨U,o,R.to D,_,q1.2,λv d H2 A s2 ft nd fr q2=>⟨U,tg 0 A++o,(R.to D).beside s2 ft nd fr,_,q2,λvc rc H3 y G q3=>?_⟩⟩⟩;have j:∀a∈A,H a=none:=λa B=>D.free (fr a B);have g:=(D.trans s2).trans y;have V:Ft X.K H3 d v A:=Ft.keep (Gt.same y) _ _ _ (λa _ x hx=>y _ _ hx) ft;refine⟨d,ra.d,rc.d,v,va,vc,A,_,rfl,V,nd,?_,?_,mG _ _ H_.2 (R.same.trans (ro g j)),q3.2,λu r H' A' sm W h1 ds h'=>?_⟩
 ·have r1:Rep X.K H1 (o.map Prod.snd) ra.d va:=I.solid (u6 q1.1);exact RepN.grow ⟨λb u e _=>⟨(s2.trans y) _ _ e,λz=>by rw[fr b z]at e;cases e⟩,λb E e=>(s2.trans y) _ _ e,λb ob u e=>(s2.trans y) _ _ e⟩ _ _ (RepN.sub (O':=[]) (λ_ z=>by cases z) _ _ r1)
 ·have r3:Rep X.K H3 ((tg 0 A++o).map Prod.snd) rc.d vc:=G.solid (u6 q3.1);rw[uo]at r3;exact RepN.sub (λa B=>zaI _ B) _ _ r3
 exact kk u r H' A' ((ro g j).trans sm) W h1 (λb e=>(ro g j).free (ds b e)) h'
def G5(K:W.Frag)(H_:Hp)(t:TC1):TS:=λDz Y H=>∃U o,REnv K H_ H Y U o/\∃φ,t U φ/\∀u r H' A',Same H_ H'->Ft K H' r u A'->A'.Nodup->(∀b∈A',H_ b=none)->φ r->Dz.rt u H'
def ZC(G:Hp->Prop)(X:Cx)(st:List Stmt)(t:TC1):Prop:=∀H_:{H:Hp // G H},PSs X st (G5 X.K H_.1 t)
def zSeq(t:TDS)(u:TC1):TC1:=λU φ=>t U {nx:=λρ'=>u ρ' φ,bk:=λ_=>False,ct:=λ_=>False,rt:=λ_=>False}
def Pz{st:Stmt}{rest:List Stmt}{t:TDS}{u:TC1}(h:SD M X st t)(hr:ZC M X rest u):ZC M X (st::rest) (zSeq t u):=λH_=>gx (wc (h H_) (hr H_)) λDz Y H h=>by
 obtain⟨U,o,R,φ,a,kk⟩:=h;exact⟨U,o,R,_,a,λρ' σ' H' o' _ d h'=>⟨ρ',o',d,φ,h',kk⟩,λ_ _ _ _ _ _ q=>q.elim,λ_ _ _ _ _ _ q=>q.elim,λ_ _ _ _ _ q=>q.elim⟩
def zFrz(i:Nat)(t:TC1):TC1:=λU φ=>t (frzS U i) φ
def Cc(i:Nat){st:List Stmt}{t:TC1}(h:ZC M X st t):ZC M X st (zFrz i t):=λH_=>gx (h H_) λDz Y H h=>by
 obtain⟨U,o,R,φ,a,kk⟩:=h;obtain⟨o',d,sub⟩:=R.frz1 i;exact⟨_,o',d,φ,a,kk⟩
def Cb{t:TC1}(h:EZ M X e t):ZC M X [.Return (some e) pos] t:=λH_=>gx (sj (j9 (h H_))) λDz Y H h=>by
 obtain⟨U,o,R,φ,a,kk⟩:=h;exact⟨U,o,R,_,a,λu r H' A' d ft g k h'=>kk u r H' A' (R.same.trans d) ft g (λb j=>R.same.free (k b j)) h'⟩
end
def z0r{G:Hp->Prop}{P:Program}{w:World}{K:W.Frag}{mg:Str->Option Value}{base:Heap}{x a:Str}{st:Stmt}{f:Addr}{fd:FuncData}{N ps:List Str}{k:Nat}{T:FTZ}(F:Fun K x a st f fd)(S:zv N ps (ze st))(b:wq K fd ps [])(m:mg x=some (.ref f))(e:∀ (qZ:Value) (A:Around) (outer:List Env) (s:Shared) (H:Hp) (xs:XK) (Z:List D) (φ:D->Prop),Room k (A.deeper (envOfC a (ze st) s.heap.objs.size f qZ))->Z.length=ps.length->T Z φ ->
   ∃ t,ZC G (cxOf CX0 P w K mg base N a (ze st) f qZ A outer s H xs).nox (yu st) t/\t (yx N.length Z) φ):FZG G P w K mg base (k+1) x ps T:=by
 refine⟨f,fd,F.ok S (λvs H Q xs h=>?_) (λqZ A outer s H vs Q xs hr h=>?_),b,F.kp,m⟩
 ·obtain⟨Z,φ,hl,r,_⟩:=h;rw[r.length,hl]
 obtain⟨Z,φ,hl,r,q,hT,kk⟩:=h;obtain⟨t,j,l⟩:=e qZ A outer s H xs Z φ hr hl hT;exact⟨G5 K H t,j ⟨H,q⟩,yx N.length Z,[],sx r,φ,l,λu r H' A' d ft g v h'=>kk u r A' H' d ft g v h'⟩
section
variable{a b:Expr}{es:List Expr}{t:TDs}{ta tb te:TD}{pos:Pos}
def z3r(t:TDs):TD:=λU φ=>t U λa=>bg a/\Nat.ble a.length 1000=true/\φ ⟨.new,.lst (a.map EV.d)⟩
def Dq(h:EA M X es t):ED M X (.List es pos) (z3r t):=λH_=>impE (Ru (h H_)) λY H Q q=>by
 obtain⟨U,o,R,φ,g,k⟩:=q;refine⟨U,o,R,_,g,λvs r H1 l a J=>⟨by rw[a.length];exact Xx J.2.1,λp j=>?_⟩⟩
 have e:H p=none:=l.free j;exact k _ ⟨.new,.lst (r.map EV.d)⟩ _ (l.trans (y4 j _)) ⟨p,vs,rfl,zm,⟨R.ofree e,e⟩,zr.to (y4 j _) aA _ _ (a.anew J.1)⟩ J.2.2
def z1m(ta tb:TD):TD:=λU φ=>ta U λx=>tb U λy=>match x.d,y.d with
 |.lst p,.lst q=>xx x/\xx y/\p.length+q.length<=10000/\φ ⟨.new,.lst (p++q)⟩
 |_,_=>False
def Mo(h1:ED M X a ta)(I:ED M X b tb):ED M X (.BinOp a .Add b pos) (z1m ta tb):=λH_=>impE (Ki N7 (h1 H_) (I H_)) λY H Q q=>by
 obtain⟨U,o,R,φ,l,k⟩:=q;refine⟨U,o,R,_,l,λL r1 H1 e j J=>⟨U,o,R.to e,_,J,λv2 r2 H2 s2 g h2=>?_⟩⟩;have D:=λp=>(j.same s2).anew p;have B:=λp=>(g.start e).anew p;obtain⟨O,d1⟩:=r1;obtain⟨N,d2⟩:=r2;cases d1 with
 |lst p =>
  cases d2 with
  |lst q =>
   obtain⟨y,p2,hl,G⟩:=h2;obtain⟨a1,E,rfl,x,_,r1⟩:=D y;obtain⟨a2,ys,rfl,v,_,r2⟩:=B p2;refine⟨a1,a2,E,ys,rfl,rfl,x,v,by rw[r1.length,r2.length,zaV];omega,λu r=>?_⟩
   have d:H u=none:=(e.trans s2).free r;exact k _ ⟨.new,.lst (p++q)⟩ _ ((e.trans s2).trans (y4 r _)) ⟨u,E++ys,rfl,zm,⟨R.ofree d,d⟩,zr.to (y4 r _) aA _ _ (r1.append r2)⟩ G
  |_=>exact h2.elim
 |_=>exact h2.elim
def z2i(j:Nat)(te:TD):TQS:=λU ds=>te U λr=>(match r.k with|.new=>True|.fre=>xx r|.val=>yz r.d|.own=>False)/\ds.nx (setS U j (dv r.d))
end
def okT(d:D):Prop:=∃Z,d=.tup Z/\∀e∈Z,okS e
def Js(I:Inv X pn Y H s){d:D}{x y:V}{u v:Value}{A:Around}(ok:okT d)(J:Rep X.K H [] d x)(h2:Rep X.K H [] d y)(r1:RelV x u)(r2:RelV y v)(hu:A.units+41<cLine):SeqAt.EqAt A s u v true:=by
 obtain⟨Z,rfl,ok⟩:=ok;obtain⟨p,E,rfl,R,t1⟩:=J;obtain⟨q,ys,rfl,Q,t2⟩:=h2;cases (show u=Value.ref p from r1);cases (show v=Value.ref q from r2);obtain⟨its,B,O,_⟩:=I.tuple R.1;obtain⟨a,v2,N,_⟩:=I.tuple Q.1;have l1:=t1.length;have l2:=t2.length;have m1:=B.length;have m2:=v2.length;have l:A.in1.units+40<cLine:=by
  show A.units+1+40<cLine;omega
 have items:∀j (g1:j<its.toArray.size) (g2:j<a.toArray.size),SeqAt.EqAt A.in1 s its.toArray[j] a.toArray[j] ((λ_=>true) j):=by
  intro j g1 g2;have z:j<its.length:=by simpa using g1
  have r:j<a.length:=by simpa using g2
  obtain⟨x',ex,L⟩:=Rn B (i:=j) (u:=its[j]) (by simp[z])
  obtain⟨ds,W,h1⟩:=Rn v2 (i:=j) (u:=a[j]) (by simp[r])
  obtain⟨d,G,M⟩:=t1.at ex;obtain⟨d',g,k⟩:=t2.at W;rw[G]at g;cases g;have:=Jt (A:=A.in1) I (ok d (zan G)) M k L h1 l;simpa using this
 have hsz:its.toArray.size=a.toArray.size:=by rw[zap,zap];omega
 have a1:=SeqAt.RcAt.tuples (show s.heap.IsTuple p its.toArray from O) (show s.heap.IsTuple q a.toArray from N) (by omega:A.units<cLine) items
 have e:((List.range (min its.toArray.size a.toArray.size)).all (λ_=>true)&&its.toArray.size==a.toArray.size)=true:=by rw[hsz];simp
 rw[e]at a1;by_cases hpq:p=q
 ·subst hpq;exact SeqAt.EqAt.same _
 exact SeqAt.EqAt.of_refs hpq a1
def Mj(I:Inv X pn Y H s){Z:List D}{x y:V}{u v:Value}{A:Around}(ok:∀ e∈Z,okT e)(J:Rep X.K H [] (.lst Z) x)(h2:Rep X.K H [] (.lst Z) y)(r1:RelV x u)(r2:RelV y v)(hu:A.units+64<cLine) :
  SeqAt.RcAt A s u v true/\SeqAt.RcNeAt A s u v false:=by
 obtain⟨p,E,rfl,R,_,t1⟩:=J;obtain⟨q,ys,rfl,Q,_,t2⟩:=h2;cases (show u=Value.ref p from r1);cases (show v=Value.ref q from r2);obtain⟨its,B,h1,_⟩:=I.list (SqL.of R);obtain⟨a,v2,G,_⟩:=I.list (SqL.of Q);have l1:=t1.length;have l2:=t2.length;have m1:=B.length;have m2:=v2.length;have hsz:its.toArray.size=a.toArray.size:=by rw[zap,zap];omega
 have l:A.in1.units+41<cLine:=by
  show A.units+1+41<cLine;omega
 have items:∀j (g1:j<its.toArray.size) (g2:j<a.toArray.size),SeqAt.EqAt A.in1 s its.toArray[j] a.toArray[j] ((λ_=>true) j):=by
  intro j g1 g2;have z:j<its.length:=by simpa using g1
  have r:j<a.length:=by simpa using g2
  obtain⟨x',ex,N⟩:=Rn B (i:=j) (u:=its[j]) (by simp[z])
  obtain⟨ds,W,M⟩:=Rn v2 (i:=j) (u:=a[j]) (by simp[r])
  obtain⟨d,L,O⟩:=t1.at ex;obtain⟨d',g,k⟩:=t2.at W;rw[L]at g;cases g;have:=Js (A:=A.in1) I (ok d (zan L)) O k N M l;simpa using this
 have e:(List.range its.toArray.size).all (λ_=>true)=true:=by simp
 have a1:=SeqAt.RcAt.lists h1.isList G.isList hsz (by omega:A.units<cLine) items
 have a2:=SeqAt.RcNeAt.lists h1.isList G.isList hsz (by omega:A.units<cLine) items
 rw[e]at a1 a2;exact⟨a1,a2⟩
section
variable{a b:Expr}{ta tb:TD}{pos:Pos}
def rEqT(K:W.Frag)(a:Bool):R2:=λx y H Q=>∃Z,Rep K H [] (.lst Z) x/\Rep K H [] (.lst Z) y/\(∀e∈Z,okT e)/\Q (.bl (!a)) H
def sEqT(a:Bool):D->D->(EV->Prop)->Prop:=λx y φ=>x=y/\(∃Z,x=.lst Z/\∀e∈Z,okT e)/\φ (dv (.bl (!a)))
def Ag(hu:X.A.units+64<cLine):OpR X (compareOp .NotEq) (rEqT X.K true):=by
 intro pn s Y H x y v u Q I d a h;obtain⟨Z,J,h2,ok,q⟩:=h;exact(Mj I ok J h2 d a hu).2 X.prog X.w X.xe _ ⟨.bl _,H,I,rfl,q⟩
def J1{K:W.Frag}{a:Bool}:jz K (rEqT K a) (sEqT a):=by
 intro H O x y j g φ Q ho e d h k;obtain⟨rfl,⟨Z,rfl,ok⟩,h⟩:=h;exact⟨Z,e.rep0,d.rep0,ok,k _ _ H (Same.refl H) aH h⟩
def Mh(hu:X.A.units+64<cLine)(e:ED M X a ta)(d:ED M X b tb):ET M X (.Compare a [.NotEq] [b] pos) (tBo (d2 (sEqT true) ta tb)):=jm (Ag hu) J1 e d (kq _)
end
section
variable{e:Expr}{rest:List Stmt}{tz:TC1}{tq:TQS}{pos:Pos}
def B8(l:Nat)(tz:TC1)(tq:TQS):TDS:=λU ds=>l<U.length/\tz U λd=>tq (setS U l (dv d)) {nx:=λρ'=>ds.nx (hid l ρ'),rt:=λ_ _=>False}
def Fe{x:Str}{pos':Pos}(B:Wt M)(W:X.N.Nodup)(G:EZ M X e tz)(L:QSs M l X rest tq)(hi:X.N[l]?=some x:=by rfl)(I:Loc X.env.scope x:=by first|exact zeJ rfl|exact zdJ rfl)(h1:swapsWith e (some (.Name x pos')) pos.line X.env=pure false:=by rfl)(O:X.fn x=true\/X.env.scope.names.lookup x=some .local:=by first|exact .inl rfl|exact .inr rfl|assumption):SDs M X (.Assign [.Name x pos'] e pos::rest) (B8 l tz tq):=λH_=>gx (wc (d9 W hi I (G H_) h1 O) (Ou L)) λDz Y H h=>by
 obtain⟨U,o,R,ds,⟨hl,V⟩,D,k2,k3,k4⟩:=h;refine⟨U,o,R,_,V,λu d H1 A s ft y r J=>?_⟩;have S:=ST.make R hl s ft y r;obtain⟨k,Sb⟩:=S.rebase;refine⟨⟨without (o.map Prod.snd++A) H1,B _ _ H_.2 k⟩,_,o,A,d,u,Sb,_,J,λj g H2 o2 A2 d2 v h2=>?_,λ_ _ _ _ _ _ _ q=>q.elim,λ_ _ _ _ _ _ _ q=>q.elim,λ_ _ _ _ _ _ _ _ _ _ _ q=>q.elim⟩;have g1:Grow (o.map Prod.snd) (o.map Prod.snd++A) H H1:=⟨λb u a n=>⟨s _ _ a,λz=>(zas.mp z).elim n λz=>by rw[r b z]at a;cases a⟩,λb E a=>s _ _ a,λb ob u a=>s _ _ a⟩
 refine D (hid l j) g H2 (o2++tg l A2) ?_ (v.back k).Q h2;rw[yo];exact g1.trans (S.growB v)
def z2m(l:Nat)(tp:TP1):TQS:=λU ds=>tp U λπ=>∃d Z,slot U l=some (dv d)/\atQ π d=some (.lst Z)/\ds.nx (setS U l (dv (putQ π d (.lst []))))
def Fo{oe:Expr}{tp:TP1}{apos cpos:Pos}(y:EPQ M l X oe tp)(e:∀ {ta:TE},PE X oe ta->PS X (.Expr (.Call (.Attribute oe "clear" apos) [] [] cpos) pos) (Lr (tBM0 X.K "list" Ht ta)):=by
   intro ta J;exact gk (A8 zdX PySem.F.slot_list_clear PySem.F.type_list_clear Ku J)) :
  QS M l X (.Expr (.Call (.Attribute oe "clear" apos) [] [] cpos) pos) (z2m l tp):=λH_=>impS (e (y H_)) λDz Y H h=>by
 obtain⟨U,o,A,d,v,S,ds,B,x,O,N,L⟩:=h;refine⟨U,o,A,d,v,S,_,B,λu π H1 r k J=>?_⟩;have G:=S.to r;obtain⟨d',Z,es,D,J⟩:=J;cases s2_ es S.hd
 obtain⟨b,ys,R,q,j,fs,h1,Q,sub,kk⟩:=G.atL D;have:=k.fn q;subst this;obtain⟨A',I,g,_⟩:=kk H1 [] [] [] (Same.refl _) ⟨rfl,rfl⟩ zcD (λa z=>by cases z)
 exact⟨.inl ⟨rfl,_,SqL.of j⟩,b,ys,rfl,rfl,j,x _ _ _ _ _ _ I J⟩
end
section
variable{o:List (Nat×Addr)}{A:List Addr}{d:D}
def ST.forget(S:ST K H_ H Y U o l A d v){j:Nat}(g:j≠l)(w:V):ST K H_ H (Y.set j (some w)) (hid j U) o l A d v:=by
 refine⟨S.Q.move S.Q.same S.own S.Q.nda Grow.refl (λi r e=>?_) ?_,?_,?_,S.ft⟩
 ·obtain⟨q,k,e⟩:=U0 e;refine⟨?_,zaC (Ne.symm k),λa u=>⟨u,rfl⟩⟩;rw[yk,zaC (Ne.symm q)];exact e
 ·rw[zaF,yk,yk,zaF,zaF];have:=S.Q.len;rw[yk,zaF]at this;exact this
 ·rw[yk,zaC g];exact S.hd
 rw[zaC g];exact S.hv
def ST.hideJ(S:ST K H_ H Y U o l A d v){j:Nat}(k:j≠l):ST K H_ H Y (hid j U) o l A d v:=by
 refine⟨S.Q.move S.Q.same S.own S.Q.nda Grow.refl (λi r e=>?_) ?_,?_,S.hv,S.ft⟩
 ·obtain⟨g,u,e⟩:=U0 e;refine⟨?_,rfl,λa q=>⟨q,rfl⟩⟩;rw[yk,zaC (Ne.symm g)];exact e
 ·rw[yk,yk,zaF,zaF];have:=S.Q.len;rw[yk,zaF]at this;exact this
 rw[yk,zaC k];exact S.hd
def M0(j:Nat)(U:DE):hid j (hid j U)=hid j U:=by rw[yk,yk,List.set_set]
def Jd(i j:Nat)(U:DE)(h:i≠j):hid i (hid j U)=hid j (hid i U):=by rw[yk,yk,yk,yk,List.set_comm _ _ (Ne.symm h)]
end
section
variable{tgx iter c re:Expr}{ti:TID}{tc:TDb}{te:TD}{pos ip rp:Pos}{j1 j2:Nat}
def qChk(j1 j2:Nat)(ti:TID)(tc:TDb):TQS:=λU ds=>ti U λZ=>(∀d∈Z,gT2 j1 j2 d (hid j1 (hid j2 U)) λρ'=>tc ρ' λb=>b=false)/\ds.nx (hid j1 (hid j2 U))
def Bh(hi:EI M X tgx iter ti)(hg:PG X tgx (gTup X.K 2 (jg (sn j1) (jg (sn j2) gNil))))(V:j1≠l)(Q:j2≠l)(B:j1≠j2)(ht:ET M X c tc)(he:ED M X re te)(hc:X.calm=true:=by rfl)(hp:PassesOwn (model X.prog X.w) X.A X.env X.xe:=by exact PassesOwn.never)(hs:∀ x,foldedSetIterable iter X.env x=pure x:=by intro _;rfl):QS M l X (.For tgx iter [.If c [.Return (some re) rp] [] ip] [] pos) (qChk j1 j2 ti tc):=λH_ =>
 impS (Ow hp hc (hi H_) hg (sj (Ov (ht H_) (sj (j9 (he H_))) bh)) hs) λDz Y H h=>by
 obtain⟨U,o,A,d,v,S,ds,hZ,k1,k2,k3,k4⟩:=h;refine⟨U,o,S.R,_,hZ,λh1 Z PJ H1 s1 I hP ⟨j,D⟩=>?_⟩;have S1:=((S.to s1).hideJ Q).hideJ V;refine⟨λi m σ' H'=>m=Z.length-i/\i<=Z.length/\Same H1 H'/\ST X.K H_.1 H' σ' (hid j1 (hid j2 U)) o l A d v,⟨_,rfl,zbG _,Same.refl _,S1⟩,?_⟩;rintro i m σ' H' ⟨rfl,a0,N,S'⟩;have k:=I.keep _ _ _ _ hP (Grow.same N);by_cases hlt:i<Z.length
 ·have ed:Z[i]?=some Z[i]:=by simp[hlt]
  obtain⟨q1,q2⟩:=I.go H' _ i _ k ed;refine .inr ⟨q1,λg H2=>Same H1 H2/\ST X.K H_.1 H2 g (hid j1 (hid j2 U)) o l A d v,λg H2 ⟨z,u⟩=>⟨_,(by omega:Z.length-(i+1)<Z.length-i),rfl,hlt,z,u⟩,λx H2 y=>?_⟩
  obtain⟨s2,rp⟩:=q2 x H2 y;have t:=j _ (zdZ hlt);unfold gT2 at t;split at t
  ·rename_i a b G;rw[G]at rp;obtain⟨p,E,rfl,q,r⟩:=rp;obtain⟨L,r1,rfl,J,v2,r2,rfl,h2,rfl⟩:=r;refine⟨p,_,rfl,q.1,rfl,L,_,rfl,v2,_,rfl,rfl,?_⟩;have u:=S'.to s2;obtain⟨o1,R1,g1⟩:=u.R.put (r:=dv a) (Same.refl _) j1 J aE
   obtain⟨o2,R2,g2⟩:=R1.put (r:=dv b) (Same.refl _) j2 (RepN.grow g1 _ _ h2) aE
   refine⟨_,o2,R2,_,t,λbb H3 O hb=>?_⟩;subst hb;refine⟨N.trans (s2.trans O),?_⟩;have W:=((u.to O).forget V L).forget Q v2;have e:hid j2 (hid j1 (hid j1 (hid j2 U)))=hid j1 (hid j2 U):=by rw[M0,Jd j2 j1 _ (Ne.symm B),M0]
   rw[e]at W;exact W
  exact t.elim
 have e:i=Z.length:=by omega
 subst e;exact .inl ⟨I.stop H' _ k,k1 _ _ _ _ _ _ S' D⟩
end
section
variable{pos:Pos}{scope:Scope}{T F:List Str}{js:List Nat}{tg iter elt:Expr}{ifs:List Expr}{ti:TID}{g2:TG}{g:TGD}{tc:TDb}{te:TD}
def Tc(j:Nat){y:Str}{I e:Pos}(hj:j≠l)(hN:X.N.Nodup)(hi:EI M X tg iter ti)(S:zx X.env.scope scope T F)(D:Paired (λx j=>X.N[j]?=some x) F js)(W:js.Nodup)(hg:∀ cl C fp s H,PG (yp X (T++F) scope cl C fp s H) tg g2)(hk:Zt T.length g2)(hl:d5 X.K g2 g)(ht:∀ cl C fp s H,EIf M (yp X (T++F) scope cl C fp s H) ifs tc)(he:∀ cl C fp s H,ED M (yp X (T++F) scope cl C fp s H) elt te)(hc:X.calm=true:=by rfl)(hs:∀ x,foldedSetIterable iter X.env x=pure x:=by intro _;rfl)(hy:X.N[j]?=some y:=by rfl)(q:X.env.scope.names.lookup y=some .local:=by rfl)(B:swapsWith (.ListComp elt [⟨tg,iter,ifs,0⟩] scope pos) (some (.Name y I)) e.line X.env=pure true:=by rfl) :
  QS M l X (.Assign [.Name y I] (.ListComp elt [⟨tg,iter,ifs,0⟩] scope pos) e) (z2i j (Gr ti T.length js g tc te)):=λH_ =>
 impS (k6 (tc:=bw X.K H_.1 tc) (te:=qd X.K H_.1 te) hc hN hy (.inl q) (hi H_) S D hg hk (λcl C fp s H=>ht cl C fp s H H_) (λcl C fp s H=>he cl C fp s H H_) B hs (.inr q)) λDz Y H h=>by
  obtain⟨U,o,A,d,v,G,ds,hZ,k1,k2,k3,k4⟩:=h;refine Yy (b:=true) W hl Y H _ ⟨U,o,G.R,λr=>(match r.k with|.new=>True|.fre=>xx r|.val=>yz r.d|.own=>False)/\ds.nx (setS U j (dv r.d)),hZ,λw r H1 L O J=>?_⟩
  have V:xx r:=by
   obtain⟨kd,d⟩:=r;cases kd with
   |val=>exact J.1
   |own=>exact J.1.elim
   |fre=>exact J.1
   |new=>exact zaA
  have Q:=O.anew V;have rp:Rep X.K H1 ((o++ZZ.tg l A).map Prod.snd) r.d w:=RepN.rep (λa h1 z=>by
   rw[yo]at z;rcases zas.mp z with z|z
   ·exact h1.1 z
   obtain⟨u,hu,_⟩:=Ft.dom _ _ _ G.ft a z;rw[h1.2]at hu;cases hu) _ _ Q
  obtain⟨o',S2⟩:=G.set (r:=dv r.d) L hj rp aE
  exact k1 _ _ H1 o' A d S2 J.2
end
def spDH(G:Hp->Prop)(K:W.Frag)(n:Nat)(T:FT):Sp:=λvs H Q xs=>G H/\spD K n T vs H Q xs
def Dg{G:Hp->Prop}{x a:Str}{st:Stmt}{f:Addr}{fd:FuncData}{N ps:List Str}{k:Nat}{T:FT}(F:Fun K x a st f fd)(S:zv N ps (ze st))(j:∀ (qZ:Value) (A:Around) (outer:List Env) (s:Shared) (H:Hp) (xs:XK) (Z:List D) (φ:EV->Prop),Room k (A.deeper (envOfC a (ze st) s.heap.objs.size f qZ))->Z.length=ps.length->T Z φ ->
   ∃ t,SDs G (cxOf CX0 P w K mg base N a (ze st) f qZ A outer s H xs).nox (yu st) t/\t (yx N.length Z) {nx:=λ_=>φ (dv .non),rt:=λr=>xx r/\φ r}):FnOk P w K mg base CX0 (k+1) f fd ps (spDH G K ps.length T):=by
 refine F.ok S (λvs H Q xs h=>?_) (λqZ A outer s H vs Q xs hr h=>?_)
 ·obtain⟨_,Z,φ,hl,r,_⟩:=h;rw[r.length,hl]
 obtain⟨y,Z,φ,hl,r,hT,kk⟩:=h;obtain⟨t,l,u⟩:=j qZ A outer s H xs Z φ hr hl hT;exact⟨Nj K H t,l ⟨H,y⟩,yx N.length Z,[],sx r,_,u,λρ' σ' H' o' g z q=>kk .non (dv .non) H' z.same rfl trivial q,λ_ _ _ _ _ _ q=>q.elim,λ_ _ _ _ _ _ q=>q.elim,λv e H' s' d q=>kk v e H' s' d q.1 q.2⟩
def Np{P:Program}{w:World}{K:W.Frag}{mg mb:Str->Option Value}{k:Nat}{fa a:Addr}{fd:FuncData}{x:Str}{sp:Sp}{s₁:Shared}{vs:List Value}{ns:List Int}(ts:Addr->Option (Array Value))(KX:K.In s₁.heap)(N:s₁.heap.Ns mainGlobals mg)(l:s₁.heap.Ns builtinsNs mb)(a4:∀ x:Str,x≠"__name__"->mb x=bootBuiltins x)(O:s₁.heap.NoLimit)(hg:s₁.gens=#[])(Q:s₁.heap.get? a=some {cls:=.type "list",data:=.seq vs.toArray})(hi:IntsAre vs ns)(hl:ns.length<=sizeLine)(hr:Room k callerA)(j:∀ b ps,ts b=some ps->s₁.heap.get? b=some (W.tabObj #[])/\isCodeTable s₁.heap b/\K.lookup b=none)(F:∀ base:Heap,K.In base->base.Ns mainGlobals mg->FnOk P w K mg base CX0 k fa fd [x] sp)(G:∀ (s:Shared) (u:Value),BindsTo s fd ⟨[u],[]⟩ [(x,u)])(a3:∀ H:Hp,(∀ b ps,ts b=some ps->H b=some (.tbl ps))->(∀ E,H a≠some (.lst E))->SqL K H a (ns.map V.int)->sp [.ref a] H (λv _=>v=.bl true) λ_ _ _=>False) :
  codeAny (model P w) callerA (.call (.ref fa) ⟨[.ref a],[]⟩) (λr s'=>r=.ok (.ret (.bool true))/\OldK s₁.heap s'.heap/\s'.os=s₁.os/\AllBare s'.gens) s₁:=by
 have rv:=ZZ.vals_ints hi;have L:=hi.length;have h1:∀ps,ts a≠some ps:=λps z=>by have:=(j _ _ z).1;rw[Q]at this;cases this
 have D:∀H:Hp,(∀b ps,ts b=some ps->H b=some (.tbl ps))->(∀b u,H b=some u->b=a/\(∃o E,u=.frz o (.lst E))\/∃ps,ts b=some ps/\u=.tbl ps)->SqL K H a (ns.map V.int)->HOk P w H s₁.heap->(H a≠none->K.lookup a=none) ->
   codeAny (model P w) callerA (.call (.ref fa) ⟨[.ref a],[]⟩) (λr s'=>r=.ok (.ret (.bool true))/\OldK s₁.heap s'.heap/\s'.os=s₁.os/\AllBare s'.gens) s₁:=by
  intro H hT ds hS M hK;have g:∀{b:Addr}{o:Obj},s₁.heap.get? b=some o->H b=none->(hidT s₁.heap H).get? b=some o:=λe n=>Je e n;have a0:∀{b:Addr}{o:Obj}{es:Array DictEntry}{ep:Nat},s₁.heap.get? b=some o->o.data=.dict es ep->H b=none:=λ{b o es ep} e d=>by
   cases q:H b with
   |none=>rfl
   |some u =>
    rcases ds b u q with⟨rfl,_⟩|⟨ps,J,_⟩
    ·rw[Q]at e;cases e;have d':Data.seq vs.toArray _=Data.dict es ep:=d;cases d'
    rw[(j b ps J).1]at e;cases e;have d':Data.fields #[]=Data.dict es ep:=d;cases d'
  have y:∀{b:Addr}{m:Str->Option Value},s₁.heap.Ns b m->(hidT s₁.heap H).Ns b m:=λ{b m} ⟨o,es,ep,e,d,r⟩=>⟨o,es,ep,g e (a0 e d),d,r⟩;have R:K.In (hidT s₁.heap H):=λb o e=>g (KX b o e) (by
   cases q:H b with
   |none=>rfl
   |some u =>
    rcases ds b u q with⟨rfl,_⟩|⟨ps,J,_⟩
    ·rw[hK (by rw[q];simp)]at e;cases e
    rw[(j b ps J).2.2]at e;cases e)
  have hM:Mod K mg (hidT s₁.heap H):=⟨R,y N,⟨mb,y l,a4⟩,let ⟨mc,J,h2⟩:=O;⟨mc,y J,h2⟩⟩
  have e0:Env0 P w K mg (hidT s₁.heap H) callerA [] s₁ H:=⟨rfl,hM,λb o e=>Em e,Nat.le_of_eq (M1 _ _),zaA,λb l=>absurd (show b∈([]:List Addr) from l) aE,M,.of_eq hg⟩
  refine zeS ((F _ R (y N)).run callerA [] s₁ H ⟨[.ref a],[]⟩ [.ref a] [.ref a] _ _ hr e0 (G s₁ (.ref a)) (.cons rfl .nil) (a3 H hT (λE z=>?_) hS)) λr s' h=>?_
  ·rcases ds a _ z with⟨_,o,a7,J⟩|⟨ps,_,J⟩ <;> cases J
  cases r with
  |error e=>exact False.elim h
  |ok fl =>
   cases fl with
   |next=>exact False.elim h
   |brk=>exact False.elim h
   |cont=>exact False.elim h
   |ret u =>
    obtain⟨v,H',os,Y,un,B,r',q⟩:=h;have q':v=.bl true:=q;subst q';obtain rfl:u=Value.bool true:=r';have all:∀b o,s₁.heap.get? b=some o->s'.heap.get? b=some o\/isCodeTable s₁.heap b/\o=W.tabObj #[]/\∃I,s'.heap.get? b=some (W.tabObj I):=λb o e=>by
     cases q:H b with
     |none=>exact .inl (un.keep b o e q (by intro z;exact absurd (show b∈([]:List Addr) from z) aE) aE)
     |some u =>
      rcases ds b u q with⟨rfl,ob,E,rfl⟩|⟨ps,J,rfl⟩
      ·have z2:=un.frzs b ob _ q;obtain⟨e1,_⟩:=M b _ q;obtain⟨e2,_⟩:=B b _ z2;rw[e]at e1;cases e1;exact .inl e2
      obtain⟨h2,h3,_⟩:=j b ps J;rw[e]at h2;cases h2;obtain⟨a6,z2⟩:=un.tbls b ps q;obtain⟨I,e2,_⟩:=B b _ z2;exact .inr ⟨h3,rfl,I,e2⟩
    refine⟨rfl,⟨λb o e=>?_,λb o e=>?_⟩,os,Y⟩
    ·rcases all b o e with z|⟨J,rfl,I,h2⟩
     ·exact .inl z
     exact .inr (.inl ⟨J,rfl,#[],I,rfl,by rw[Array.empty_append];exact h2⟩)
    rcases all b o e with z|⟨J,rfl,I,h2⟩
    ·exact⟨_,z⟩
    exact⟨_,h2⟩
 have okT:∀{H:Hp}{b:Addr}{ps:Array Value},ts b=some ps->yy P w H s₁.heap b (.tbl ps):=λh=>⟨#[],(j _ _ h).1,.inl rfl⟩;cases hk:K.lookup a with
 |some o =>
  have e:=KX a o hk;rw[Q]at e;cases e;refine D (λb=>(ts b).map .tbl) (λb ps h=>by show(ts b).map _=_;rw[h];rfl) (λb u z=>?_) (.inr ⟨_,vs.toArray,_,hk,rfl,rfl,rfl,by rw[zap,L];exact hl,by simpa using rv⟩) (λb u z=>?_) λz=>?_
  ·obtain⟨ps,J,h2⟩:=zar.mp z;exact .inr ⟨ps,J,h2.symm⟩
  ·obtain⟨ps,J,h2⟩:=zar.mp z;subst h2;exact okT J
  exfalso;cases q:ts a with
  |none=>exact z (by show(ts a).map _=_;rw[q];rfl)
  |some ps=>exact h1 _ q
 |none =>
  refine D (λb=>if b=a then some (.frz {cls:=.type "list",data:=.seq vs.toArray} (.lst (ns.map V.int))) else(ts b).map .tbl) (λb ps h=>?_) (λb u z=>?_) (.inl (.inr ⟨{cls:=.type "list",data:=.seq vs.toArray},zaM rfl⟩)) (λb u z=>?_) λ_=>hk
  ·have n:b≠a:=λe=>h1 ps (e▸h);exact(zaJ n).trans (by rw[h];rfl)
  ·by_cases l:b=a
   ·have z':=(zaM l).symm.trans z;cases z';exact .inl ⟨l,_,_,rfl⟩
   obtain⟨ps,J,h2⟩:=zar.mp ((zaJ l).symm.trans z);exact .inr ⟨ps,J,h2.symm⟩
  by_cases l:b=a
  ·have z':=(zaM l).symm.trans z;cases z';subst l;exact⟨Q,by rw[zLm];exact hl,vs,_,rv,Q⟩
  obtain⟨ps,J,h2⟩:=zar.mp ((zaJ l).symm.trans z);subst h2;exact okT J
def walkDT{l:W.OpenLaw}{q:Program}{loose:List Str}{XP:(Str->Option Value)->Heap->Prop}{YP:World->Heap->Prop}{d:DefRec}{K:Params->W.Frag}{x:Str}{k:Nat}(ts:List (Addr×Addr×Array Value))(hn:l.most=some 63)(h1:d.params.defaults=[])(hr:Room k callerA)(hY:∀ (w:World) (h:Heap),YP w h->(K w.params).In h/\∀ t∈ts,h.get? t.2.1=some (W.tabObj #[]))(hc:∀ (w:World),∀ t∈ts,W.codeHdIn (K w.params) t.1 t.2.1=true/\(K w.params).lookup t.2.1=none)(F:∀ (w:World) (mg:Str->Option Value) (B:Addr) (h:Heap),(K w.params).In h->h.Ns mainGlobals mg->mg d.name=some (.ref B) ->
   ∃ fd:FuncData,(∀ (s:Shared) (u:Value),BindsTo s fd ⟨[u],[]⟩ [(x,u)])/\∀ base:Heap,(K w.params).In base->base.Ns mainGlobals mg->FnOk l.prog w (K w.params) mg base CX0 k B fd [x] (spDH (λH=>∀ b ps,(ts.map (·.2)).lookup b=some ps->H b=some (.tbl ps)) (K w.params) 1 lawT)) :
  W.WalkO q loose XP YP l.row.toRowW d [] (λf vs=>PySem.call f vs):=by
 refine ZZ.attach_call hn h1 λw O N mg mb B o pm cd a3 a vs ns G Y ho hd a0 I z y j hg=>?_;obtain⟨M,YT⟩:=hY w _ Y;obtain⟨fd,hb,hF⟩:=F w mg B _ M G.T.g I;have D:∀(l:List (Addr×Array Value)) b ps,l.lookup b=some ps->(b,ps)∈l:=λl=>by
  induction l with
  |nil=>intro b ps h;cases h
  |cons p l ih =>
   intro b ps h;obtain⟨c,qs⟩:=p;rw[zbQ]at h;cases e:b==c with
   |true=>rw[e]at h;cases h;rw[zeH]at e;subst e;exact .head _
   |false=>rw[e]at h;exact .tail _ (ih b ps h)
 refine Np (λb=>(ts.map (·.2)).lookup b) M G.T.g G.T.b G.T.builtins G.T.nolimit hg z y (zak j aB) hr (λb ps h=>?_) hF hb λH hT hO hS=>?_
 ·obtain⟨t,Q,e⟩:=zah.mp (D _ _ _ h);have L:=YT t Q;obtain⟨V,R⟩:=hc w t Q;rw[e]at L V R;exact⟨L,((W.codeHd_of_K M V).tab L).isCodeTable,R⟩
 refine⟨hT,[.scr ns],λr=>r=dv (.bl true),rfl,⟨.ref a,[],rfl,⟨a,rfl,?_⟩,rfl⟩,⟨ns,rfl,j,rfl⟩,λv r H' s ds p e=>by subst e;exact ds⟩
 rcases hS with(h|⟨o,h⟩)|h
 ·exact absurd h (hO _)
 ·exact .inl ⟨o,h⟩
 exact .inr h
def cb{α:Type}{us:List α}(h:us.length=1):∃a0,us=[a0]:=match us,h with
 |[a0],_=>⟨a0,rfl⟩
def Zy{α:Type}{us:List α}(h:us.length=2):∃a0 a1,us=[a0,a1]:=match us,h with
 |[a0,a1],_=>⟨a0,a1,rfl⟩
def Z3{α:Type}{us:List α}(h:us.length=3):∃a0 a1 a2,us=[a0,a1,a2]:=match us,h with
 |[a0,a1,a2],_=>⟨a0,a1,a2,rfl⟩
def z0a{α:Type}{us:List α}(h:us.length=4):∃a0 a1 a2 a3,us=[a0,a1,a2,a3]:=match us,h with
 |[a0,a1,a2,a3],_=>⟨a0,a1,a2,a3,rfl⟩
def Az{α:Type}{us:List α}(h:us.length=5):∃a0 a1 a2 a3 a4,us=[a0,a1,a2,a3,a4]:=match us,h with
 |[a0,a1,a2,a3,a4],_=>⟨a0,a1,a2,a3,a4,rfl⟩
def Vj{α:Type}{us:List α}(h:us.length=6):∃a0 a1 a2 a3 a4 a5,us=[a0,a1,a2,a3,a4,a5]:=match us,h with
 |[a0,a1,a2,a3,a4,a5],_=>⟨a0,a1,a2,a3,a4,a5,rfl⟩
abbrev pD:List Str:=["_law_body","_law_ahead"]
abbrev pB:List Str:=["_law_f","_law_g","_law_x","_law_y","_law_h","_law_t"]
abbrev pC:List Str:=["_law_feed","_law_stands","_law_told","_law_shape","_law_deep"]
abbrev pE:List Str:=["_law_feed","_law_stands","_law_told","_law_shape","_law_deep","_law_cell"]
abbrev pA:List Str:=["_law_feed","_law_stands","_law_told","_law_gives","_law_deep","_law_mark_here"]
local macro_rules|`(tactic| walk_at "dl")=>do
 let ids <- (("q_ Q_ sNil sSeq sRet sIf sSet sUn d2 d1 v7 dC slot setS EV.sto EV.ret aNil xv dTup dLst Ye dCB d6 vAnd vNot vIf bAnd bOr bNot bYes tTru tBo truD sSub sFd sMod sPow sLt sGt sGe sI sI0 sAdd sMul sNeg sEq sNe sIs Rj J9 sIx2 sSl dSl Tq Xu sLen sIsI sTupC sListC sIntC sApp iSeq iR1 Vo gN gT2 yx S7 Vs Pl Sg Sd Vv Sa S6 Tz Xy Tx Vp Vt W1 Se List.map_cons List.map_nil zLc zLn List.cons_append List.nil_append List.replicate_succ List.replicate_zero Nat.reduceAdd Nat.reduceSub Nat.zero_add Nat.sub_self Bool.and_self Bool.and_true Bool.true_and true_and and_true Bool.not_true Bool.not_false forall_const true_implies false_implies Bool.true_eq_false Bool.false_eq_true reduceCtorEq implies_true El Ap Ej Ek qm ql z1b xx yz yt kdD kdDs Bool.not_eq_eq_eq_not beq_eq_false_iff_ne beq_iff_eq ne_eq decide_eq_true_eq decide_eq_false_iff_not Bool.not_eq_true Bool.not_eq_false not_true_eq_false not_false_eq_true z3y z3x z3w and_self Nat.beq_eq Nat.ble_eq Nat.reduceLeDiff eq_self Nat.reduceEqDiff sIxx keyD sIn Y3 cp10 Int.reduceLE Int.reduceToNat O5 C4 zLm Option.map_some Int.zero_add Ba Int.reduceEq Int.reduceNeg Int.reduceLT Option.map_none sFrz frzS iZ Lx Lv Lw Vy z1i Up Ke bg Vr Xz W0 Vx W2 Vq S8 Vu Pk Sf Vw sDictC sLenD sDictP seqD iCn qSeq qSet Fv qE qT qIf qNil qRet K8 hid Fu Oo Xk dFld fE2 qFld Fw Bl Te pFld pIxQ Pd List.getElem?_cons_succ List.getElem?_cons_zero".splitOn " ").toArray).mapM λs=>`(Lean.Parser.Tactic.simpLemma| $(Lean.mkIdent s.toName):ident)
 `(tactic| simp only[$ids,*])
seal SDs SD ED EA ET EW EQ QA QT QS QSs QL
structure Tops(mg:Str->Option Value):Prop where
 ValueError:mg "ValueError" = none
 bool:mg "bool" = none
 dict:mg "dict" = none
 enumerate:mg "enumerate" = none
 int:mg "int" = none
 isinstance:mg "isinstance" = none
 len:mg "len" = none
 list:mg "list" = none
 range:mg "range" = none
 tuple:mg "tuple" = none
 zip:mg "zip" = none
def mth(i:Nat):Stmt:=wx (top 14) i
def xf:List Str:=["many","shape","lines","own","steps","calls"]
def ix0:ixF xf "many" = some 0:=by decide
def ix1:ixF xf "shape" = some 1:=by decide
def ix2:ixF xf "lines" = some 2:=by decide
def ix3:ixF xf "own" = some 3:=by decide
def ix4:ixF xf "steps" = some 4:=by decide
def ix5:ixF xf "calls" = some 5:=by decide
def putA:List (Str×α)->Str->α->List (Str×α)
 |[],x,v=>[(x,v)]
 |(y,w)::r,x,v=>if y=x then(y,v)::r else(y,w)::putA r x v
def getA:List (Str×α)->Str->Option α
 |[],_=>none
 |(y,w)::r,x=>if y=x then some w else getA r x
def xo1:List (Str×α)->Str->List (Str×α)
 |[],_=>[]
 |(y,w)::r,x=>if y=x then xo1 r x else(y,w)::xo1 r x
def kS(p:Str×α):Key:=Sum.inr p.1
variable{β:Type}{f:α->β}
def Hv:∀{r:List (Str×α)}{x:Str}{v:α},kput (r.map kS) (Sum.inr x)=(putA r x v).map kS:=λ{r x v}=>by
 unfold kput
 induction r with
 |nil=>rfl
 |cons p r ih =>
  obtain⟨y,w⟩:=p;rw[putA];by_cases e:y=x
  ·rw[zaM e,zaG,zaM (by rw[<- e];exact zao)]
   rfl
  rw[zaJ e,zaG,zaG,<- ih];have a:(Sum.inr x:Key)≠kS (y,w):=λz=>e (zdM z).symm;by_cases h:(Sum.inr x:Key)∈r.map kS
  ·rw[zaM (zal _ h),zaM h]
  rw[zaJ (λz=>(zam.mp z).elim a h),zaJ h,zfP]
theorem Ot:∀{r:List (Str×α)}{x:Str}{v:α},dput (r.map kS) (r.map λp=>f p.2) (Sum.inr x) (f v)=(putA r x v).map λp=>f p.2
 |[],x,v=>rfl
 |(y,w)::r,x,v=>by
  rw[putA,zaG,zaG,dput];by_cases e:y=x
  ·rw[zaM e,zaM (by rw[e];rfl)]
   rfl
  rw[zaJ e,zaJ (show kS (y,w)≠Sum.inr x from λz=>e (zdM z)),Ot];rfl
theorem rg:∀{r:List (Str×α)}{x:Str},wk (r.map kS) (r.map λp=>f p.2) (Sum.inr x)=(getA r x).map f
 |[],x=>rfl
 |(y,w)::r,x=>by
  rw[getA,zaG,zaG,wk];by_cases e:y=x
  ·rw[zaM e,zaM (by rw[e];rfl)]
   rfl
  rw[zaJ e,zaJ (show kS (y,w)≠Sum.inr x from λz=>e (zdM z)),rg]
theorem Ss:∀{r:List (Str×α)}{x:Str},Zz (r.map kS) (Sum.inr x)=(xo1 r x).map kS
 |[],x=>rfl
 |(y,w)::r,x=>by
  rw[xo1,zaG,gw];by_cases e:y=x
  ·rw[zaM e,zaM (by rw[e];rfl),Ss]
  rw[zaJ e,zaJ (show kS (y,w)≠Sum.inr x from λz=>e (zdM z)),Ss];rfl
theorem Su:∀{r:List (Str×α)}{x:Str},ri (r.map kS) (r.map λp=>f p.2) (Sum.inr x)=(xo1 r x).map λp=>f p.2
 |[],x=>rfl
 |(y,w)::r,x=>by
  rw[xo1,zaG,zaG,ri];by_cases e:y=x
  ·rw[zaM e,zaM (by rw[e];rfl),Su]
  rw[zaJ e,zaJ (show kS (y,w)≠Sum.inr x from λz=>e (zdM z)),Su];rfl
theorem wt:∀{r:List (Str×α)}{x:Str}{v:α},(putA r x v).length<=r.length+1
 |[],_,_=>zaj _
 |(y,w)::r,x,v=>by
  rw[putA];split
  ·exact zcJ _
  have:=wt (r:=r) (x:=x) (v:=v);simp only[zLc];omega
theorem qr:∀{r:List (Str×α)}{x:Str},(xo1 r x).length<=r.length
 |[],_=>zaj _
 |(y,w)::r,x=>by
  rw[xo1];have:=qr (r:=r) (x:=x);split <;> simp only[zLc] <;> omega
structure PS1 where
 many:Nat
 shape:List (List Int)
 lines:List (Str×List Int)
 own:List (Str×Nat)
 steps:List Int
 calls:List (Str×List (List Int))
def lnD(l:List Int):D:=.tup (l.map D.int)
def x8:List Str:=["call","make","sum","let","less","open"]
def mkT:List (Str×Cst):=[("cons",.str "make"),("node",.str "make"),("add",.str "sum"),("sub",.str "sum")]
def fL:List (Str×Nat):=[("function_of",4),("line_laid",6),("paths_of",10),("first_path",11),("ends_of",12),("line_of",13),("_law_cell_at",16),("_law_whole",17),("_law_next",18),("_law_name",19),("_law_mark",20),("_law_number",21),("_law_grown_call",22),("_law_grown_e",23),("_law_grown_open",24),("_law_grown_body",25),("_law_grown_head",26),("_law_grown",27),("_law_sorting",28),("_law_turning",29),("_law_telling",30),("_law_pairing",31),("_law_piece",32),("_law_ways",33),("_law_deeds",34),("_law_is_path",35)]
def mL:List (Str×Str×Nat):=[("__init__","Path.__init__",0),("twin","Path.twin",1),("told","Path.told",2),("step","Path.step",3),("noughts","Path.noughts",4),("bring","Path.bring",5),("bring_own","Path.bring_own",6),("found_full","Path.found_full",8),("open_other","Path.open_other",9),("change","Path.change",12)]
structure AX(P:Program)(w:World)(K:W.Frag)(mg:Str->Option Value)(C:Addr)(G:Hp->Prop):Prop where
 T:Tops mg
 O:CO K C xf
 mG:Wt G
 c_KINDS:GC K mg "KINDS" (.cn (.tup (x8.map Cst.str)))
 t_MAKES:GT P w K mg "MAKES" mkT
 MI:∃fI,Mk K C fI
 mC:mg "Path" = some (.ref C)
 f:∀x i,(x,i)∈fL->∃f fd,Fun K x x (top i) f fd/\mg x=some (.ref f)
 m:∀x q i,(x,q,i)∈mL->∃f fd,Fun K x q (mth i) f fd/\Meth K C x f
 l7:∃f fd cM Pt,Fun K "found_empty" "Path.found_empty" (mth 7) f fd/\Meth K C "found_empty" f/\LamT G K mg fd.code cM Pt 107 24 "Path.found_empty.<locals>.<lambda>"
 l10:∃f fd cM Pt,Fun K "open_list" "Path.open_list" (mth 10) f fd/\Meth K C "open_list" f/\LamT G K mg fd.code cM Pt 124 20 "Path.open_list.<locals>.<lambda>"
 l11:∃f fd cM Pt,Fun K "open_tree" "Path.open_tree" (mth 11) f fd/\Meth K C "open_tree" f/\LamT G K mg fd.code cM Pt 129 20 "Path.open_tree.<locals>.<lambda>"
def vq(c:Str×List (List Int)):D:=.tup [.str c.1,.tup (c.2.map lnD)]
def psD(C:Addr)(s:PS1):D:=.ob C xf [.int s.many,.lst (s.shape.map lnD),.dk (s.lines.map kS) (s.lines.map λp=>lnD p.2),.dk (s.own.map kS) (s.own.map λp=>.int (p.2:Nat)),.dk (x8.map Sum.inr) (s.steps.map D.int),.lst (s.calls.map vq)]
def incS:List Str->List Int->Str->List Int
 |k'::ks,n::ns,k=>if k'=k then(n+1)::ns else n::incS ks ns k
 |_,ns,_=>ns
theorem k8:∀(ks:List Str)(ns:List Int)(k:Str),(incS ks ns k).length=ns.length
 |[],ns,_=>by cases ns <;> rfl
 |_::_,[],_=>rfl
 |k'::ks,n::ns,k=>by
  rw[incS];split
  ·rfl
  rw[zLc,k8,zLc]
theorem Gd:∀{ks:List Str}{ns:List Int}{k:Str},ks.length=ns.length->k∈ks->∃n,wk (ks.map (Sum.inr:Str->Key)) (ns.map D.int) (Sum.inr k)=some (.int n)/\kput (ks.map (Sum.inr:Str->Key)) (Sum.inr k)=ks.map Sum.inr/\dput (ks.map (Sum.inr:Str->Key)) (ns.map D.int) (Sum.inr k) (.int (n+1))=(incS ks ns k).map D.int
 |[],_,_,_,h=>by cases h
 |_::_,[],_,h,_=>by simp at h
 |k'::ks,n::ns,k,hl,h=>by
  have a:(Sum.inr k:Key)∈(k'::ks).map (Sum.inr:Str->Key):=zah.mpr ⟨k,h,rfl⟩;rw[zaG,zaG,wk,incS] at *;by_cases e:k'=k
  ·refine⟨n,by rw[zaM (by rw[e])],by unfold kput;rw[zaM a],?_⟩
   rw[zaM e,dput,zaM (by rw[e])]
   rfl
  obtain⟨m,J,h2,d⟩:=Gd (ks:=ks) (ns:=ns) (k:=k) (by simpa using hl) ((zam.mp h).resolve_left (Ne.symm e))
  refine⟨m,by rw[zaJ (λz=>e (zdM z))];exact J,by unfold kput;rw[zaM a],?_⟩
  rw[zaJ e,dput,zaJ (λz=>e (zdM z)),d];rfl
def tx(a:List (List Int)):yt (a.map lnD):=yq.mpr λd hd=>by
 obtain⟨l,_,rfl⟩:=zah.mp hd;exact yq.mpr λx e=>by
  obtain⟨i,_,rfl⟩:=zah.mp e;trivial
def y8(l:List Int):yz (lnD l):=(tx [l]).1
def j8(r:List (Str×List Int)):yt (r.map λp=>lnD p.2):=yq.mpr λd hd=>by
 obtain⟨p,_,rfl⟩:=zah.mp hd;exact y8 _
def cm(r:List (Str×Nat)):yt (r.map λp=>D.int (p.2:Nat)):=yq.mpr λd hd=>by
 obtain⟨p,_,rfl⟩:=zah.mp hd;trivial
def ut(r:List Int):yt (r.map D.int):=yq.mpr λd hd=>by
 obtain⟨p,_,rfl⟩:=zah.mp hd;trivial
def gj(r:List (Str×List (List Int))):yt (r.map vq):=yq.mpr λd hd=>by
 obtain⟨p,_,rfl⟩:=zah.mp hd;exact⟨zaA,tx _,zaA⟩
def yj{op:D->D->(EV->Prop)->Prop}{ta tb:TD}{U:DE}{φ:EV->Prop}(x y:EV)(J:∀ L:EV->Prop,L x->ta U L)(h2:∀ L:EV->Prop,L y->tb U L)(h:op x.d y.d φ):d2 op ta tb U φ:=J _ (h2 _ h)
def qy{Z:List D}{i:Int}{d:D}{φ:EV->Prop}(e:atI Z i=some d)(h:φ (dv d)):sIxx (.tup Z) (.int i) φ:=by
 show match atI Z i with|some d=>φ (dv d)|none=>False
 rw[e];exact h
def zn{t u:TDS}{U:DE}{ds:DZ}(h:t U {ds with nx:=λρ'=>u ρ' ds}):sSeq t u U ds:=h
def zp{i:Nat}{te:TD}{U:DE}{ds:DZ}(h:te U λr=>(match r.k with|.own=>False|_=>True)/\ds.nx (setS U i r.sto)):sSet i te U ds:=h
def yd{te:TD}{U:DE}{ds:DZ}(h:te U λr=>ds.rt r.ret):sRet te U ds:=h
def Z8{i:Nat}{d:D}{U:DE}{L:DE->Prop}(h:L (setS U i (dv d))):gN i d U L:=h
def yb{n:Nat}{T:FT}{t:TDs}{U:DE}{φ:EV->Prop}(a:List EV)(h:∀ L:List EV->Prop,L a->t U L)(e:Nat.beq a.length n=true)(hT:T (a.map EV.d) φ):Ye n T t U φ:=h _ ⟨e,hT⟩
def zt{te:TD}{t:TDs}{U:DE}{φ:List EV->Prop}(r:EV)(a:List EV)(J:∀ L:EV->Prop,L r->te U L)(h2:∀ L:List EV->Prop,L a->t U L)(h:φ (r::a)):xv te t U φ:=J _ (h2 _ h)
def Wq{te:TD}{U:DE}{φ:EV->Prop}(h:te U λr=>sTupC [r.d] φ):dCB sTupC (xv te aNil) U φ:=h
def z0o{l:List Int}{i:Nat}{x:Int}(e:l[i]?=some x):atI (l.map D.int) (i:Int)=some (.int x):=Uz aD (by rw[show((i:Int)).toNat=i from rfl,zai,e];rfl)
def Ti{l i:Nat}{ns:List Str}{f:Str}{U:DE}{φ:List Nat->Prop}{Z:List D}(a:slot U l=q_ (.ob C ns Z))(hi:ixF ns f=some i)(h:φ [i]):pFld l C ns f Pd U φ:=⟨_,Z,a,rfl,by rw[hi];exact h⟩
def fld{te:TD}{U:DE}{φ:EV->Prop}{ns:List Str}{Z:List D}{f:Str}{i:Nat}{x:D}(h:∀ L:EV->Prop,L (dv (.ob C ns Z))->te U L)(hi:ixF ns f=some i)(d:Z[i]?=some x)(a:φ (dv x)):dFld C ns f te U φ:=h _ ⟨rfl,rfl,by rw[hi];show(match Z[i]? with|some x=>φ (dv x)|none=>False);rw[d];exact a⟩
def Mu{ti:TID}{n:Nat}{js:List Nat}{te:TD}{U:DE}{φ:EV->Prop}(lo:Int)(m:Nat)(j:∀ L:List D->Prop,L (rngD lo m)->ti U L)(g:Nat->D)(u:m<=100000)(q:∀ i,i<m->te (setS (ρ0 n js U) 0 (dv (.int (lo+(i:Int))))) λr=>(match r.k with|.own=>False|_=>True)/\some (g i)=some r.d)(a:φ (df (.lst ((List.range m).map g)))):Pp ti n js (gN 0) bYes te U φ:=by
 refine xa (rngD lo m) j (λd=>match d with|.int t=>some (g (t-lo).toNat)|_=>none) (by rw[g9];exact u) (λd hd=>?_) ?_
 ·obtain⟨i,hi⟩:=zdO hd;obtain⟨l,rfl⟩:=rq hi;refine⟨λ_=>?_,λh=>nomatch h⟩;have e:(lo+(i:Int)-lo).toNat=i:=by omega
  dsimp only
  rw[e];exact q i l
 have v:(rngD lo m).filterMap (λd=>match d with|.int t=>some (g (t-lo).toNat)|_=>none)=(List.range m).map g:=by
  unfold rngD;rw[zcF,<- zcN]
  congr 1
  funext i
  have e:(lo+(i:Int)-lo).toNat=i:=by omega
  show some (g (lo+(i:Int)-lo).toNat)=_;rw[e];rfl
 rw[v];exact a
def ts_ρ{t:TQS}{U ρ':DE}{ds:QZ}(e:U=ρ')(h:t ρ' ds):t U ds:=e▸h
def Gg{te:TD}{U:DE}{L:List D->Prop}(n:Nat)(h:∀ L:EV->Prop,L (dv (.int (n:Nat)))->te U L)(d:n<=100000)(a:L (rngD 0 n)):iR1 (xv te aNil) U L:=h _ ⟨by omega,by omega,a⟩
def Rr(s:PS1)(x:Str)(l:List Int):D.ob C xf [.int s.many,.lst (s.shape.map lnD),.dk (kput (s.lines.map kS) (Sum.inr x)) (dput (s.lines.map kS) (s.lines.map λp=>lnD p.2) (Sum.inr x) (lnD l)),.dk (s.own.map kS) (s.own.map λp=>.int (p.2:Nat)),.dk (x8.map Sum.inr) (s.steps.map D.int),.lst (s.calls.map vq)]=psD C {s with lines:=putA s.lines x l}:=by
 rw[Hv (v:=l),Ot (f:=lnD)];rfl
def Br(s:PS1)(x:Str)(p:Nat):D.ob C xf [.int s.many,.lst (s.shape.map lnD),.dk (s.lines.map kS) (s.lines.map λp=>lnD p.2),.dk (kput (s.own.map kS) (Sum.inr x)) (dput (s.own.map kS) (s.own.map λp=>D.int (p.2:Nat)) (Sum.inr x) (.int (p:Nat))),.dk (x8.map Sum.inr) (s.steps.map D.int),.lst (s.calls.map vq)]=psD C {s with own:=putA s.own x p}:=by
 rw[Hv (v:=p),Ot (f:=λn:Nat=>D.int (n:Nat))];rfl
def F51(C:Addr):FTQ:=λd Z φ=>∃(s:PS1)(k:Str),d=psD C s/\Z=[.str k]/\k∈x8/\s.steps.length=6/\φ .non (psD C {s with steps:=incS x8 s.steps k})
def nou(n:Nat):List Int:=List.replicate (n+1) 0
def tNou(C:Addr):FT:=λZ φ=>∃s:PS1,Z=[psD C s]/\s.many<=1000/\φ (dv (lnD (nou s.many)))
def B3(C:Addr):FTQ:=λd Z φ=>∃(s:PS1)(x:Str)(l:List Int),d=psD C s/\Z=[.str x,lnD l]/\s.lines.length<=900/\φ .non (psD C {s with lines:=putA s.lines x l})
def unit(p n:Nat):List Int:=(List.range (n+1)).map λj=>if j=p+1 then 1 else 0
def O8(C:Addr):FTQ:=λd Z φ=>∃(s:PS1)(x:Str)(p:Nat),d=psD C s/\Z=[.str x,.int p]/\s.lines.length<=900/\s.own.length<=900/\s.many<=1000/\φ .non (psD C {s with own:=putA s.own x p,lines:=putA s.lines x (unit p s.many)})
def Wb(X:AX P w K mg C G):FM P w K mg base 1 C xf "step" ["self","kind"] (F51 C):=by
 obtain⟨f,fd,F,e⟩:=X.m "step" "Path.step" 3 aB
 have S:zv ["self","kind"] ["self","kind"] (ze (mth 3)):=by walk_at "f"
 refine Jl F S (F.binds (by walk_at "3")) e aB λqZ A outer s H xs d0 Z φ hr hl hT=>?_
 have hu:=hr.units;refine⟨_,(xc (K6 hu (bj X.O yn) (za 1) zd)),?_⟩;obtain⟨d,k,rfl,rfl,g,a,h⟩:=hT;obtain⟨n,e1,e2,e3⟩:=Gd (ks:=x8) (ns:=d.steps) (k:=k) a.symm g;refine Ti rfl ix4 ⟨_,_,_,_,n,rfl,rfl,ut _,by rw[zLm,a];decide,rfl,e1,1,rfl,_,rfl,?_⟩
 rw[e2,e3];exact h
def t7(X:AX P w K mg C G):FMD P w K mg base 1 C xf "noughts" ["self"] (tNou C):=by
 obtain⟨f,fd,F,e⟩:=X.m "noughts" "Path.noughts" 4 aB
 have S:zv ["self"] ["self"] (ze (mth 4)):=by walk_at "f"
 refine z0v F S (F.binds (by walk_at "3")) e aB λqZ A outer s H xs Z φ hr hl hT=>?_
 have hu:=hr.units;refine⟨_,(y0 (y9 (Do (zg (aJ zd)) (yg (vk X.O (za 0)) zd)))),?_⟩;obtain⟨d,rfl,e,h⟩:=hT;refine yd (yj (dv (lnD [0])) (dv (.int (d.many+1))) (λL a=>⟨rfl,rfl,a⟩) (λL a=>yj (dv (.int d.many)) (dv (.int 1)) (λL a=>fld aA ix0 rfl a) aA a) ⟨[0],d.many+1,rfl,rfl,by simp,by omega,by rw[zaV];simp;omega,?_⟩)
 rw[List.flatten_replicate_singleton];exact⟨y8 _,h⟩
def ji(X:AX P w K mg C G):FM P w K mg base 1 C xf "bring" ["self","name","line"] (B3 C):=by
 obtain⟨f,fd,F,d⟩:=X.m "bring" "Path.bring" 5 aB
 have S:zv ["self","name","line"] ["self","name","line"] (ze (mth 5)):=by walk_at "f"
 refine Jl F S (F.binds (by walk_at "3")) d aB λqZ A outer s H xs d0 Z φ hr hl hT=>?_
 have hu:=hr.units;refine⟨_,(xc (ck hu (bj X.O yn) (za 1) (za 2))),?_⟩;obtain⟨a,x,l,rfl,rfl,hl,h⟩:=hT;exact⟨y8 _,Ti rfl ix2 ⟨_,_,_,_,rfl,rfl,j8 _,by rw[zLm];omega,rfl,_,rfl,(zbZ (φ .non) (Rr a x l)).mpr h⟩⟩
def sf(X:AX P w K mg C G):FM P w K mg base 1 C xf "bring_own" ["self","name","place"] (O8 C):=by
 obtain⟨f,fd,F,g⟩:=X.m "bring_own" "Path.bring_own" 6 aB
 have S:zv ["self","name","place"] ["self","name","place"] (ze (mth 6)):=by walk_at "f"
 refine Jl F S (F.binds (by walk_at "3")) g aB λqZ A outer s H xs d0 Z φ hr hl hT=>?_
 have hu:=hr.units;refine⟨_,(yc (ck hu (bj X.O yn) (za 1) (za 2))
   (xc (ck hu (bj X.O yn) (za 1) (uc X.T.tuple (aJ (sr (T:=["other"]) (F:=["place"]) (js:=[2]) (ub X.T.range (aJ (yg (vk X.O (za 0)) zd))) (show zx (ze (mth 6)) _ ["other"] ["place"] from by walk_at "c") (.cons rfl .nil) aB (by walk_at "t") (yi aB) (x3 0) (λcl C fp s H=>w5) (λcl C fp s H=>(jt (xn hu (za 0) (yg (za 1) zd)) zd zd)))))))),?_⟩
 obtain⟨d,x,p,rfl,rfl,hl,k,g,h⟩:=hT;refine⟨zaA,Ti rfl ix3 ⟨_,_,_,_,rfl,rfl,cm _,by rw[zLm];omega,rfl,?_⟩⟩
 dsimp only
 refine ts_ρ (zbZ (λz=>[q_ z,q_ (.str x),q_ (.int p)]) (Br (C:=C) d x p)) ?_;refine Wq (Mu 0 (d.many+1) (λL a=>Gg (d.many+1) (λL a=>yj (dv (.int d.many)) (dv (.int 1)) (λL a=>fld aA ix0 rfl a) aA a) aD a) (λj=>.int (if j=p+1 then 1 else 0)) aD (λj l=>?_) ?_)
 ·refine⟨zaA,zaA,?_⟩;rw[qm];by_cases e:j=p+1
  ·rw[zaM e,show((0:Int)+(j:Int)==(p:Int)+1)=true from by rw[zeH];omega]
   exact⟨λ_=>⟨zaA,rfl⟩,nofun⟩
  rw[zaJ e,show((0:Int)+(j:Int)==(p:Int)+1)=false from by rw[zaS];omega]
  exact⟨nofun,λ_=>⟨zaA,rfl⟩⟩
 have e:(List.range (d.many+1)).map (λj=>D.int (if j=p+1 then 1 else 0))=(unit p d.many).map D.int:=by
  unfold unit;rw[zaZ];rfl
 rw[e];exact⟨y8 (unit p d.many),Ti rfl ix2 ⟨_,_,_,_,rfl,rfl,j8 _,by rw[zLm];exact zak hl aB,rfl,_,rfl,(zbZ (φ .non) (Rr {d with own:=putA d.own x p} x (unit p d.many))).mpr h⟩⟩
def unI1:D->Int
 |.int i=>i
 |_=>0
def unL:D->List Int
 |.tup Z=>Z.map unI1
 |_=>[]
def cy(l:List Int):unL (lnD l)=l:=by
 show(l.map D.int).map unI1=l;rw[zaZ];exact List.map_id l
def chg(f:List Int->List Int)(s:PS1):PS1:={s with shape:=s.shape.map f,lines:=s.lines.map λp=>(p.1,f p.2),calls:=s.calls.map λc=>(c.1,c.2.map f)}
def AllL(s:PS1)(P:List Int->Prop):Prop:=(∀l∈s.shape,P l)/\(∀p∈s.lines,P p.2)/\∀c∈s.calls,∀l∈c.2,P l
structure Few(s:PS1):Prop where
 sh:s.shape.length<=900
 ln:s.lines.length<=900
 ow:s.own.length<=900
 ca:s.calls.length<=900
 cl:∀c∈s.calls,c.2.length<=900
 nd:(s.lines.map Prod.fst).Nodup
 st:s.steps.length=6
 mn:s.many<=900
def Fc(C:Addr):FG->D->(D->Prop)->Prop:=λG d φ=>∃(s:PS1)(f:List Int->List Int),d=psD C s/\Few s/\AllL s (λl=>∀L:D->Prop,L (lnD (f l))->G (lnD l) L)/\φ (psD C (chg f s))
def chSc:Scope:={kind:=ScopeKind.function,names:=[(Str.ofString ".0",NameKind.local),(Str.ofString "name",NameKind.local),(Str.ofString "lines",NameKind.local),(Str.ofString "tuple",NameKind.globalImplicit),(Str.ofString "changed",NameKind.cell)],isGenerator:=false,isCoroutine:=false}
def Qr{ti:TID}{n:Nat}{js:List Nat}{te:TD}{U:DE}{φ:EV->Prop}(a:List (List Int))(f:List Int->List Int)(j:∀ L:List D->Prop,L (a.map lnD)->ti U L)(hl:a.length<=100000)(q:∀ l∈a,te (setS (ρ0 n js U) 0 (dv (lnD l))) λr=>(match r.k with|.own=>False|_=>True)/\some (lnD (f l))=some r.d)(g:φ (df (.lst ((a.map f).map lnD)))):Pp ti n js (gN 0) bYes te U φ:=by
 refine xa (a.map lnD) j (λd=>some (lnD (f (unL d)))) (by rw[zLm];exact hl) (λd hd=>?_) ?_
 ·obtain⟨l,hl,rfl⟩:=zah.mp hd;refine⟨λ_=>?_,λh=>nomatch h⟩;rw[cy];exact q l hl
 have e:(a.map lnD).filterMap (λd=>some (lnD (f (unL d))))=(a.map f).map lnD:=by
  rw[zcF,zaZ,<- zcN]
  congr 1
  funext l
  show some (lnD (f (unL (lnD l))))=some (lnD (f l));rw[cy]
 rw[e];exact g
def Sm{te:TD}{U:DE}{φ:List D->Prop}(h:te U λr=>(match r.k with|.own=>False|_=>True)/\match Vo r.d with|some Z=>φ Z|none=>False):iSeq te U φ:=h
def yh{t u:TQS}{U:DE}{ds:QZ}(h:t U {ds with nx:=λρ'=>u ρ' ds}):qSeq t u U ds:=h
def De{ns:List Str}{f:Str}{i:Nat}{Z:List D}{a:TF}{U:DE}{ds:QZ}{x:D}(d:∀ L:D->Prop,L x->a U L)(e:slot U 0=q_ (.ob C ns Z))(hi:ixF ns f=some i)(g:ns.length<=100)(h:ds.nx (setS U 0 (dv (.ob C ns (Z.set i x))))):qFld 0 C ns f Pd a U ds :=
 d _ ⟨_,Z,e,rfl,g,by rw[hi];exact h⟩
def Gi(l:List Int):fltD (lnD l):=qi.mpr λd hd=>by
 obtain⟨i,_,rfl⟩:=zah.mp hd;trivial
def rowF(f:List Int->List Int):D->Option D
 |.tup [x,l]=>some (.tup [x,lnD (f (unL l))])
 |_=>none
def Dy(f:List Int->List Int):D->Option D
 |.tup [x,.tup ls]=>some (.tup [x,.tup (ls.map λl=>lnD (f (unL l)))])
 |_=>none
def Xi(r:List (Str×List Int)):g6 (r.map kS) (r.map λp=>lnD p.2)=r.map λp=>.tup [.str p.1,lnD p.2]:=by
 unfold g6;rw[List.zip_map',zaZ];rfl
def Rk(f:List Int->List Int)(r:List (Str×List Int)):(r.map λp=>D.tup [.str p.1,lnD p.2]).filterMap (rowF f)=r.map λp=>.tup [.str p.1,lnD (f p.2)]:=by
 rw[zcF,<- zcN]
 congr 1
 funext p
 show some (D.tup [.str p.1,lnD (f (unL (lnD p.2)))])=_;rw[cy];rfl
def Qv(f:List Int->List Int)(c:Str×List (List Int)):Dy f (vq c)=some (vq (c.1,c.2.map f)):=by
 show some (D.tup [.str c.1,.tup ((c.2.map lnD).map λl=>lnD (f (unL l)))])=some (.tup [.str c.1,.tup ((c.2.map f).map lnD)]);rw[zaZ,zaZ]
 congr 6
 funext l
 show lnD (f (unL (lnD l)))=lnD (f l);rw[cy]
def L7(f:List Int->List Int)(r:List (Str×List (List Int))):(r.map vq).filterMap (Dy f)=(r.map λc=>(c.1,c.2.map f)).map vq:=by
 rw[zcF,zaZ,<- zcN]
 congr 1
 funext c
 exact Qv f c
def z2x{α:Type}{r:List (Str×α)}(h:(r.map Prod.fst).Nodup):(r.map (kS (α:=α))).Nodup:=by
 have e:r.map (kS (α:=α))=(r.map Prod.fst).map (Sum.inr:Str->Key):=by rw[zaZ];rfl
 rw[e];exact List.Pairwise.map _ (λa b z h=>z (zdM h)) h
def gz(X:AX P w K mg C G):FMC P w K mg base 2 1 C xf "change" ["self","changed"] (Fc C):=by
 obtain⟨f,fd,F,v⟩:=X.m "change" "Path.change" 12 aB
 have S:zv ["self","changed"] ["self","changed"] (ze (mth 12)):=by walk_at "f"
 refine z0w F S (F.binds (by walk_at "3")) v aB rfl λqZ A outer s H xs o G d φ hr hT=>?_
 have hu:=hr.units;refine⟨_,(yc (q5 X.O yn (wy (sr (T:=["line"]) (F:=["changed"]) (js:=[1]) (xu (vk X.O (za 0))) (show zx (ze (mth 12)) _ ["line"] ["changed"] from by walk_at "c") (.cons rfl .nil) aB (by walk_at "t") (yi aB) (x3 0) (λcl C fp s H=>w5) (λcl C fp s H=>(Wl 1 (λH h=>h.ok) (hr.e rfl) (za 0))))))
  (yc (q5 X.O yn (wy (Wk X.T.dict (aJ (Ju (T:=["name","line"]) 0 1 X.O (λH_ H a kvs ob h s e=>h.frz s e) (show zx (ze (mth 12)) _ ["name","line"] ["changed"] from by walk_at "c") rfl (by walk_at "t") (dh (xy yv (qe yv uj) (yi aB) (xy yv uj (yi aB) dj))) (uz 0 1) (λcl C fp s H=>(zg (aK (za 0) (Wl 2 (λH h=>h.ok) (hr.e rfl) (za 1))))))))))
  (xc (q5 X.O yn (wy (sr (T:=["name","lines"]) (F:=["changed"]) (js:=[1]) (xu (vk X.O (za 0))) (show zx (ze (mth 12)) _ ["name","lines"] ["changed"] from by walk_at "c") (.cons rfl .nil) aB (by walk_at "t") (dh (xy yv (qe yv uj) (yi aB) (xy yv uj (yi aB) dj))) (uz 0 1) (λcl C fp s H=>w5) (λcl C fp s H=>(zg (aK (za 0) (uc X.T.tuple (aJ (sr (T:=["line"]) (F:=["changed"]) (js:=[2]) (xu (za 1)) (show zx chSc _ ["line"] ["changed"] from by walk_at "c") (.cons rfl .nil) aB (by walk_at "t") (yi aB) (x3 0) (λcl C fp s H=>w5) (λcl C fp s H=>(Wl 1 (λH h=>h.ok) (hr.e rfl) (za 0))))))))))))))),?_⟩
 obtain⟨j,k,rfl,q,⟨a1,a2,y⟩,h⟩:=hT;refine yh (De (x:=.lst ((j.shape.map k).map lnD)) (λL g=>Qr j.shape k (λL g=>Sm (fld aA ix1 rfl ⟨zaA,g⟩)) (zak q.sh aB) (λl hl=>⟨rfl,zaA,y8 l,a1 l hl _ ⟨zaA,rfl⟩⟩) ⟨tx _,g⟩) rfl ix1 aB ?_)
 dsimp only
 refine yh (De (Z:=[.int j.many,.lst ((j.shape.map k).map lnD),.dk (j.lines.map kS) (j.lines.map λp:Str×List Int=>lnD p.2),.dk (j.own.map kS) (j.own.map λp:Str×Nat=>D.int (p.2:Nat)),.dk (x8.map Sum.inr) (j.steps.map D.int),.lst (j.calls.map vq)]) (x:=.dk ((chg k j).lines.map kS) ((chg k j).lines.map λp:Str×List Int=>lnD p.2)) (λL g=>?_) rfl ix2 aB ?_)
 ·refine⟨_,_,_,2,o,rfl,rfl,ix2,rfl,qi.mpr λd hd=>?_,?_,rowF k,?_,?_,?_⟩
  ·obtain⟨p,_,rfl⟩:=zah.mp hd;exact Gi _
  ·rw[zLm];exact zak q.ln aB
  ·rw[Xi];intro d hd;obtain⟨p,u,rfl⟩:=zah.mp hd;refine⟨λ_=>⟨rfl,zaA,y8 p.2,a2 p u _ ⟨rfl,rfl,zaA,?_⟩⟩,λh=>nomatch h⟩;show some (D.tup [.str p.1,lnD (k (unL (lnD p.2)))])=_;rw[cy];rfl
  ·rw[Xi,Rk];exact qi.mpr λd hd=>by
    obtain⟨p,_,rfl⟩:=zah.mp hd;exact⟨zaA,Gi _,zaA⟩
  rw[Xi,Rk];refine⟨(chg k j).lines.map kS,(chg k j).lines.map λp:Str×List Int=>lnD p.2,?_,by rw[zLm,zLm],z2x ?_,j8 _,g⟩
  ·unfold V9;rw[List.zip_map',zaZ];show _=(j.lines.map λp=>(p.1,k p.2)).map _;rw[zaZ];rfl
  show((j.lines.map λp=>(p.1,k p.2)).map Prod.fst).Nodup;rw[zaZ];exact q.nd
 dsimp only
 refine De (Z:=[.int j.many,.lst ((j.shape.map k).map lnD),.dk ((chg k j).lines.map kS) ((chg k j).lines.map λp:Str×List Int=>lnD p.2),.dk (j.own.map kS) (j.own.map λp:Str×Nat=>D.int (p.2:Nat)),.dk (x8.map Sum.inr) (j.steps.map D.int),.lst (j.calls.map vq)]) (x:=.lst ((chg k j).calls.map vq)) (λL g=>xa (j.calls.map vq) (λL g=>Sm (fld aA ix5 rfl ⟨zaA,g⟩)) (Dy k) (by rw[zLm];exact zak q.ca aB) (λd hd=>?_) ?_) rfl ix5 aB ⟨_,rfl,h⟩
 ·obtain⟨c,r,rfl⟩:=zah.mp hd;rw[Qv];refine⟨λ_=>(zt (dv (.str c.1)) [dv (.tup ((c.2.map k).map lnD))] aA (λL g=>zt _ [] (λL g=>Wq (Qr c.2 k (λL g=>?_) (zak (q.cl c r) aB) ?_ ?_)) aA g) ?_),λh=>nomatch h⟩
  ·exact⟨zaA,g⟩
  ·exact λl hl=>⟨rfl,zaA,y8 l,y c r l hl _ ⟨zaA,rfl⟩⟩
  ·exact g
  exact⟨rfl,rfl,zaA,rfl⟩
 rw[L7];exact⟨gj _,g⟩
def Ff{l:List Int}{p:Nat}{φ:EV->Prop}(h:p+1<l.length)(a:φ (dv (lnD (l.take (p+1))))):sSl (lnD l) none (some ((p:Int)+1)) φ:=by
 refine⟨λz=>?_,?_⟩
 ·have:=z.2;rw[show((p:Int)+1)=((p+1:Nat):Int) from rfl,ZZ.sIx_nat,zLm]at this;omega
 have e:=Uq (l.map D.int) (p+1);rw[show(((p+1:Nat):Int))=(p:Int)+1 from rfl]at e;rw[e,<- List.map_take];exact a
def T6{l:List Int}{k:Nat}{φ:EV->Prop}(h:0<k)(hl:0<l.length)(a:φ (dv (lnD (l.drop k)))):sSl (lnD l) (some (k:Int)) none φ:=by
 refine⟨λz=>?_,?_⟩
 ·have:=z.1;rw[ZZ.sIx_nat,zLm]at this;omega
 rw[ju,<- List.map_drop];exact a
def Um{te:TD}{tl th:TDo}{U:DE}{φ:EV->Prop}(h:te U λx=>tl U λl=>th U λu=>sSl x.d l u φ):dSl te tl th U φ:=h
def Zr{ta tb:TD}{U:DE}{φ:EV->Prop}(a b:List Int)(d kb:Kd)(J:∀ L:EV->Prop,L ⟨d,lnD a⟩->ta U L)(h2:∀ L:EV->Prop,L ⟨kb,lnD b⟩->tb U L)(g:xx ⟨d,lnD a⟩)(e:xx ⟨kb,lnD b⟩)(hl:a.length+b.length<=10000)(h:φ ⟨.new,lnD (a++b)⟩):Up ta tb U φ:=J _ (h2 _ ⟨g,e,by rw[zLm,zLm,zaV];omega,by
 unfold lnD at h;rw[zMa]at h;exact h⟩)
def Oy(s:PS1)(x:Str):D.ob C xf [.int s.many,.lst (s.shape.map lnD),.dk (s.lines.map kS) (s.lines.map λp=>lnD p.2),.dk (Zz (s.own.map kS) (Sum.inr x)) (ri (s.own.map kS) (s.own.map λp=>D.int (p.2:Nat)) (Sum.inr x)),.dk (x8.map Sum.inr) (s.steps.map D.int),.lst (s.calls.map vq)]=psD C {s with own:=xo1 s.own x}:=by
 rw[Ss,Su (f:=λn:Nat=>D.int (n:Nat))];rfl
theorem se{α:Type}:∀{r:List (Str×α)}{x:Str}{v:α},getA r x=some v->(x,v)∈r
 |[],_,_,h=>by cases h
 |(y,w)::r,x,v,h=>by
  rw[getA]at h;split at h
  ·rename_i e;cases h;rw[e];exact zao
  exact zal _ (se h)
def x6{te:TQ}{U:DE}{ds:QZ}(h:te U λ_ a=>ds.nx a):K8 te U ds:=h
def Tf{tc:TDb}{t u:TQS}{U:DE}{ds:QZ}(b:Bool)(h:∀ L:Bool->Prop,L b->tc U L)(J:b=true->t U ds)(h2:b=false->u U ds):qIf (qT tc) t u U ds:=h _ ⟨J,h2⟩
structure WF(s:PS1):Prop where
 few:Few s
 len:AllL s λl=>l.length=s.many+1
 own:∀p∈s.own,p.2<s.many
def empL(p:Nat)(l:List Int):List Int:=l.take (p+1)++[0]++l.drop (p+2)
def foundE(x:Str)(s:PS1):PS1:=match getA s.own x with
 |some p=>chg (empL p) {s with own:=xo1 s.own x}
 |none=>s
def Fb(C:Addr):FTQ:=λd Z φ=>∃(s:PS1)(x:Str),d=psD C s/\Z=[.str x]/\WF s/\φ .non (psD C (foundE x s))
def Za(X:AX P w K mg C G):FMG G P w K mg base 4 C xf "found_empty" ["self","name"] (Fb C):=by
 obtain⟨f,fd,_,_,F,r,g⟩:=X.l7;have S:zv ["self","name","place"] ["self","name"] (ze (mth 7)):=by walk_at "f"
 refine Z9 F S (F.binds (by walk_at "3")) r aB λA outer s H xs d0 Z φ hr hl hT=>?_
 have hu:=hr.units;refine⟨_,(yc (Ro 2 aB S.nd (bj X.O yn) (za 1))
   (xc (Zv (gc (Jq (za 2) Gn)) (xc (xi (Mi (kb:=0) X.O (gz X) (hr.e rfl) 2 g.tb g.cd g.hd g.bt rfl rfl rfl rfl rfl rfl aB rfl rfl rfl rfl (λ_ _ _ _=>rfl) (λN M Q o1 d H1 v=>(Zi (Zi (u4 (za 0) qo (uh (yg (za 1) zd))) (zg (aJ zd))) (u4 (za 0) (uh (yg (za 1) zd)) qo)))))) ba))),?_⟩
 obtain⟨d,x,rfl,rfl,wf,h⟩:=hT;have pw:=wf.few;refine yh (Ti rfl ix3 ⟨_,_,_,rfl,rfl,cm _,Sum.inr x,rfl,λy u=>?_,λj=>?_⟩)
 ·rw[rg (f:=λn:Nat=>D.int (n:Nat))]at u;obtain⟨p,ep,rfl⟩:=zar.mp u;have h1:=wf.own _ (se ep)
  dsimp only
  refine ts_ρ (zbZ (λz=>[q_ z,q_ (.str x),q_ (.int (p:Nat))]) (Oy (C:=C) d x)) ?_;refine Tf true aA (λ_=>x6 ⟨p,_,rfl,rfl,{d with own:=xo1 d.own x},empL p,rfl,⟨pw.sh,pw.ln,zak qr pw.ow,pw.ca,pw.cl,pw.nd,pw.st,pw.mn⟩,?_,_,rfl,?_⟩) nofun
  ·have go:∀l:List Int,l.length=d.many+1->∀L:D->Prop,L (lnD (empL p l))->gLam (Up (Up (dSl (v7 0) Tq (Xu (d2 sAdd (v7 1) (dC (D.int 1))))) (dTup (xv (dC (D.int 0)) aNil))) (dSl (v7 0) (Xu (d2 sAdd (v7 1) (dC (D.int 2)))) Tq)) p (lnD l) L:=λl hl L a=>by
    have r:=pw.mn;have l1:(l.take (p+1)).length<=901:=by rw[zcC];omega
    have l2:(l.drop (p+2)).length<=901:=by rw[zdC];omega
    refine Zr (l.take (p+1)++[0]) (l.drop (p+2)) .new .val (λL a=>Zr (l.take (p+1)) [0] .val .val (λL a=>Um (Ff aD a)) (λL a=>⟨rfl,rfl,a⟩) (y8 _) (y8 _) (by simp only[zLc,zLn];omega) a) (λL a=>Um (T6 (k:=p+2) aD aD a)) ?_ (y8 _) (by rw[zLa];simp only[zLc,zLn];omega) ⟨zaA,y8 _,a⟩
    first|exact y8 _|trivial
   exact⟨λl hl=>go l (wf.len.1 l hl),λq B=>go q.2 (wf.len.2.1 q B),λc I l hl=>go l (wf.len.2.2 c I l hl)⟩
  unfold foundE at h;rw[ep]at h;exact h
 rw[rg (f:=λn:Nat=>D.int (n:Nat))]at j;have ep:getA d.own x=none:=by
  cases e:getA d.own x with
  |none=>rfl
  |some p=>rw[e]at j;cases j
 dsimp only
 refine Tf false aA nofun (λ_=>⟨_,rfl,?_⟩);unfold foundE at h;rw[ep]at h;exact h
def xt{l n:Nat}{ns:List Str}{T:FTQ}{t:TQs}{U:DE}{φ:D->DE->Prop}{Z:List D}(es:List D)(a:slot U l=q_ (.ob C ns Z))(d:∀ L:List D->DE->Prop,L es U->t U L)(e:Nat.beq (es.length+1) n=true)(hT:T (.ob C ns Z) es λr d'=>φ r (setS U l (dv d'))):Te l n C ns T t U φ:=⟨Z,a,d _ (by rw[a];exact⟨e,hT⟩)⟩
def xm{l:Nat}{te:TD}{e:TQs}{U:DE}{φ:List D->DE->Prop}(d:D)(Z:List D)(h:∀ L:EV->Prop,L (dv d)->te (hid l U) L)(h2:∀ L:List D->DE->Prop,L Z U->e U L)(a:φ (d::Z) U):Xk (l:=l) te e U φ:=h _ ⟨zaA,h2 _ a⟩
def Yp{te:TD}{e:TQs}{U:DE}{φ:List D->DE->Prop}(d:D)(Z:List D)(h:∀ L:EV->Prop,L (dv d)->te U L)(g:yz d)(h2:∀ L:List D->DE->Prop,L Z U->e U L)(a:φ (d::Z) U):Oo (qE te) e U φ:=h _ ⟨g,h2 _ a⟩
def Vf{n:Nat}{te:TD}{U:DE}{φ:EV->Prop}{s:PS1}(h:∀ L:EV->Prop,L (dv (psD C s))->te U L)(e:s.many<=1000)(d:Nat.beq 1 n=true)(a:φ (dv (lnD (nou s.many)))):z1j n C xf (tNou C) te aNil U φ:=h _ ⟨⟨_,rfl⟩,d,s,rfl,e,a⟩
def vm(x:Str)(l:List Int)(s:PS1):PS1:={s with lines:=putA s.lines x l}
def bringO(x:Str)(p:Nat)(s:PS1):PS1:={s with own:=putA s.own x p,lines:=putA s.lines x (unit p s.many)}
def shL(p:Nat)(l:List Int):List Int:=(l.getD 0 0+l.getD (p+1) 0)::l.drop 1
def shT(p:Nat)(l:List Int):List Int:=shL p l++[l.getD (p+1) 0]
def Ab(p:Nat)(h t:Str)(s:PS1):PS1:=bringO t p (vm h (nou s.many) (chg (shL p) s))
def Aa(p:Nat)(a b c:Str)(s:PS1):PS1:=bringO c s.many (vm b (nou (s.many+1)) (bringO a p {chg (shT p) s with many:=s.many+1}))
def Cp(C:Addr):FTQ:=λd Z φ=>∃(s:PS1)(p:Nat)(h t:Str),d=psD C s/\Z=[.int p,.tup [.str h,.str t]]/\WF s/\p<s.many/\s.lines.length<=800/\s.own.length<=800/\φ .non (psD C (Ab p h t s))
def Cm(C:Addr):FTQ:=λd Z φ=>∃(s:PS1)(p:Nat)(a b c:Str),d=psD C s/\Z=[.int p,.tup [.str a,.str b,.str c]]/\WF s/\p<s.many/\s.lines.length<=800/\s.own.length<=800/\φ .non (psD C (Aa p a b c s))
def z2y{l:List Int}{i:Nat}(h:i<l.length):atI (l.map D.int) (i:Int)=some (.int (l.getD i 0)):=z0o (by rw[zaf h,zaq,zaf h];rfl)
def ixl{l:List Int}{i:Nat}{φ:EV->Prop}(h:i<l.length)(a:φ (dv (.int (l.getD i 0)))):sIxx (lnD l) (.int (i:Nat)) φ:=qy (z2y h) a
def Wa(X:AX P w K mg C G):FMG G P w K mg base 4 C xf "open_list" ["self","place","brought"] (Cp C):=by
 obtain⟨f,fd,_,_,F,r,j⟩:=X.l10;have S:zv ["self","place","brought"] ["self","place","brought"] (ze (mth 10)):=by walk_at "f"
 refine Z9 F S (F.binds (by walk_at "3")) r aB λA outer s H xs d0 Z φ hr hl hT=>?_
 have hu:=hr.units;refine⟨_,(yc (xi (Mi (kb:=0) X.O (gz X) (hr.e rfl) 1 j.tb j.cd j.hd j.bt rfl rfl rfl rfl rfl rfl aB rfl rfl rfl rfl (λ_ _ _ _=>rfl) (λh1 I M o1 d H1 g=>(Zi (zg (aJ (yg (zk g.units (za 0) zd) (zk g.units (za 0) (yg (za 1) zd))))) (u4 (za 0) (uh zd) qo)))))
   (yc (xi (vo X.O (ji X) (hr.e rfl) (ye (zk hu (za 2) zd) (j0 (fh (jr X.O (t7 X) (hr.e rfl) (za 0))) vh))))
   (xc (xi (vo X.O (sf X) (hr.e rfl) (ye (zk hu (za 2) zd) (ye (za 1) vh))))))),?_⟩
 obtain⟨d,p,x,y,rfl,rfl,wf,B,hl1,v,h⟩:=hT;have pw:=wf.few;have r:=pw.mn;refine yh (x6 ⟨p,_,rfl,rfl,d,shL p,rfl,pw,?_,?_⟩)
 ·have go:∀l:List Int,l.length=d.many+1->∀L:D->Prop,L (lnD (shL p l))->gLam (Up (dTup (xv (d2 sAdd (d2 sIxx (v7 0) (dC (D.int 0))) (d2 sIxx (v7 0) (d2 sAdd (v7 1) (dC (D.int 1))))) aNil)) (dSl (v7 0) (Xu (dC (D.int 1))) Tq)) p (lnD l) L:=λl hl L a=>by
   refine Zr [l.getD 0 0+l.getD (p+1) 0] (l.drop 1) .val .val (λL a=>?_) (λL a=>Um (T6 (k:=1) aD aD a)) (y8 _) (y8 _) (by simp only[zLc,zLn,zdC];omega) ⟨zaA,y8 _,a⟩
   exact(zt (dv (.int (l.getD 0 0+l.getD (p+1) 0))) [] (λL a=>yj (dv (.int (l.getD 0 0))) (dv (.int (l.getD (p+1) 0))) (λL a=>yj (dv (lnD l)) (dv (.int (0:Nat))) aA aA (ixl aD a)) (λL a=>yj (dv (lnD l)) (dv (.int (p+1:Nat))) aA aA (ixl aD a)) a) aA ⟨rfl,rfl,a⟩)
  exact⟨λl hl=>go l (wf.len.1 l hl),λq u=>go q.2 (wf.len.2.1 q u),λc z l hl=>go l (wf.len.2.2 c z l hl)⟩
 dsimp only
 refine yh (x6 (xt [.str x,lnD (nou d.many)] rfl (λL a=>xm (.str x) _ aA (λL a=>Yp _ [] (λL a=>Vf (s:=chg (shL p) d) aA (by show d.many<=_;omega) rfl a) (y8 _) aA a) a) rfl ⟨chg (shL p) d,x,_,rfl,rfl,by show(d.lines.map _).length<=_;rw[zLm];omega,?_⟩))
 dsimp only
 refine x6 (xt [.str y,.int (p:Nat)] rfl (λL a=>xm (.str y) _ aA (λL a=>xm _ [] aA aA a) a) rfl ⟨vm x (nou d.many) (chg (shL p) d),y,p,rfl,rfl,?_,by show d.own.length<=_;omega,by show d.many<=_;omega,_,rfl,h⟩)
 refine zak wt ?_;show(d.lines.map _).length+1<=_;rw[zLm];omega
def W9(X:AX P w K mg C G):FMG G P w K mg base 4 C xf "open_tree" ["self","place","brought"] (Cm C):=by
 obtain⟨f,fd,_,_,F,u,r⟩:=X.l11;have S:zv ["self","place","brought"] ["self","place","brought"] (ze (mth 11)):=by walk_at "f"
 refine Z9 F S (F.binds (by walk_at "3")) u aB λA outer s H xs d0 Z φ hr hl hT=>?_
 have hu:=hr.units;refine⟨_,(yc (xi (Mi (kb:=0) X.O (gz X) (hr.e rfl) 1 r.tb r.cd r.hd r.bt rfl rfl rfl rfl rfl rfl aB rfl rfl rfl rfl (λ_ _ _ _=>rfl) (λh1 I M o1 g H1 j=>(Zi (Zi (zg (aJ (yg (zk j.units (za 0) zd) (zk j.units (za 0) (yg (za 1) zd))))) (u4 (za 0) (uh zd) qo)) (zg (aJ (zk j.units (za 0) (yg (za 1) zd))))))))
   (yc (Om X.O yn zd)
   (yc (xi (vo X.O (sf X) (hr.e rfl) (ye (zk hu (za 2) zd) (ye (za 1) vh))))
   (yc (xi (vo X.O (ji X) (hr.e rfl) (ye (zk hu (za 2) zd) (j0 (fh (jr X.O (t7 X) (hr.e rfl) (za 0))) vh))))
   (xc (xi (vo X.O (sf X) (hr.e rfl) (ye (zk hu (za 2) zd) (j0 (fh (ud (vk X.O (za 0)) zd)) vh))))))))),?_⟩
 obtain⟨g,p,a,b,c,rfl,rfl,wf,B,hl1,y,h⟩:=hT;have pw:=wf.few;have u:=pw.mn;refine yh (x6 ⟨p,_,rfl,rfl,g,shT p,rfl,pw,?_,?_⟩)
 ·have go:∀l:List Int,l.length=g.many+1->∀L:D->Prop,L (lnD (shT p l))->gLam (Up (Up (dTup (xv (d2 sAdd (d2 sIxx (v7 0) (dC (D.int 0))) (d2 sIxx (v7 0) (d2 sAdd (v7 1) (dC (D.int 1))))) aNil)) (dSl (v7 0) (Xu (dC (D.int 1))) Tq)) (dTup (xv (d2 sIxx (v7 0) (d2 sAdd (v7 1) (dC (D.int 1)))) aNil))) p (lnD l) L:=λl hl L d=>by
   refine Zr (shL p l) [l.getD (p+1) 0] .new .val (λL d=>Zr [l.getD 0 0+l.getD (p+1) 0] (l.drop 1) .val .val (λL d=>?_) (λL d=>Um (T6 (k:=1) aD aD d)) (y8 _) (y8 _) (by simp only[zLc,zLn,zdC];omega) d) (λL d=>?_) trivial (y8 _) (by unfold shL;simp only[zLc,zLn,zdC];omega) ⟨zaA,y8 _,d⟩
   ·exact(zt (dv (.int (l.getD 0 0+l.getD (p+1) 0))) [] (λL d=>yj (dv (.int (l.getD 0 0))) (dv (.int (l.getD (p+1) 0))) (λL d=>yj (dv (lnD l)) (dv (.int (0:Nat))) aA aA (ixl aD d)) (λL d=>yj (dv (lnD l)) (dv (.int (p+1:Nat))) aA aA (ixl aD d)) d) aA ⟨rfl,rfl,d⟩)
   exact(zt (dv (.int (l.getD (p+1) 0))) [] (λL d=>yj (dv (lnD l)) (dv (.int (p+1:Nat))) aA aA (ixl aD d)) aA ⟨rfl,rfl,d⟩)
  exact⟨λl hl=>go l (wf.len.1 l hl),λq x=>go q.2 (wf.len.2.1 q x),λc z l hl=>go l (wf.len.2.2 c z l hl)⟩
 dsimp only
 have v:(chg (shT p) g).lines.length=g.lines.length:=zLm _;refine yh ⟨_,_,0,g.many,rfl,rfl,by decide,ix0,rfl,1,rfl,?_⟩
 dsimp only
 refine yh (x6 (xt [.str a,.int (p:Nat)] rfl (λL d=>xm (.str a) _ aA (λL d=>xm _ [] aA aA d) d) rfl ⟨{chg (shT p) g with many:=g.many+1},a,p,rfl,rfl,by show(chg (shT p) g).lines.length<=_;omega,by show g.own.length<=_;omega,by show g.many+1<=_;omega,?_⟩))
 dsimp only
 have l1:(putA (chg (shT p) g).lines a (unit p (g.many+1))).length<=g.lines.length+1:=by rw[<- v];exact wt
 refine yh (x6 (xt [.str b,lnD (nou (g.many+1))] rfl (λL d=>xm (.str b) _ aA (λL d=>Yp _ [] (λL d=>Vf (s:=bringO a p {chg (shT p) g with many:=g.many+1}) aA (by show g.many+1<=_;omega) rfl d) (y8 _) aA d) d) rfl ⟨bringO a p {chg (shT p) g with many:=g.many+1},b,_,rfl,rfl,by show(putA (chg (shT p) g).lines a (unit p (g.many+1))).length<=_;omega,?_⟩))
 dsimp only
 refine x6 (xt [.str c,.int (g.many:Nat)] rfl (λL d=>xm (.str c) _ aA (λL d=>Yp (.int (g.many:Nat)) [] (λL d=>yj (dv (.int (g.many+1:Nat))) (dv (.int 1)) (λL d=>fld aA ix0 rfl d) aA ?_) trivial aA d) d) rfl ⟨vm b (nou (g.many+1)) (bringO a p {chg (shT p) g with many:=g.many+1}),c,g.many,rfl,rfl,?_,?_,by show g.many+1<=_;omega,_,rfl,h⟩)
 ·have e:((g.many+1:Nat):Int)-1=g.many:=by omega
  show L (dv (.int (((g.many+1:Nat):Int)-1)));rw[e];exact d
 ·refine zak wt ?_;show(putA (chg (shT p) g).lines a (unit p (g.many+1))).length+1<=_;omega
 refine zak wt ?_;show g.own.length+1<=_;omega
def ur{l j:Nat}{te:TD}{U:DE}{ds:QZ}(r:EV)(h:∀ L:EV->Prop,L r->te (hid l U) L)(a:match r.k with|.own=>False|_=>True)(h2:ds.nx (setS U j r.sto)):qSet l j te U ds:=h _ ⟨a,h2⟩
def qf{i j:Nat}{a b:D}{U:DE}{L:DE->Prop}(h:L (setS (setS U i (dv a)) j (dv b))):gT2 i j (.tup [a,b]) U L:=h
def Gm{l:List D}{i:Nat}{d:D}(h:(enD l)[i]?=some d):∃x,l[i]?=some x/\d=.tup [.int i,x]:=by
 unfold enD at h;rw[zai,List.getElem?_zipIdx]at h;cases e:l[i]? with
 |none=>rw[e]at h;cases h
 |some x =>
  rw[e]at h;refine⟨x,rfl,?_⟩;have:=zaT h;rw[<- this];simp
def openO(k:Nat)(l:List Int):Nat->List Str->PS1->PS1
 |_,[],s=>s
 |i,x::r,s=>openO k l (i+1) r (vm x (if i=k then nou s.many else l) s)
def qc(a:Str):Nat:=if a = "list" then 0 else 1
def Co(C:Addr):FTQ:=λd Z φ=>∃(s:PS1)(kind:Str)(l:List Int)(E:List Str),d=psD C s/\Z=[.str kind,lnD l,.tup (E.map D.str)]/\E.length<=3/\s.lines.length<=800/\s.many<=1000/\φ .non (psD C (openO (qc kind) l 0 E s))
def Y0(X:AX P w K mg C G):FMG G P w K mg base 4 C xf "open_other" ["self","kind","line","brought"] (Co C):=by
 obtain⟨f,fd,F,u⟩:=X.m "open_other" "Path.open_other" 9 aB
 have S:zv ["self","kind","line","brought","number","name","is_number"] ["self","kind","line","brought"] (ze (mth 9)):=by walk_at "f"
 refine Z9 F S (F.binds (by walk_at "3")) u aB λA outer s H xs d0 Z φ hr hl hT=>?_
 have hu:=hr.units;refine⟨_,(xc (Ol X.mG (Qh X.T.enumerate (aJ (za 3))) (ww (K0:=K) (n:=2) (by rfl) (by rfl) (y7 (zw (i:=4) S.nd rfl aG) (y7 (zw (i:=5) S.nd rfl aG) wj))) (Q8 4 5 aB aB) (yc (V4 6 aB S.nd (Dt hu (za 4) (jt (xn hu (za 1) zf) zd zd)))
    (xc (xi (vo X.O (ji X) (hr.e rfl) (ye (za 5) (j0 (fh (jt (jl (za 6)) (jr X.O (t7 X) (hr.e rfl) (za 0)) (za 2))) vh)))))))),?_⟩
 obtain⟨q,g,l,E,rfl,rfl,M,hl1,u,h⟩:=hT;refine(show iET (xv (v7 3) aNil) (hid 0 _) _ from⟨zaA,?_⟩);refine⟨λi U=>∃(s:PS1)(a b c:Option EV),openO (qc g) l i (E.drop i) s=openO (qc g) l 0 E q/\s.lines.length<=800+i/\s.many=q.many/\U=[q_ (psD C s),q_ (.str g),q_ (lnD l),q_ (.tup (E.map D.str)),a,b,c],⟨q,none,none,none,rfl,hl1,rfl,rfl⟩,?_,?_⟩
 ·rintro i d _ hd ⟨s,a,b,c,e1,e2,e3,rfl⟩;obtain⟨h1,k,rfl⟩:=Gm hd;rw[zai]at k;obtain⟨x,ex,rfl⟩:=zar.mp k;obtain⟨hi,rfl⟩:=zag.mp ex;have B:E.drop i=E[i]::E.drop (i+1):=zcW hi;rw[B,openO]at e1;have I:((i:Int)==(if g = "list" then 0 else 1:Int))=decide (i=qc g):=by
   unfold qc;split <;> (rw[Bool.eq_iff_iff,zeH,decide_eq_true_iff];omega)
  refine qf ?_;refine ts_ρ (ρ':=[q_ (psD C s),q_ (.str g),q_ (lnD l),q_ (.tup (E.map D.str)),q_ (.int i),q_ (.str E[i]),c]) rfl ?_;refine yh (ur (dv (.bl ((i:Int)==(if g = "list" then 0 else 1:Int)))) (λL j=>yj (dv (.int i)) (dv (.int (if g = "list" then 0 else 1))) aA (λL j=>?_) ⟨zaA,zaA,j⟩) trivial ?_)
  ·refine⟨zaA,zaA,?_⟩;rw[ql];by_cases ek:g = "list"
   ·rw[ek,zbC];rw[zaM ek]at j;exact⟨λ_=>j,nofun⟩
   rw[zaS.mpr ek];rw[zaJ ek]at j;exact⟨nofun,λ_=>j⟩
  dsimp only
  rw[I];refine x6 (xt [.str E[i],lnD (if i=qc g then nou s.many else l)] rfl (λL j=>xm (.str E[i]) _ aA (λL j=>Yp _ [] (λL j=>?_) (y8 _) aA j) j) rfl ⟨s,E[i],_,rfl,rfl,by omega,vm E[i] (if i=qc g then nou s.many else l) s,_,_,_,e1,?_,e3,rfl⟩)
  ·by_cases ei:i=qc g
   ·rw[zaM ei]at j;refine(show(decide (i=qc g)=true->_)/\(decide (i=qc g)=false->_) from ?_);rw[zaX ei];exact⟨λ_=>Vf aA aD rfl j,nofun⟩
   rw[zaJ ei]at j;refine(show(decide (i=qc g)=true->_)/\(decide (i=qc g)=false->_) from ?_);rw[zaP ei];exact⟨nofun,λ_=>j⟩
  have:=wt (r:=s.lines) (x:=E[i]) (v:=if i=qc g then nou s.many else l)
  show(putA s.lines E[i] (if i=qc g then nou s.many else l)).length<=_
  omega
 rintro _ ⟨s,a,b,c,e1,e2,e3,rfl⟩;have y:(enD (E.map D.str)).length=E.length:=by unfold enD;rw[zLm,List.length_zipIdx,zLm]
 rw[y,List.drop_length]at e1;refine⟨_,rfl,?_⟩;rw[<- e1]at h;exact h
def foundF(a x:Str)(E:List Str)(s:PS1):PS1:=match getA s.own x with
 |none=>openO (qc a) ((getA s.lines x).getD []) 0 E s
 |some p=>if a = "list" then Ab p (E.getD 0 "") (E.getD 1 "") {s with own:=xo1 s.own x} else Aa p (E.getD 0 "") (E.getD 1 "") (E.getD 2 "") {s with own:=xo1 s.own x}
structure Hb(s:PS1):Prop where
 ln:s.lines.length<=800
 ow:s.own.length<=800
def Fa(C:Addr):FTQ:=λd Z φ=>∃(s:PS1)(kind x:Str)(E:List Str),d=psD C s/\Z=[.str kind,.str x,.tup (E.map D.str)]/\WF s/\(kind = "list"/\E.length=2\/kind = "tree"/\E.length=3)/\(getA s.lines x).isSome=true/\Hb s/\φ .non (psD C (foundF kind x E s))
def Gx{s:PS1}(x:Str)(w:WF s):WF {s with own:=xo1 s.own x}:=by
 obtain⟨pw,d,a⟩:=w;refine⟨⟨pw.sh,pw.ln,zak qr pw.ow,pw.ca,pw.cl,pw.nd,pw.st,pw.mn⟩,d,λp e=>a p ?_⟩;have:∀(r:List (Str×Nat)),p∈xo1 r x->p∈r:=λr=>by
  induction r with
  |nil=>exact id
  |cons q r ih =>
   obtain⟨y,n⟩:=q;rw[xo1];split
   ·exact λh=>zal _ (ih h)
   exact λh=>(zam.mp h).elim (λz=>z▸zao) λz=>zal _ (ih z)
 exact this _ e
def Ui{ks:List Key}{Z:List D}{k:Key}{d:D}{kd:D}{φ:EV->Prop}(e:keyD kd=some k)(h:wk ks Z k=some d)(a:φ (dv d)):sIxx (.dk ks Z) kd φ:=by
 show match keyD kd with|some k=>(match wk ks Z k with|some d=>φ (dv d)|none=>False)|none=>False
 rw[e];show match wk ks Z k with|some d=>φ (dv d)|none=>False
 rw[h];exact a
def yf{tc:TD}{U:DE}{x y:Str}(b:Bool)(d:decide (x=y)=b)(h:∀ L:EV->Prop,L (dv (.str x))->tc U L):∀L:Bool->Prop,L b->tBo (d2 sEq tc (dC (.str y))) U L:=λL a=>h _ ⟨zaA,zaA,by
 subst d;show L (eqD (.str x) (.str y));rw[ql];by_cases e:x=y
 ·rw[zaX e]at a;rw[e,zbC];exact a
 rw[zaP e]at a;rw[zaS.mpr e];exact a⟩
def Y1(X:AX P w K mg C G):FMG G P w K mg base 5 C xf "found_full" ["self","kind","name","brought"] (Fa C):=by
 obtain⟨f,fd,F,h1⟩:=X.m "found_full" "Path.found_full" 8 aB
 have S:zv ["self","kind","name","brought","place"] ["self","kind","name","brought"] (ze (mth 8)):=by walk_at "f"
 refine Z9 F S (F.binds (by walk_at "3")) h1 aB λA outer s H xs d0 Z φ hr hl hT=>?_
 have hu:=hr.units;refine⟨_,(yc (Ro 4 aB S.nd (bj X.O yn) (za 2))
   (xc (Zv (gc (z3j (za 4) Gn)) (xc (xi (jn X.mG X.O (Y0 X) (hr.e rfl) (ye (za 1) (j0 (fh (zk hu (vk X.O (za 0)) (za 2))) (ye (za 3) vh)))))) (xc (Zv (gc (xn hu (za 1) zf)) (xc (xi (jn X.mG X.O (Wa X) (hr.e rfl) (ye (za 4) (ye (za 3) vh))))) (xc (xi (jn X.mG X.O (W9 X) (hr.e rfl) (ye (za 4) (ye (za 3) vh)))))))))),?_⟩
 obtain⟨k,g,x,E,rfl,rfl,wf,M,I,j,h⟩:=hT;have pw:=wf.few;refine yh (Ti rfl ix3 ⟨_,_,_,rfl,rfl,cm _,Sum.inr x,rfl,λy v=>?_,λr=>?_⟩)
 ·rw[rg (f:=λn:Nat=>D.int (n:Nat))]at v;obtain⟨p,ep,rfl⟩:=zar.mp v;have u:=wf.own _ (se ep);have w2:=Gx x wf;have l2:(xo1 k.own x).length<=800:=zak qr j.ow;unfold foundF at h;rw[ep]at h
  dsimp only
  refine ts_ρ (zbZ (λz=>[q_ z,q_ (.str g),q_ (.str x),q_ (.tup (E.map D.str)),q_ (.int (p:Nat))]) (Oy (C:=C) k x)) ?_;refine Tf false aA nofun (λ_=>?_);rcases M with⟨rfl,q⟩|⟨rfl,q⟩
  ·obtain⟨a,b,rfl⟩:∃a b,E=[a,b]:=match E,q with|[a,b],_=>⟨a,b,rfl⟩
   refine Tf true (yf true (x:="list") aB aA) (λ_=>?_) nofun
   exact x6 (xt [.int (p:Nat),.tup [.str a,.str b]] rfl (λL d=>xm _ _ aA (λL d=>xm _ [] aA aA d) d) rfl ⟨_,p,a,b,rfl,rfl,w2,u,j.ln,l2,_,rfl,h⟩)
  obtain⟨a,b,c,rfl⟩:∃a b c,E=[a,b,c]:=match E,q with|[a,b,c],_=>⟨a,b,c,rfl⟩
  refine Tf false (yf false (x:="tree") aB aA) nofun (λ_=>?_)
  exact x6 (xt [.int (p:Nat),.tup [.str a,.str b,.str c]] rfl (λL d=>xm _ _ aA (λL d=>xm _ [] aA aA d) d) rfl ⟨_,p,a,b,c,rfl,rfl,w2,u,j.ln,l2,_,rfl,h⟩)
 rw[rg (f:=λn:Nat=>D.int (n:Nat))]at r;have ep:getA k.own x=none:=by
  cases e:getA k.own x with
  |none=>rfl
  |some p=>rw[e]at r;cases r
 obtain⟨l,B⟩:=zdP.mp I;unfold foundF at h;rw[ep,B]at h
 dsimp only
 refine Tf true aA (λ_=>?_) nofun;refine x6 (xt [.str g,lnD l,.tup (E.map D.str)] rfl (λL d=>xm _ _ aA (λL d=>Yp _ _ (λL d=>yj (dv (.dk (k.lines.map kS) (k.lines.map λp=>lnD p.2))) (dv (.str x)) (λL d=>fld aA ix2 rfl d) aA (Ui rfl (by rw[rg (f:=lnD),B];rfl) d)) (y8 _) (λL d=>xm _ [] aA aA d) d) d) rfl ⟨k,g,l,E,rfl,rfl,by omega,j.ln,zak pw.mn aB,_,rfl,h⟩)
def ps0:PS1:=⟨0,[],[],[],[1,0,0,0,0,0],[]⟩
def z2a(C:Addr):FTQ:=λd Z φ=>d=.ob C [] []/\Z=[]/\φ .non (psD C ps0)
def X5{ns:List Str}{f:Str}{Z:List D}{a:TF}{U:DE}{ds:QZ}{x:D}(d:∀ L:D->Prop,L x->a U L)(e:slot U 0=q_ (.ob C ns Z))(g:ns.length<=100)(j:f∉ns)(h:ds.nx (setS U 0 (dv (.ob C (ns++[f]) (Z++[x]))))):Fw 0 C f Pd a U ds :=
 d _ ⟨_,ns,Z,e,rfl,g,j,h⟩
def Qd{te:TD}{U:DE}{L:D->Prop}(r:EV)(h:∀ L:EV->Prop,L r->te U L)(e:frs2 r)(a:L r.d):fE2 te U L:=h _ ⟨e,a⟩
def Qp{te:TD}{U:DE}{φ:EV->Prop}(l:List D)(ks:List Key)(Z:List D)(h:∀ L:EV->Prop,L (df (.lst l))->te U L)(e:l=V9 ks Z)(hl:ks.length=Z.length)(d:ks.Nodup)(a:φ (df (.dk ks Z))):dCB sDictP (xv te aNil) U φ:=h _ ⟨ks,Z,e,hl,d,a⟩
def z3c:D->Option D
 |.str k=>some (.tup [.str k,.int (if k = "call" then 1 else 0)])
 |_=>none
def Mb(X:AX P w K mg C G):FM P w K mg base 1 C xf "__init__" ["self"] (z2a C):=by
 obtain⟨f,fd,F,g⟩:=X.m "__init__" "Path.__init__" 0 aB
 have S:zv ["self"] ["self"] (ze (mth 0)):=by walk_at "f"
 refine Jl F S (F.binds (by walk_at "3")) g aB λqZ A outer s H xs d0 Z φ hr hl hT=>?_
 have hu:=hr.units;refine⟨_,(yc (gh X.O.cl (X.O.na _ aB) yn (wy zd))
   (yc (gh X.O.cl (X.O.na _ aB) yn (wy (x9 zb)))
   (yc (gh X.O.cl (X.O.na _ aB) yn (wy Qk))
   (yc (gh X.O.cl (X.O.na _ aB) yn (wy Qk))
   (yc (gh X.O.cl (X.O.na _ aB) yn (wy (Wk X.T.dict (aJ (sr (T:=["kind"]) (F:=[]) (js:=[]) (z3l (Ds X.c_KINDS)) (show zx (ze (mth 0)) _ ["kind"] [] from by walk_at "c") .nil aB (by walk_at "t") (yi aB) (x3 0) (λcl C fp s H=>w5) (λcl C fp s H=>(zg (aK (za 0) (jt (xn hu (za 0) zf) zd zd)))))))))
   (xc (gh X.O.cl (X.O.na _ aB) yn (wy (x9 zb))))))))),?_⟩
 obtain⟨rfl,rfl,h⟩:=hT;refine yh (X5 (x:=.int 0) (λL a=>⟨zaA,a⟩) rfl aF aF ?_)
 dsimp only
 refine yh (X5 (x:=.lst []) (λL a=>⟨rfl,rfl,zaA,a⟩) rfl aF aF ?_)
 dsimp only
 refine yh (X5 (x:=.dk [] []) (λL a=>⟨zaA,a⟩) rfl aF aF ?_)
 dsimp only
 refine yh (X5 (x:=.dk [] []) (λL a=>⟨zaA,a⟩) rfl aF aF ?_)
 dsimp only
 refine yh (X5 (x:=.dk (x8.map Sum.inr) (ps0.steps.map D.int)) (λL a=>?_) rfl aF aF ?_)
 ·refine Qd (df (.dk (x8.map Sum.inr) (ps0.steps.map D.int))) (λL a=>Qp _ (x8.map Sum.inr) (ps0.steps.map D.int) (λL a=>xa (x8.map D.str) aA z3c aF (λd hd=>?_) a) rfl rfl aF a) (ut _) a
  obtain⟨k,j,rfl⟩:=zah.mp hd;refine⟨λ_=>?_,λz=>nomatch z⟩;refine(zt (dv (.str k)) [dv (.int (if k = "call" then 1 else 0))] aA (λL a=>zt _ [] (λL a=>?_) aA a) ⟨rfl,rfl,zaA,rfl⟩)
  refine yf (decide (k = "call")) rfl aA _ ?_;by_cases e:k = "call"
  ·rw[zaM e]at a;rw[zaX e];exact⟨λ_=>a,nofun⟩
  rw[zaJ e]at a;rw[zaP e];exact⟨nofun,λ_=>a⟩
 dsimp only
 exact X5 (x:=.lst []) (λL a=>⟨rfl,rfl,zaA,a⟩) rfl aF aF ⟨_,rfl,h⟩
def z1s(C:Addr):FTZ:=λZ φ=>∃s:PS1,Z=[psD C s]/\Few s/\φ (psD C s)
def F4(s:PS1)(c:D):D:=.tup [.tup (s.shape.map lnD),.int s.many,.dk (x8.map Sum.inr) (s.steps.map D.int),.lst (s.calls.map vq),c]
def z1t(C:Addr):FTT:=λd c φ=>∃s:PS1,d=psD C s/\φ (F4 s c)
def xj{t:TQS}{u:TC1}{U:DE}{φ:D->Prop}(h:t U {nx:=λρ'=>u ρ' φ,rt:=λ_ _=>False}):cSeq t u U φ:=h
def dq{l:Nat}{ns:List Str}{f:Str}{i:Nat}{Z:List D}{a:TF}{U:DE}{ds:QZ}{x:D}(d:∀ L:D->Prop,L x->a U L)(e:slot U l=q_ (.ob C ns Z))(hi:ixF ns f=some i)(g:ns.length<=100)(h:ds.nx (setS U l (dv (.ob C ns (Z.set i x))))):qFld l C ns f Pd a U ds :=
 d _ ⟨_,Z,e,rfl,g,by rw[hi];exact h⟩
def G4{te:TD}{U:DE}{L:D->Prop}{l:List D}(h:∀ φ:EV->Prop,φ (dv (.lst l))->te U φ)(d:yt l)(a:L (.lst l)):fE2 (dCB sListC (xv te aNil)) U L:=h _ ⟨d,a⟩
def Ms{te:TD}{U:DE}{L:D->Prop}{ks:List Key}{l:List D}(h:∀ φ:EV->Prop,φ (dv (.dk ks l))->te U φ)(d:yt l)(a:L (.dk ks l)):fE2 (dCB sDictC (xv te aNil)) U L:=h _ ⟨d,a⟩
def F3{l:Nat}{ns:List Str}{f g:Str}{ta tb tc:TD}{U:DE}{φ:D->Prop}(h:ta U λr1=>yz r1.d/\tb U λr2=>yz r2.d/\∃ Z i j x y,slot U l=q_ (.ob C ns Z)/\ixF ns f=some i/\ixF ns g=some j/\i<j/\Z[i]?=some x/\Z[j]?=some y/\tc U λa=>yz a.d/\φ (.tup [r1.d,r2.d,x,y,a.d])):z1o l C ns f g ta tb tc U φ:=h
def Qc(X:AX P w K mg C G):FMZ P w K mg base 3 C xf "twin" ["self"] (z1s C):=by
 obtain⟨fI,MI⟩:=X.MI;obtain⟨f,fd,F,k⟩:=X.m "twin" "Path.twin" 1 aB
 obtain⟨r,q,ok,b,j⟩:=(Mb X).ex;have e:r=fI:=by
  have J:=j.at_;rw[MI.init]at J
  injection J with J
  injection J with J
  injection J with J
  exact J.symm
 subst e;have S:zv ["self","other"] ["self"] (ze (mth 1)):=by walk_at "f"
 refine⟨⟨f,fd,M5 (l:=1) (d0:=psD C ps0) F S MI ok b X.mC aB ⟨rfl,rfl,rfl,rfl⟩ rfl rfl aG (λ_ _ _ _ _ _=>by first|exact .inl rfl|exact .inr rfl) (λ_ _ _ _ _ _=>rfl) aB λqZ A outer s H xs Z φ hr hl hT=>?_,F.binds (by walk_at "3"),k⟩,by decide⟩
 have hu:=hr.units;refine⟨_,(wg (q5 X.O yn (wy (vk X.O (za 0))))
   (wg (q5 X.O yn (wy (cu X.T.list (aJ (vk X.O (za 0))))))
   (wg (q5 X.O yn (wy (cv X.T.dict (aJ (vk X.O (za 0))))))
   (wg (q5 X.O yn (wy (cv X.T.dict (aJ (vk X.O (za 0))))))
   (wg (q5 X.O yn (wy (cv X.T.dict (aJ (vk X.O (za 0))))))
   (wg (q5 X.O yn (wy (cu X.T.list (aJ (vk X.O (za 0))))))
   (V5 Mp))))))),?_⟩
 obtain⟨g,rfl,u,h⟩:=hT;refine xj (dq (x:=.int g.many) (λL a=>fld aA ix0 rfl ⟨zaA,a⟩) rfl ix0 aF ?_)
 dsimp only
 refine xj (dq (x:=.lst (g.shape.map lnD)) (λL a=>G4 (λφ d=>fld aA ix1 rfl d) (tx _) a) rfl ix1 aF ?_)
 dsimp only
 refine xj (dq (x:=.dk (g.lines.map kS) (g.lines.map λp:Str×List Int=>lnD p.2)) (λL a=>Ms (λφ d=>fld aA ix2 rfl d) (j8 _) a) rfl ix2 aF ?_)
 dsimp only
 refine xj (dq (x:=.dk (g.own.map kS) (g.own.map λp:Str×Nat=>D.int (p.2:Nat))) (λL a=>Ms (λφ d=>fld aA ix3 rfl d) (cm _) a) rfl ix3 aF ?_)
 dsimp only
 refine xj (dq (x:=.dk (x8.map Sum.inr) (g.steps.map D.int)) (λL a=>Ms (λφ d=>fld aA ix4 rfl d) (ut _) a) rfl ix4 aF ?_)
 dsimp only
 refine xj (dq (x:=.lst (g.calls.map vq)) (λL a=>G4 (λφ d=>fld aA ix5 rfl d) (gj _) a) rfl ix5 aF ?_)
 dsimp only
 exact⟨_,rfl,h⟩
def Jk(X:AX P w K mg C G):FMT P w K mg base 1 C xf "told" ["self","size"] (z1t C):=by
 obtain⟨f,fd,F,g⟩:=X.m "told" "Path.told" 2 aB
 have S:zv ["self","size"] ["self","size"] (ze (mth 2)):=by walk_at "f"
 refine z0u F S (F.binds (by walk_at "3")) g aB rfl λqZ A outer s H xs d c φ hr e hT=>?_
 have hu:=hr.units;refine⟨_,(V5 (Du X.O (uc X.T.tuple (aJ (vk X.O (za 0)))) (vk X.O (za 0)) (za 1))),?_⟩;obtain⟨j,rfl,h⟩:=hT;exact F3 (Wq (fld aA ix1 rfl ⟨tx _,fld aA ix0 rfl ⟨zaA,_,4,5,_,_,rfl,ix4,ix5,by decide,rfl,rfl,e,h⟩⟩))
def brP(i:Nat)(p:Str×Str)(s:PS1):PS1:=if p.2 = "num" then vm p.1 (nou s.many) s else bringO p.1 i s
def brPs:Nat->List (Str×Str)->PS1->PS1
 |_,[],s=>s
 |i,p::r,s=>brPs (i+1) r (brP i p s)
def first(ps:List (Str×Str)):PS1:=let s:=brPs 0 ps {ps0 with many:=ps.length}
 {s with shape:=ps.map λp=>(getA s.lines p.1).getD []}
def prD1(p:Str×Str):D:=.tup [.str p.1,.str p.2]
def Cv(C:Addr):FTZ:=λZ φ=>∃ps:List (Str×Str),Z=[.tup (ps.map prD1)]/\ps.length<=2/\(∀p∈ps,(getA (first ps).lines p.1).isSome=true)/\φ (psD C (first ps))
def shF(s:PS1):D->Option D
 |.tup [.str x,_]=>some (lnD ((getA s.lines x).getD []))
 |_=>none
def W8(X:AX P w K mg C G):FZ P w K mg base 3 "first_path" ["params"] (Cv C):=by
 obtain⟨fI,MI⟩:=X.MI;obtain⟨f,fd,F,m⟩:=X.f "first_path" 11 aB
 obtain⟨h1,I,ok,b,u⟩:=(Mb X).ex;have e:h1=fI:=by
  have J:=u.at_;rw[MI.init]at J
  injection J with J
  injection J with J
  injection J with J
  exact J.symm
 subst e;have S:zv ["params","path","place","param"] ["params"] (ze (top 11)):=by walk_at "f"
 have y:Wt (λ_=>True):=λ_ _ _ _=>trivial;refine⟨f,fd,M5 (l:=1) (d0:=psD C ps0) F S MI ok b X.mC aB ⟨rfl,rfl,rfl,rfl⟩ rfl rfl aG (λ_ _ _ _ _ _=>by first|exact .inl rfl|exact .inr rfl) (λ_ _ _ _ _ _=>rfl) aB λqZ A outer s H xs Z φ hr hl hT=>?_,F.binds (by walk_at "3"),F.kp,m⟩
 have hu:=hr.units;refine⟨_,(wg (q5 X.O yn (wy (ue X.T.len (aJ (za 0)))))
   (wg (Ol y (Qh X.T.enumerate (aJ (za 0))) (ww (K0:=K) (n:=2) (by rfl) (by rfl) (y7 (zw (i:=2) S.nd rfl aG) (y7 (zw (i:=3) S.nd rfl aG) wj))) (Q8 2 3 aB aB) (xc (Zv (gc (xn hu (zk hu (za 3) zd) zf)) (xc (xi (vo X.O (ji X) (hr.e rfl) (ye (zk hu (za 3) zd) (j0 (fh (jr X.O (t7 X) (hr.e rfl) (za 1))) vh))))) (xc (xi (vo X.O (sf X) (hr.e rfl) (ye (zk hu (za 3) zd) (ye (za 2) vh))))))))
   (wg (q5 X.O yn (wy (sr (T:=["name","shape"]) (F:=["path"]) (js:=[1]) (xu (za 0)) (show zx (ze (top 11)) _ _ _ from by walk_at "c") (.cons rfl .nil) aB (by walk_at "t") (dh (xy yv (qe yv uj) (yi aB) (xy yv uj (yi aB) dj))) (uz 0 1) (λcl C fp s H=>w5) (λcl C fp s H=>(zk hu (vk X.O (za 2)) (za 0))))))
   (V5 Mp)))),?_⟩
 obtain⟨ps,rfl,D,q,h⟩:=hT;refine xj (dq (x:=.int (ps.map prD1).length) (λL g=>Qd (dv (.int (ps.map prD1).length)) aA trivial g) rfl ix0 aF ?_)
 rw[zLm]
 dsimp only
 refine xj (show iET (xv (v7 0) aNil) _ _ from⟨zaA,?_⟩);refine⟨λi U=>∃(s:PS1)(a b:Option EV),brPs i (ps.drop i) s=brPs 0 ps {ps0 with many:=ps.length}/\s.lines.length<=i/\s.own.length<=i/\s.many=ps.length/\U=[q_ (.tup (ps.map prD1)),q_ (psD C s),a,b],⟨_,none,none,rfl,zaj _,zaj _,rfl,rfl⟩,?_,?_⟩
 ·rintro i d _ hd ⟨s,a,b,e1,e2,e3,v,rfl⟩;obtain⟨R,r,rfl⟩:=Gm hd;rw[zai]at r;obtain⟨p,ep,rfl⟩:=zar.mp r;obtain⟨hi,rfl⟩:=zag.mp ep;have N:ps.drop i=ps[i]::ps.drop (i+1):=zcW hi;rw[N,brPs]at e1;refine qf ?_;refine ts_ρ (ρ':=[q_ (.tup (ps.map prD1)),q_ (psD C s),q_ (.int i),q_ (prD1 ps[i])]) rfl ?_;refine Tf (decide (ps[i].2 = "num")) (yf _ rfl aA) (λj=>?_) (λj=>?_)
  ·have j:=zbU j;unfold brP at e1;rw[zaM j]at e1;refine x6 (xt [.str ps[i].1,lnD (nou s.many)] rfl (λL g=>xm _ _ aA (λL g=>Yp _ [] (λL g=>Vf aA aD rfl g) (y8 _) aA g) g) rfl ⟨s,_,_,rfl,rfl,by omega,_,_,_,e1,?_,zfI e3,v,rfl⟩)
   exact zak wt aD
  have j:=zeD j;unfold brP at e1;rw[zaJ j]at e1;refine x6 (xt [.str ps[i].1,.int (i:Nat)] rfl (λL g=>xm _ _ aA (λL g=>xm _ [] aA aA g) g) rfl ⟨s,_,i,rfl,rfl,by omega,by omega,by omega,_,_,_,e1,?_,?_,v,rfl⟩)
  ·exact zak wt aD
  exact zak wt aD
 rintro _ ⟨s,a,b,e1,e2,e3,v,rfl⟩;have k:(enD (ps.map prD1)).length=ps.length:=by unfold enD;rw[zLm,List.length_zipIdx,zLm]
 rw[k,List.drop_length]at e1;have e1:s=brPs 0 ps {ps0 with many:=ps.length}:=e1;have M:first ps={s with shape:=ps.map λp=>(getA s.lines p.1).getD []}:=by unfold first;rw[<- e1]
 rw[M]at q h
 dsimp only
 refine xj (dq (x:=.lst ((ps.map λp:Str×Str=>(getA s.lines p.1).getD []).map lnD)) (λL g=>Qd (df (.lst ((ps.map λp:Str×Str=>(getA s.lines p.1).getD []).map lnD))) (λL g=>xa (ps.map prD1) (λL g=>⟨zaA,g⟩) (shF s) (by rw[zLm];omega) (λd hd=>?_) ?_) (tx _) g) rfl ix1 aF ⟨_,rfl,h⟩)
 ·obtain⟨p,B,rfl⟩:=zah.mp hd;obtain⟨l,k⟩:=zdP.mp (q p B);have k:getA s.lines p.1=some l:=k;refine⟨λ_=>yj (dv (.dk (s.lines.map kS) (s.lines.map λp:Str×List Int=>lnD p.2))) (dv (.str p.1)) (λL g=>fld aA ix2 rfl g) aA (Ui rfl (by rw[rg (f:=lnD),k];rfl) ⟨zaA,?_⟩),λz=>nomatch z⟩
  show some (lnD ((getA s.lines p.1).getD []))=_;rw[k];rfl
 have Q:(ps.map prD1).filterMap (shF s)=(ps.map λp=>(getA s.lines p.1).getD []).map lnD:=by
  rw[zcF,zaZ,<- zcN];rfl
 rw[Q];exact g
def Lo(ns:List Int):Prop:=∀n∈ns,n.natAbs<10 ^ 60
def Lo.bits{ns:List Int}(h:Lo ns){n:Int}(a:n∈ns):intBits n<=3000:=jx (Nat.lt_trans (h n a) aB)
def sIx1(n:Nat):¬ ZZ.sIx (n+1) 0 (some (1:Int))=0:=by
 unfold ZZ.sIx;simp
theorem Wd:∀(k:Nat),(List.replicate k [D.int 0]).flatten=(List.replicate k (0:Int)).map D.int
 |0=>rfl
 |k+1=>by rw[zcL,zdG,Wd k];rfl
def Px{E ys:List D}{d:D}(h:d∈zipD E ys):∃x∈E,∃y∈ys,d=.tup [x,y]:=by
 unfold zipD at h;obtain⟨i,hi,e⟩:=List.mem_iff_getElem.mp h;rw[List.getElem_zipWith]at e;exact⟨_,zdZ _,_,zdZ _,e.symm⟩
theorem He(f:D->Option D)(g:Int->Int->Int)(d:∀ x y,f (.tup [.int x,.int y])=some (.int (g x y))):∀(E ys:List Int),(zipD (E.map D.int) (ys.map D.int)).filterMap f=(List.zipWith g E ys).map D.int
 |[],ys=>by simp[zipD]
 |x::E,[]=>by simp[zipD]
 |x::E,y::ys=>by
  have a:=He f g d E ys;unfold zipD at a ⊢;simp only[zaG,List.zipWith_cons_cons,zbL,d];rw[a]
def lay1(d:List Int)(n:Int)(a:List Int):List Int:=List.zipWith (λh t=>h+n*t) d a
def uy:List Int->List Int->List (List Int)->List Int
 |acc,n::ns,row::rows=>uy (lay1 acc n row) ns rows
 |acc,_,_=>acc
def Wo{α:Type}{l:List α}{i:Nat}{x:α}(h:l[i]?=some x):l.drop i=x::l.drop (i+1):=by
 obtain⟨hi,e⟩:=zag.mp h;rw[zcW hi,e]
def Nn{acc:List Int}{a:List Int}{rows:List (List Int)}{n:Nat}(h:a.length<=n\/rows.length<=n):uy acc (a.drop n) (rows.drop n)=acc:=by
 rcases h with h|h
 ·rw[zeC h];unfold uy;rfl
 rw[zeC h];cases a.drop n <;> rfl
def Py{a:List Int}{rows:List (List Int)}{i:Nat}{d:D}(h:(zipD (a.map D.int) (rows.map lnD))[i]?=some d):∃n row,a[i]?=some n/\rows[i]?=some row/\d=.tup [.int n,lnD row]:=by
 unfold zipD at h;rw[zdL,zai,zai]at h;cases e1:a[i]? with
 |none=>rw[e1]at h;cases h
 |some n =>
  cases e2:rows[i]? with
  |none=>rw[e1,e2]at h;cases h
  |some row =>
   rw[e1,e2]at h;cases h;exact⟨n,row,rfl,rfl,rfl⟩
def z1z:FT:=λZ φ=>∃(l0 rs:D)(a:Int)(ls:List Int)(rows:List (List Int))(n:Nat),Z=[l0,rs,.int n]/\(l0=lnD (a::ls)\/l0=.lst ((a::ls).map D.int))/\(rs=.tup (rows.map lnD)\/rs=.lst (rows.map lnD))/\n<=900/\rows.length<=900/\Lo ls/\(∀r∈rows,Lo r/\r.length<=1000)/\φ (dv (lnD (uy (a::List.replicate n 0) ls rows)))
def layF{n:Int}:∀(E ys:List Int),(zipD (E.map D.int) (ys.map D.int)).filterMap (λd=>match d with|.tup [.int x,.int y]=>some (.int (x+n*y))|_=>none)=(lay1 E n ys).map D.int:=He _ (λx y=>x+n*y) λx y=>rfl
def dw(X:AX P w K mg C G):FD P w K mg base 1 "line_laid" ["line","lines","many"] z1z:=by
 obtain⟨f,fd,F,m⟩:=X.f "line_laid" 6 aB
 have S:zv ["line","lines","many","laid_in","number","other"] ["line","lines","many"] (ze (top 6)):=by walk_at "f"
 walk_at "b";refine⟨_,(zh (zy 3 S.nd (yg (x9 (aJ (zk hu (za 0) zd))) (jq (x9 (aJ zd)) (za 2))))
   (zh (rj (Qg X.T.zip (aK (u4 (za 0) (uh zd) qo) (za 1))) (ww (K0:=K) (n:=2) (by rfl) (by rfl) (y7 (zw (i:=4) S.nd rfl aG) (y7 (zw (i:=5) S.nd rfl aG) wj))) (uz 4 5) (y0 (Oe 3 (vn (T:=["here","there"]) (F:=["number"]) (js:=[4]) 3 S.nd (Qg X.T.zip (aK (za 3) (za 5))) (show zx (ze (top 6)) _ _ _ from by walk_at "c") (.cons rfl .nil) aB (by walk_at "t") (dh (xy yv (qe yv uj) (yi aB) (xy yv uj (yi aB) dj))) (uz 0 1) (λcl C fp s H=>w5) (λcl C fp s H=>(yg (za 0) (jq (za 2) (za 1))))))))
   (y0 (y9 (uc X.T.tuple (aJ (za 3))))))),?_⟩
 obtain⟨Y,B,a,g,rows,n,rfl,N,e,h2,ds,Q,O,h⟩:=hT;rcases N with rfl|rfl
 ·unfold lnD;walk_at "dl";rw[Wd];refine⟨by omega,by omega,by rw[zaV];omega,by rw[zaV];simp;omega,?_⟩
  refine ug (zipD (g.map D.int) (rows.map lnD)) (λL k=>?_) (λi U=>∃acc v a5,U=[q_ (D.tup (D.int a::List.map D.int g)),q_ B,q_ (D.int n),Q_ (D.lst (acc.map D.int)),v,a5]/\acc.length<=901/\uy acc (g.drop i) (rows.drop i)=uy (a::List.replicate n 0) g rows)
   ⟨a::List.replicate n 0,none,none,rfl,by simp;omega,rfl⟩ ?_ ?_
  ·walk_at "dl";rw[show cutD (D.int a::List.map D.int g) (some 1) none=List.map D.int g from ju _ 1];rcases e with rfl|rfl <;> first|exact⟨λz=>sIx1 _ z.1,k⟩|exact k
  ·rintro i d U hd ⟨acc,v,a5,rfl,hl,hi⟩;obtain⟨l,j,e1,e2,rfl⟩:=Py hd;obtain⟨M,hr⟩:=O j (zan e2);have u:=zan e1;refine qf ?_;refine(show sSet 3 _ [q_ (D.tup (D.int a::List.map D.int g)),q_ B,q_ (D.int n),q_ (D.lst (acc.map D.int)),q_ (.int l),q_ (lnD j)] _ from zp (xa (zipD (acc.map D.int) (j.map D.int)) (λL k=>?_) (λd=>match d with|.tup [.int x,.int y]=>some (.int (x+l*y))|_=>none) (by unfold zipD;simp;omega) ?_ ?_))
   ·exact⟨zaA,zaA,k⟩
   ·intro d hd;obtain⟨V,r,R,q,rfl⟩:=Px hd;obtain⟨x,W,rfl⟩:=zah.mp r;obtain⟨y,h1,rfl⟩:=zah.mp q;exact⟨λ_=>⟨Ks (Q.bits u) (M.bits h1),zaA,rfl⟩,λz=>nomatch z⟩
   rw[layF];refine⟨zaA,lay1 acc l j,_,_,rfl,?_,?_⟩
   ·unfold lay1;rw[zeP];omega
   rw[<- hi,Wo e1,Wo e2];rfl
  rintro U ⟨acc,v,a5,rfl,hl,hi⟩;have I:uy acc (g.drop (zipD (g.map D.int) (rows.map lnD)).length) (rows.drop (zipD (g.map D.int) (rows.map lnD)).length)=acc:=Nn (by unfold zipD;simp;omega)
  rw[I]at hi;rw[<- hi]at h;exact⟨ut _,h⟩
 walk_at "dl";rw[Wd];refine⟨by omega,by omega,by rw[zaV];omega,by rw[zaV];simp;omega,?_⟩
 refine ug (zipD (g.map D.int) (rows.map lnD)) (λL k=>?_) (λi U=>∃acc v a5,U=[q_ (D.lst (D.int a::List.map D.int g)),q_ B,q_ (D.int n),Q_ (D.lst (acc.map D.int)),v,a5]/\acc.length<=901/\uy acc (g.drop i) (rows.drop i)=uy (a::List.replicate n 0) g rows)
  ⟨a::List.replicate n 0,none,none,rfl,by simp;omega,rfl⟩ ?_ ?_
 ·walk_at "dl";rw[show cutD (D.int a::List.map D.int g) (some 1) none=List.map D.int g from ju _ 1];rcases e with rfl|rfl <;> first|exact⟨λz=>sIx1 _ z.1,k⟩|exact k
 ·rintro i d U hd ⟨acc,v,a5,rfl,hl,hi⟩;obtain⟨l,j,e1,e2,rfl⟩:=Py hd;obtain⟨M,hr⟩:=O j (zan e2);have u:=zan e1;refine qf ?_;refine(show sSet 3 _ [q_ (D.lst (D.int a::List.map D.int g)),q_ B,q_ (D.int n),q_ (D.lst (acc.map D.int)),q_ (.int l),q_ (lnD j)] _ from zp (xa (zipD (acc.map D.int) (j.map D.int)) (λL k=>?_) (λd=>match d with|.tup [.int x,.int y]=>some (.int (x+l*y))|_=>none) (by unfold zipD;simp;omega) ?_ ?_))
  ·exact⟨zaA,zaA,k⟩
  ·intro d hd;obtain⟨V,r,R,q,rfl⟩:=Px hd;obtain⟨x,W,rfl⟩:=zah.mp r;obtain⟨y,h1,rfl⟩:=zah.mp q;exact⟨λ_=>⟨Ks (Q.bits u) (M.bits h1),zaA,rfl⟩,λz=>nomatch z⟩
  rw[layF];refine⟨zaA,lay1 acc l j,_,_,rfl,?_,?_⟩
  ·unfold lay1;rw[zeP];omega
  rw[<- hi,Wo e1,Wo e2];rfl
 rintro U ⟨acc,v,a5,rfl,hl,hi⟩;have I:uy acc (g.drop (zipD (g.map D.int) (rows.map lnD)).length) (rows.drop (zipD (g.map D.int) (rows.map lnD)).length)=acc:=Nn (by unfold zipD;simp;omega)
 rw[I]at hi;rw[<- hi]at h;exact⟨ut _,h⟩
inductive Ex1 where
 |num (i:Int)|var (x:Str)|nil|leaf
 |op (k:Str) (a b:Ex1)|node (a b c:Ex1)
 |call1 (f:Str) (a:Ex1)|call2 (f:Str) (a b:Ex1)
def Ex1.d:Ex1->D
 |.num i=>.tup [.str "num",.int i]
 |.var x=>.tup [.str "var",.str x]
 |.nil=>.tup [.str "nil"]
 |.leaf=>.tup [.str "leaf"]
 |.op k a b=>.tup [.str k,a.d,b.d]
 |.node a b c=>.tup [.str "node",a.d,b.d,c.d]
 |.call1 f a=>.tup [.str "call",.str f,.tup [a.d]]
 |.call2 f a b=>.tup [.str "call",.str f,.tup [a.d,b.d]]
def Ex1.dep:Ex1->Nat
 |.op _ a b=>max a.dep b.dep+1
 |.node a b c=>max a.dep (max b.dep c.dep)+1
 |.call1 _ a=>a.dep+1
 |.call2 _ a b=>max a.dep b.dep+1
 |_=>0
def mkK(k:Str):Str:=if k = "cons" then "make" else "sum"
def lay(t:List Int)(rows:List (List Int))(m:Nat):List Int:=uy (t.getD 0 0::List.replicate m 0) (t.drop 1) rows
section
variable(told Ls:List (Str×List Int))(m:Nat)
def Ex1.ln:Ex1->List Int
 |.var x=>(getA Ls x).getD []
 |.op k a b=>lay [if k = "cons" then 1 else 0,1,1] [a.ln,b.ln] m
 |.node a b c=>lay [1,1,1,1] [a.ln,b.ln,c.ln] m
 |.call1 f a=>lay ((getA told f).getD []) [a.ln] m
 |.call2 f a b=>lay ((getA told f).getD []) [a.ln,b.ln] m
 |_=>nou m
def Ex1.cs:Ex1->List (Str×List (List Int))
 |.op _ a b=>a.cs++b.cs
 |.node a b c=>a.cs++b.cs++c.cs
 |.call1 f a=>a.cs++[(f,[a.ln told Ls m])]
 |.call2 f a b=>a.cs++b.cs++[(f,[a.ln told Ls m,b.ln told Ls m])]
 |_=>[]
def Ex1.Ok:Ex1->Prop
 |.var x=>(getA Ls x).isSome=true
 |.op k a b=>(k = "cons"\/k = "add"\/k = "sub")/\a.Ok/\b.Ok/\∀l∈[a.ln told Ls m,b.ln told Ls m],Lo l/\l.length<=1000
 |.node a b c=>a.Ok/\b.Ok/\c.Ok/\∀l∈[a.ln told Ls m,b.ln told Ls m,c.ln told Ls m],Lo l/\l.length<=1000
 |.call1 f a=>(∃t,getA told f=some t/\t≠[]/\Lo t)/\a.Ok/\∀l∈[a.ln told Ls m],Lo l/\l.length<=1000
 |.call2 f a b=>(∃t,getA told f=some t/\t≠[]/\Lo t)/\a.Ok/\b.Ok/\∀l∈[a.ln told Ls m,b.ln told Ls m],Lo l/\l.length<=1000
 |_=>True
end
def Ex1.ks:Ex1->List Str
 |.op k a b=>a.ks++b.ks++[mkK k]
 |.node a b c=>a.ks++b.ks++c.ks++[("make" : Str)]
 |.call1 _ a=>a.ks
 |.call2 _ a b=>a.ks++b.ks
 |_=>[]
def incs(st:List Int)(ks:List Str):List Int:=ks.foldl (λst k=>incS x8 st k) st
def eff(told:List (Str×List Int))(e:Ex1)(s:PS1):PS1:={s with steps:=incs s.steps e.ks,calls:=s.calls++e.cs told s.lines s.many}
def tlD(told:List (Str×List Int)):D:=.dk (told.map kS) (told.map λp=>lnD p.2)
def F8(C:Addr)(told:List (Str×List Int))(n:Nat):FTM:=λd a c φ=>∃(s:PS1)(e:Ex1),d=psD C s/\a=e.d/\c=tlD told/\e.dep<n/\e.Ok told s.lines s.many/\s.many<=900/\s.steps.length=6/\s.calls.length+(e.cs told s.lines s.many).length<=1000/\φ (lnD (e.ln told s.lines s.many)) (psD C (eff told e s))
def rh(ks:List Str):∀st:List Int,(incs st ks).length=st.length:=by
 induction ks with
 |nil=>exact λ_=>rfl
 |cons k ks ih=>exact λst=>(ih _).trans (k8 _ _ _)
def effs(told:List (Str×List Int))(es:List Ex1)(s:PS1):PS1:=es.foldl (λs e=>eff told e s) s
theorem Wh(told:List (Str×List Int)):∀(es:List Ex1)(s:PS1),effs told es s={s with steps:=incs s.steps (es.flatMap Ex1.ks),calls:=s.calls++es.flatMap (Ex1.cs told s.lines s.many)}
 |[],s=>by
  show s={s with steps:=s.steps,calls:=s.calls++[]};rw[zaK]
 |e::es,s=>by
  show effs told es (eff told e s)=_;rw[Wh told es];unfold eff incs;rw[zbB,zbB,zdU,zbN]
def Mx{ti:TID}{n:Nat}{told:List (Str×List Int)}{s:PS1}{es:List Ex1}{q k a b:Option EV}{φ:List D->DE->Prop}(r:∀ L:List D->Prop,L (es.map Ex1.d)->ti [q,none,q_ (tlD told),k,a,b] L)(hl:es.length<=1000)(hd:∀ e∈es,e.dep<n)(ok:∀ e∈es,e.Ok told s.lines s.many)(z:s.many<=900)(G:s.steps.length=6)(B:s.calls.length+(es.flatMap (Ex1.cs told s.lines s.many)).length<=1000)(h:φ ((es.map (Ex1.ln told s.lines s.many)).map lnD) [q,q_ (psD C (effs told es s)),q_ (tlD told),k,a,b]) :
  Oq ti 1 (1+0) [1,2] (qMid (1+0) (F8 C told n) (v7 0) (v7 2)) [q,q_ (psD C s),q_ (tlD told),k,a,b] φ:=by
 refine K9 (d0:=psD C s) (es.map Ex1.d) r (λi g d=>d=psD C (effs told (es.take i) s)/\g=((es.take i).map (Ex1.ln told s.lines s.many)).map lnD) (by rw[zLm];exact hl) rfl ⟨rfl,rfl⟩ ?_ ?_
 ·rintro i x g d y _ ⟨rfl,rfl⟩;rw[zai]at y;obtain⟨e,u,rfl⟩:=zar.mp y;have l:e∈es:=zan u;have et:es.take (i+1)=es.take i++[e]:=by rw[zeI,u];rfl
  have e1:=Wh told (es.take i) s;have j:(effs told (es.take i) s).lines=s.lines/\(effs told (es.take i) s).many=s.many:=by rw[e1];exact⟨rfl,rfl⟩
  have v:(effs told (es.take i) s).calls.length+(e.cs told s.lines s.many).length<=1000:=by
   have e2:es=es.take i++e::es.drop (i+1):=by
    obtain⟨hi,e3⟩:=zag.mp u;rw[<- e3,<- zcW hi,List.take_append_drop]
   rw[e2,List.flatMap_append,zbB,zLa,zLa]at B;rw[e1];show(s.calls++_).length+_<=_;rw[zLa];omega
  refine⟨zaA,zaA,_,rfl,_,e,rfl,rfl,rfl,hd e l,by rw[j.1,j.2];exact ok e l,by rw[j.2];exact z,by rw[e1];exact(rh _ _).trans G,by rw[j.1,j.2];exact v,?_,?_⟩
  ·rw[et];unfold effs;rw[zdU];rfl
  rw[et,j.1,j.2,zMa,zMa];rfl
 rintro g d ⟨rfl,rfl⟩;rw[zLm,zeA];exact h
def d8{tc:TDb}{t u:TQS}{U:DE}{ds:QZ}(h:∀ L:Bool->Prop,L false->tc U L)(hu:u U ds):qSeq (qIf (qT tc) t qNil) u U ds:=h _ ⟨nofun,λ_=>hu⟩
def Td{tc:TDb}{t u:TQS}{U:DE}{ds:QZ}(h:∀ L:Bool->Prop,L true->tc U L)(a:t U {ds with nx:=λρ'=>u ρ' ds}):qSeq (qIf (qT tc) t qNil) u U ds:=h _ ⟨λ_=>a,nofun⟩
def Rl{te:TD}{U:DE}{ds:QZ}(r:EV)(h:∀ L:EV->Prop,L r->te U L)(a:yz r.d)(e:ds.rt r.d U):qRet (qE te) U ds:=h _ ⟨a,e⟩
def Fj{j:Nat}{t:TQs}{U:DE}{ds:QZ}(h:t U λes a=>ds.nx (setS a j (dv (.lst es)))):Bk j t U ds:=h
def Fi{j:Nat}{t:TQs}{U:DE}{ds:QZ}(h:t U λes a=>ds.nx (setS a j (dv (.tup es)))):Fv j (Bj t) U ds:=h
def Q5{a:List (Str×Cst)}{te:TD}{U:DE}{φ:EV->Prop}{z:Str}{c:Cst}(h:∀ L:EV->Prop,L (dv (.str z))->te U L)(e:tabL a z=some c)(d:φ (dv (cstD c))):Gp a te U φ:=h _ (by
 show match tabL a z with|some c=>φ (dv (cstD c))|none=>False
 rw[e];exact d)
def Vg{a:List (Str×Cst)}{te:TD}{U:DE}{z:Str}(b:Bool)(h:∀ L:EV->Prop,L (dv (.str z))->te U L)(e:(tabL a z).isSome=!b):∀L:Bool->Prop,L b->tBo (Mt a te) U L:=λL d=>h _ (by
 show L (!(tabL a z).isSome);rw[e,Bool.not_not];exact d)
def z3z(told:List (Str×List Int))(s:PS1)(n:Nat)(P:List Int->PS1->Prop)(a:D):Prop :=
 (∃x l,a=.tup [.str "var",.str x]/\getA s.lines x=some l/\P l s) \/
 (∃kind rest,a=.tup (.str kind::rest)/\decide (kind = "var")=false/\decide (kind = "call")=false/\tabL mkT kind=none/\P (nou s.many) s) \/
 (∃(f:Str)(es:List Ex1)(t:List Int),a=.tup [.str "call",.str f,.tup (es.map Ex1.d)]/\getA told f=some t/\t≠[]/\Lo t/\es.length<=3/\(∀e∈es,e.dep<n)/\(∀e∈es,e.Ok told s.lines s.many)/\(∀l∈es.map (Ex1.ln told s.lines s.many),Lo l/\l.length<=1000)/\s.calls.length+(es.flatMap (Ex1.cs told s.lines s.many)).length+1<=1000 /\
  P (lay t (es.map (Ex1.ln told s.lines s.many)) s.many) {s with steps:=incs s.steps (es.flatMap Ex1.ks),calls:=s.calls++es.flatMap (Ex1.cs told s.lines s.many)++[(f,es.map (Ex1.ln told s.lines s.many))]}) \/
 (∃(k kk:Str)(es:List Ex1),a=.tup (.str k::es.map Ex1.d)/\decide (k = "var")=false/\decide (k = "call")=false/\tabL mkT k=some (.str kk)/\(kk = "make"\/kk = "sum")/\es.length<=3/\(∀e∈es,e.dep<n)/\(∀e∈es,e.Ok told s.lines s.many)/\(∀l∈es.map (Ex1.ln told s.lines s.many),Lo l/\l.length<=1000)/\s.calls.length+(es.flatMap (Ex1.cs told s.lines s.many)).length<=1000 /\
  P (lay ((if kk = "make" then 1 else 0)::es.map λ_=>1) (es.map (Ex1.ln told s.lines s.many)) s.many) {s with steps:=incS x8 (incs s.steps (es.flatMap Ex1.ks)) kk,calls:=s.calls++es.flatMap (Ex1.cs told s.lines s.many)})
def Ex1.view{told:List (Str×List Int)}{s:PS1}{n:Nat}{C:Addr}{φ:D->D->Prop}{e:Ex1}(hd:e.dep<n+1)(ok:e.Ok told s.lines s.many)(j:s.calls.length+(e.cs told s.lines s.many).length<=1000)(h:φ (lnD (e.ln told s.lines s.many)) (psD C (eff told e s))):z3z told s n (λl s'=>φ (lnD l) (psD C s')) e.d:=by
 cases e with
 |num i=>exact .inr (.inl ⟨"num",_,rfl,by decide,by decide,by decide,by unfold eff Ex1.cs at h;rw[zaK]at h;exact h⟩)
 |nil=>exact .inr (.inl ⟨"nil",_,rfl,by decide,by decide,by decide,by unfold eff Ex1.cs at h;rw[zaK]at h;exact h⟩)
 |leaf=>exact .inr (.inl ⟨"leaf",_,rfl,by decide,by decide,by decide,by unfold eff Ex1.cs at h;rw[zaK]at h;exact h⟩)
 |var x =>
  obtain⟨l,v⟩:=zdP.mp (show(getA s.lines x).isSome=true from ok);refine .inl ⟨x,l,rfl,v,?_⟩;have e1:(Ex1.var x).ln told s.lines s.many=l:=by show(getA s.lines x).getD []=l;rw[v];rfl
  have e2:eff told (.var x) s=s:=by unfold eff Ex1.cs;rw[zaK];rfl
  rw[e1,e2]at h;exact h
 |call1 f a =>
  obtain⟨⟨t,et,u,tl⟩,q,hl⟩:=ok;have hd:a.dep+1<n+1:=hd;have j:s.calls.length+(a.cs told s.lines s.many++[(f,[a.ln told s.lines s.many])]).length<=1000:=j;rw[zLa]at j;refine .inr (.inr (.inl ⟨f,[a],t,rfl,et,u,tl,by simp,λe g=>?_,λe g=>?_,hl,?_,?_⟩))
  ·rw[zaN.mp g];omega
  ·rw[zaN.mp g];exact q
  ·simp only[zbB,zbR,zaK,zLc,zLn]at j ⊢;omega
  unfold eff Ex1.ln Ex1.cs Ex1.ks at h;rw[et]at h;simp only[zbB,zbR,zaK,zbN,zaG,zeV];exact h
 |call2 f a b =>
  obtain⟨⟨t,et,u,tl⟩,q,ob,hl⟩:=ok;have hd:max a.dep b.dep+1<n+1:=hd;have j:s.calls.length+(a.cs told s.lines s.many++b.cs told s.lines s.many++[(f,[a.ln told s.lines s.many,b.ln told s.lines s.many])]).length<=1000:=j;rw[zLa,zLa]at j;refine .inr (.inr (.inl ⟨f,[a,b],t,rfl,et,u,tl,by simp,λe g=>?_,λe g=>?_,hl,?_,?_⟩))
  ·simp only[zam,zaH,zbM]at g;rcases g with rfl|rfl <;> omega
  ·simp only[zam,zaH,zbM]at g;rcases g with rfl|rfl
   ·exact q
   exact ob
  ·simp only[zbB,zbR,zaK,zLa,zLc,zLn]at j ⊢;omega
  unfold eff Ex1.ln Ex1.cs Ex1.ks at h;rw[et]at h;simp only[zbB,zbR,zaK,zbN,zaG,zeV]at h ⊢;exact h
 |op k a b =>
  obtain⟨r,q,ob,hl⟩:=ok;have hd:max a.dep b.dep+1<n+1:=hd;have j:s.calls.length+(a.cs told s.lines s.many++b.cs told s.lines s.many).length<=1000:=j;have e1:mkK k = "make"\/mkK k = "sum":=by unfold mkK;split <;> simp
  have e2:tabL mkT k=some (.str (mkK k)):=by rcases r with rfl|rfl|rfl <;> rfl
  have e3:(if mkK k = "make" then(1:Int) else 0)=if k = "cons" then 1 else 0:=by rcases r with rfl|rfl|rfl <;> decide
  refine .inr (.inr (.inr ⟨k,mkK k,[a,b],rfl,by rcases r with rfl|rfl|rfl <;> decide,by rcases r with rfl|rfl|rfl <;> decide,e2,e1,by simp,λe g=>?_,λe g=>?_,hl,?_,?_⟩))
  ·simp only[zam,zaH,zbM]at g;rcases g with rfl|rfl <;> omega
  ·simp only[zam,zaH,zbM]at g;rcases g with rfl|rfl
   ·exact q
   exact ob
  ·simp only[zbB,zbR,zaK]at j ⊢;exact j
  rw[e3];unfold eff Ex1.ln Ex1.cs Ex1.ks incs at h;rw[zdU]at h;simp only[zbB,zbR,zaK,zaG,zeV];exact h
 |node a b c =>
  obtain⟨q,ob,y,hl⟩:=ok;have hd:max a.dep (max b.dep c.dep)+1<n+1:=hd;have j:s.calls.length+(a.cs told s.lines s.many++b.cs told s.lines s.many++c.cs told s.lines s.many).length<=1000:=j;refine .inr (.inr (.inr ⟨"node","make",[a,b,c],rfl,by decide,by decide,rfl,.inl rfl,by simp,λe g=>?_,λe g=>?_,hl,?_,?_⟩))
  ·simp only[zam,zaH,zbM]at g;rcases g with rfl|rfl|rfl <;> omega
  ·simp only[zam,zaH,zbM]at g;rcases g with rfl|rfl|rfl
   ·exact q
   ·exact ob
   exact y
  ·simp only[zbB,zbR,zaK,zbN]at j ⊢;exact j
  unfold eff Ex1.ln Ex1.cs Ex1.ks incs at h;rw[zdU]at h;simp only[zbB,zbR,zaK,zbN,zaG,zeV]at h ⊢;exact h
def Lu{x:D}{Z:List D}{φ:EV->Prop}(h:φ (dv (.tup Z))):sSl (.tup (x::Z)) (some ((1:Nat):Int)) none φ:=by
 refine⟨λz=>?_,?_⟩
 ·have:=z.1;rw[ZZ.sIx_nat,zLc]at this;omega
 rw[ju];exact h
def V0{x:D}{Z:List D}{U:DE}{L:List D->Prop}(h:L Z):iSeq (dSl (v7 0) (Xu (dC (.int 1))) Tq) (q_ (.tup (x::Z))::U) L :=
 Lu (x:=x) (Z:=Z) (φ:=λr=>(match r.k with|.own=>False|_=>True)/\match Vo r.d with|some Z=>L Z|none=>False) ⟨zaA,h⟩
def qh{told:List (Str×List Int)}(X:AX P w K mg C G):∀n,FMid P w K mg base (n+2) "line_of" ["expression","path","told_sizes"] (F8 C told n):=by
 obtain⟨f,fd,F,m⟩:=X.f "line_of" 13 aB
 have S:zv ["expression","path","told_sizes","kind","lines","together"] ["expression","path","told_sizes"] (ze (top 13)):=by walk_at "f"
 intro n
 induction n with
 |zero =>
  refine M9 F S (F.binds (by walk_at "3")) m rfl aB λqZ A outer s H xs d a c φ hr hT=>?_
  obtain⟨s,e,_,_,_,h,_⟩:=hT;exact absurd h (zdT _)
 |succ n z4i =>
  refine M9 F S (F.binds (by walk_at "3")) m rfl aB λqZ A outer s H xs d a c φ hr hT=>?_
  have hu:=hr.units;refine⟨_,(yc (V4 3 aB S.nd (zk hu (za 0) zd))
   (yc (Zv (gc (xn hu (za 3) zf)) (xc (b9 (fh (zk hu (vk X.O (za 1)) (zk hu (za 0) zd))))) ba)
   (yc (Zv (gc (xn hu (za 3) zf)) (yc (Fm 4 aB S.nd (Dl (Fp (k:=0) (T:=["part"]) (F:=["path","told_sizes"]) (js:=[1,2]) (xu (zk hu (za 0) zd)) (show zx (ze (top 13)) _ _ _ from by walk_at "c") (.cons rfl (.cons rfl .nil)) aB rfl rfl (by walk_at "t") (λcl C fp s H=>(Ub z4i hr.d (za 0) (za 2)))) X.T.tuple))
   (yc (On (bj X.O yn) (wy (zg (aK (zk hu (za 0) zd) (za 4)))))
   (xc (b9 (fh (zu (dw X) hr.d (aM (zk hu (za 2) (zk hu (za 0) zd)) (za 4) (vk X.O (za 1))))))))) ba)
   (yc (Zv (gc (Mg X.t_MAKES (za 3))) (xc (b9 (fh (jr X.O (t7 X) hr.d (za 1))))) ba)
   (yc (Tb (k:=0) (T:=["part"]) (F:=["path","told_sizes"]) (js:=[1,2]) 4 aB S.nd (xu (u4 (za 0) (uh zd) qo)) (show zx (ze (top 13)) _ _ _ from by walk_at "c") (.cons rfl (.cons rfl .nil)) aB rfl rfl (by walk_at "t") (λcl C fp s H=>(Ub z4i hr.d (za 0) (za 2))))
   (yc (xi (vo X.O (Wb X) hr.d (ye (Qj X.t_MAKES (za 3)) vh)))
   (yc (V4 5 aB S.nd (yg (x9 (aJ (jt (xn hu (Qj X.t_MAKES (za 3)) zf) zd zd))) (sr (T:=["line"]) (F:=[]) (js:=[]) (xu (za 4)) (show zx (ze (top 13)) _ _ _ from by walk_at "c") .nil aB (by walk_at "t") (yi aB) (x3 0) (λcl C fp s H=>w5) (λcl C fp s H=>zd))))
   (xc (b9 (fh (zu (dw X) hr.d (aM (za 5) (za 4) (vk X.O (za 1)))))))))))))),?_⟩
  obtain⟨j,e,rfl,rfl,rfl,hd,ok,Q,v,a3,h⟩:=hT;obtain hv:=Ex1.view hd ok a3 h;generalize e.d=ed at hv ⊢;rcases hv with⟨x,l,rfl,el,h⟩|⟨r,rest,rfl,I,B,q,h⟩|⟨M,es,t1,rfl,et,V,W,Y,h1,u,y,N,h⟩|⟨k1,kk,es,rfl,I,B,q,ds,Y,h1,u,y,N,h⟩
  ·refine yh (ur (dv (.str "var")) aA trivial ?_)
   dsimp only
   exact Td (yf true (x:="var") aB aA) (Rl (dv (lnD l)) (λL g=>yj (dv (.dk (j.lines.map kS) (j.lines.map λp:Str×List Int=>lnD p.2))) (dv (.str x)) (λL g=>fld aA ix2 rfl g) aA (Ui rfl (by rw[rg (f:=lnD),el];rfl) g)) (y8 _) ⟨_,rfl,h⟩)
  ·refine yh (ur (dv (.str r)) (λL g=>yj (dv (.tup (.str r::rest))) (dv (.int 0)) aA aA (qy (at_0 _ _) g)) trivial ?_)
   dsimp only
   refine d8 (yf false I aA) ?_;refine d8 (yf false B aA) ?_;exact Td (Vg true aA (by rw[q];rfl)) (Rl (dv (lnD (nou j.many))) (λL g=>Vf aA aD rfl g) (y8 _) ⟨_,rfl,h⟩)
  ·refine yh (ur (dv (.str "call")) aA trivial ?_)
   dsimp only
   refine d8 (yf false (x:="call") aB aA) ?_
   refine Td (yf true (x:="call") aB aA) ?_
   refine yh (Fi (Mx (λL g=>⟨zaA,g⟩) aD h1 u Q v aD ?_))
   rw[Wh]
   dsimp only
   refine yh (Ti rfl ix5 ⟨_,_,rfl,rfl,by rw[zLm,zLa];omega,Qd (dv (vq (M,es.map (Ex1.ln told j.lines j.many)))) (λL g=>⟨rfl,rfl,g⟩) ⟨zaA,tx _,zaA⟩ ?_⟩)
   dsimp only
   refine ts_ρ (ρ':=[q_ (.tup [.str "call",.str M,.tup (es.map Ex1.d)]),q_ (psD C {j with steps:=incs j.steps (es.flatMap Ex1.ks),calls:=j.calls++es.flatMap (Ex1.cs told j.lines j.many)++[(M,es.map (Ex1.ln told j.lines j.many))]}),q_ (tlD told),q_ (.str "call"),q_ (.tup ((es.map (Ex1.ln told j.lines j.many)).map lnD)),none]) ?_ ?_
   ·have e9:∀cs:List (Str×List (List Int)),(j.calls++cs++[(M,es.map (Ex1.ln told j.lines j.many))]).map vq=(j.calls++cs).map vq++[vq (M,es.map (Ex1.ln told j.lines j.many))]:=λcs=>zMa;unfold psD;rw[e9];rfl
   refine Rl (dv (lnD (lay t1 (es.map (Ex1.ln told j.lines j.many)) j.many))) (λL g=>yb [dv (lnD t1),dv (.tup ((es.map (Ex1.ln told j.lines j.many)).map lnD)),dv (.int (j.many:Nat))] (λL g=>zt _ _ (λL g=>yj (dv (tlD told)) (dv (.str M)) aA aA (Ui rfl (by rw[rg (f:=lnD),et];rfl) g)) (λL g=>zt _ _ aA (λL g=>zt _ [] (λL g=>fld aA ix0 rfl g) aA g) g) g) rfl ⟨_,_,t1.getD 0 0,t1.drop 1,es.map (Ex1.ln told j.lines j.many),j.many,rfl,.inl ?_,.inl rfl,Q,by rw[zLm];omega,λz R=>W z (zeM R),?_,g⟩) (y8 _) ⟨_,rfl,h⟩
   ·show lnD t1=_;obtain⟨a0,r0,rfl⟩:=List.exists_cons_of_ne_nil V;rfl
   exact y
  refine yh (ur (dv (.str k1)) (λL g=>yj (dv (.tup (.str k1::es.map Ex1.d))) (dv (.int 0)) aA aA (qy (at_0 _ _) g)) trivial ?_)
  dsimp only
  refine d8 (yf false I aA) ?_;refine d8 (yf false B aA) ?_;refine d8 (Vg false aA (by rw[q];rfl)) ?_
  refine yh (Fj (Mx (λL g=>?_) aD h1 u Q v aD ?_))
  ·exact V0 g
  rw[Wh]
  dsimp only
  refine yh (x6 (xt [.str kk] rfl (λL g=>xm (.str kk) [] (λL g=>Q5 aA q g) aA g) rfl ⟨{j with steps:=incs j.steps (es.flatMap Ex1.ks),calls:=j.calls++es.flatMap (Ex1.cs told j.lines j.many)},kk,rfl,rfl,by rcases ds with rfl|rfl <;> decide,(rh _ _).trans v,?_⟩))
  dsimp only
  refine yh (ur (df (.lst (((if kk = "make" then 1 else 0)::es.map λ_=>(1:Int)).map D.int))) (λL g=>yj (df (.lst [.int (if kk = "make" then 1 else 0)])) (df (.lst ((es.map λ_=>(1:Int)).map D.int))) (λL g=>zt (dv (.int (if kk = "make" then 1 else 0))) [] (λL g=>yf (decide (kk = "make")) rfl (λL g=>Q5 aA q g) _ ?_) aA ⟨rfl,rfl,g⟩) (λL g=>xa ((es.map (Ex1.ln told j.lines j.many)).map lnD) (λL g=>⟨zaA,g⟩) (λ_=>some (.int 1)) (by rw[zLm,zLm];omega) (λd hd=>⟨λ_=>⟨zaA,rfl⟩,λz=>nomatch z⟩) ?_) ⟨?_,g⟩) trivial ?_)
  ·by_cases ek:kk = "make"
   ·rw[zaM ek]at g;rw[zaX ek];exact⟨λ_=>g,nofun⟩
   rw[zaJ ek]at g;rw[zaP ek];exact⟨nofun,λ_=>g⟩
  ·have e5:((es.map (Ex1.ln told j.lines j.many)).map lnD).filterMap (λ_=>some (D.int 1))=(es.map λ_=>(1:Int)).map D.int:=by
    rw[zcF,zcF,zaZ,<- zcN];rfl
   rw[e5];exact g
  ·rw[zaV];simp;omega
  dsimp only
  refine Rl (dv (lnD (lay ((if kk = "make" then 1 else 0)::es.map λ_=>1) (es.map (Ex1.ln told j.lines j.many)) j.many))) (λL g=>yb [dO (.lst (((if kk = "make" then 1 else 0)::es.map λ_=>(1:Int)).map D.int)),dv (.lst ((es.map (Ex1.ln told j.lines j.many)).map lnD)),dv (.int (j.many:Nat))] (λL g=>zt _ _ aA (λL g=>zt _ _ aA (λL g=>zt _ [] (λL g=>fld aA ix0 rfl g) aA g) g) g) rfl ⟨_,_,(if kk = "make" then 1 else 0),es.map λ_=>1,es.map (Ex1.ln told j.lines j.many),j.many,rfl,.inr rfl,.inr rfl,Q,by rw[zLm];omega,λz R=>?_,y,g⟩) (y8 _) ⟨_,rfl,h⟩
  obtain⟨_,_,rfl⟩:=zah.mp R
  decide
inductive Bo where
 |give (e:Ex1)|lett (x:Str) (e:Ex1) (b:Bo)|less (a c:Ex1) (t u:Bo)
 |list (x:Str) (b:Bo) (h t:Str) (f:Bo)|tree (x:Str) (b:Bo) (l m r:Str) (f:Bo)
def Bo.d:Bo->D
 |.give e=>.tup [.str "give",e.d]
 |.lett x e b=>.tup [.str "let",.str x,e.d,b.d]
 |.less a c t u=>.tup [.str "less",a.d,c.d,t.d,u.d]
 |.list x b h t f=>.tup [.str "list",.str x,b.d,.str h,.str t,f.d]
 |.tree x b l m r f=>.tup [.str "tree",.str x,b.d,.str l,.str m,.str r,f.d]
def Bo.dep:Bo->Nat
 |.give _=>0
 |.lett _ _ b=>b.dep+1
 |.less _ _ t u=>max t.dep u.dep+1
 |.list _ b _ _ f=>max b.dep f.dep+1
 |.tree _ b _ _ _ f=>max b.dep f.dep+1
def stp(k:Str)(s:PS1):PS1:={s with steps:=incS x8 s.steps k}
def EOk(told:List (Str×List Int))(e:Ex1)(s:PS1):Prop:=e.dep<4/\e.Ok told s.lines s.many/\s.many<=900/\s.steps.length=6/\s.calls.length+(e.cs told s.lines s.many).length<=1000
section
variable(told:List (Str×List Int))
def ends:Bo->PS1->List (PS1×List Int)
 |.give e,s=>[(eff told e s,e.ln told s.lines s.many)]
 |.lett x e b,s=>ends b (stp "let" (vm x (e.ln told s.lines s.many) (eff told e s)))
 |.less a c t u,s=>ends t (stp "less" (eff told c (eff told a s)))++ends u (stp "less" (eff told c (eff told a s)))
 |.list x b h t f,s=>ends b (foundE x (stp "open" s))++ends f (foundF "list" x [h,t] (stp "open" s))
 |.tree x b l m r f,s=>ends b (foundE x (stp "open" s))++ends f (foundF "tree" x [l,m,r] (stp "open" s))
def BOk:Bo->PS1->Prop
 |.give e,s=>EOk told e s
 |.lett x e b,s=>EOk told e s/\s.lines.length<=900/\BOk b (stp "let" (vm x (e.ln told s.lines s.many) (eff told e s)))
 |.less a c t u,s=>EOk told a s/\EOk told c (eff told a s)/\Few (stp "less" (eff told c (eff told a s)))/\BOk t (stp "less" (eff told c (eff told a s)))/\BOk u (stp "less" (eff told c (eff told a s)))
 |.list x b h t f,s=>WF (stp "open" s)/\Hb s/\(getA s.lines x).isSome=true/\BOk b (foundE x (stp "open" s))/\BOk f (foundF "list" x [h,t] (stp "open" s))
 |.tree x b l m r f,s=>WF (stp "open" s)/\Hb s/\(getA s.lines x).isSome=true/\BOk b (foundE x (stp "open" s))/\BOk f (foundF "tree" x [l,m,r] (stp "open" s))
end
theorem xr(told:List (Str×List Int)):∀(b:Bo)(s:PS1),(ends told b s).length<=2 ^ b.dep
 |.give e,s=>zaj _
 |.lett x e b,s=>by
  unfold ends Bo.dep;exact zak (xr told b _) (zaD aB (zcJ _))
 |.less a c t u,s=>by
  unfold ends Bo.dep;rw[zLa,zeF];have J:=zak (xr told t (stp "less" (eff told c (eff told a s)))) (zaD (aB:0<2) (zaW t.dep u.dep))
  have h2:=zak (xr told u (stp "less" (eff told c (eff told a s)))) (zaD (aB:0<2) (zaQ t.dep u.dep))
  omega
 |.list x b h t f,s=>by
  unfold ends Bo.dep;rw[zLa,zeF];have J:=zak (xr told b (foundE x (stp "open" s))) (zaD (aB:0<2) (zaW b.dep f.dep))
  have h2:=zak (xr told f (foundF "list" x [h,t] (stp "open" s))) (zaD (aB:0<2) (zaQ b.dep f.dep))
  omega
 |.tree x b l m r f,s=>by
  unfold ends Bo.dep;rw[zLa,zeF];have J:=zak (xr told b (foundE x (stp "open" s))) (zaD (aB:0<2) (zaW b.dep f.dep))
  have h2:=zak (xr told f (foundF "tree" x [l,m,r] (stp "open" s))) (zaD (aB:0<2) (zaQ b.dep f.dep))
  omega
def endD(p:PS1×List Int):D:=F4 p.1 (lnD p.2)
def Cw(C:Addr)(told:List (Str×List Int))(n:Nat):FTE:=λd a c φ=>∃(s:PS1)(b:Bo),d=psD C s/\a=b.d/\c=tlD told/\b.dep<n/\b.dep<=8/\BOk told b s/\φ (.lst ((ends told b s).map endD))
def jv{tc:TDb}{t u:TC1}{U:DE}{φ:D->Prop}(h:∀ L:Bool->Prop,L false->tc U L)(hu:u U φ):cIf (qT tc) t u U φ:=h _ ⟨nofun,λ_=>hu⟩
def Sz{tc:TDb}{t u:TC1}{U:DE}{φ:D->Prop}(h:∀ L:Bool->Prop,L true->tc U L)(a:t U φ):cIf (qT tc) t u U φ:=h _ ⟨λ_=>a,nofun⟩
def Q0{l:Nat}{told:List (Str×List Int)}{ta tc:TD}{U:DE}{φ:D->DE->Prop}(e:Ex1)(s:PS1)(j:∀ L:EV->Prop,L (dv e.d)->ta (hid l U) L)(g:∀ L:EV->Prop,L (dv (tlD told))->tc (hid l U) L)(a:slot U l=q_ (psD C s))(ok:EOk told e s)(h:φ (lnD (e.ln told s.lines s.many)) (setS U l (dv (psD C (eff told e s))))):qMid l (F8 C told 4) ta tc U φ :=
 j _ ⟨zaA,g _ ⟨zaA,_,a,s,e,rfl,rfl,rfl,ok.1,ok.2.1,ok.2.2.1,ok.2.2.2.1,ok.2.2.2.2,h⟩⟩
def b8{l n:Nat}{told:List (Str×List Int)}{ta tc:TD}{U:DE}{φ:D->Prop}(b:Bo)(s:PS1)(j:∀ L:EV->Prop,L (dv b.d)->ta (hid l U) L)(g:∀ L:EV->Prop,L (dv (tlD told))->tc (hid l U) L)(e:slot U l=q_ (psD C s))(hd:b.dep<n)(a:b.dep<=8)(ok:BOk told b s)(h:φ (.lst ((ends told b s).map endD))):cMid l (Cw C told n) ta tc U φ :=
 j _ ⟨zaA,g _ ⟨zaA,_,e,s,b,rfl,rfl,rfl,hd,a,ok,h⟩⟩
def Kv{l n:Nat}{ns:List Str}{T:FTQ}{t:TQs}{U:DE}{φ:D->DE->Prop}{Z:List D}(es:List D)(a:DE)(d1:D)(g:slot U l=q_ (.ob C ns Z))(e:∀ L:List D->DE->Prop,L es a->t U L)(d:slot a l=q_ d1)(j:Nat.beq (es.length+1) n=true)(hT:T d1 es λr d'=>φ r (setS a l (dv d'))):Te l n C ns T t U φ:=⟨Z,g,e _ (by rw[d];exact⟨j,hT⟩)⟩
def Xf{l:Nat}{U:DE}{ds:QZ}{k:Str}{s:PS1}(d:slot U l=q_ (psD C s))(e:k∈x8)(g:s.steps.length=6)(h:ds.nx (setS U l (dv (psD C (stp k s))))):K8 (Te l 2 C xf (F51 C) (Xk (l:=l) (dC (.str k)) Fu)) U ds :=
 x6 (xt [.str k] d (λL a=>⟨zaA,a⟩) rfl ⟨s,k,rfl,rfl,e,g,h⟩)
def B4{a b c d e:D}{U:DE}{L:List D->Prop}(h:L [b,c]):iSeq (dSl (v7 0) (Xu (dC (.int 1))) (Xu (dC (.int 3)))) (q_ (.tup [a,b,c,d,e])::U) L :=
 ⟨λz=>absurd z.1 (show ¬ ZZ.sIx 5 0 (some 1)=0 by decide),zaA,h⟩
def O3{φ:D->Prop}{E ys:List (PS1×List Int)}(h:φ (.lst ((E++ys).map endD))):φ (.lst (E.map endD++ys.map endD)):=by
 rw[zMa]at h;exact h
def U7{told:List (Str×List Int)}(X:AX P w K mg C G):∀n,FEat G P w K mg base (n+7) "ends_of" ["body","path","told_sizes"] (Cw C told n):=by
 obtain⟨f,fd,F,m⟩:=X.f "ends_of" 12 aB
 have S:zv ["body","path","told_sizes","kind","part","other"] ["body","path","told_sizes"] (ze (top 12)):=by walk_at "f"
 intro n
 induction n with
 |zero =>
  refine Me F S (F.binds (by walk_at "3")) m rfl aB λqZ A outer s H xs d a c φ hr hT=>?_
  obtain⟨s,e,_,_,_,h,_⟩:=hT;exact absurd h (zdT _)
 |succ n z4e =>
  refine Me F S (F.binds (by walk_at "3")) m rfl aB λqZ A outer s H xs d a c φ hr hT=>?_
  have hu:=hr.units;refine⟨_,(wg (V4 3 aB S.nd (zk hu (za 0) zd))
   (Fs (gc (xn hu (za 3) zf)) (V5 (z1f (Dv X.O (Jk X) hr.d (Ub (qh (told:=told) X 4) hr.d (zk hu (za 0) zd) (za 2)))))
   (Fs (gc (xn hu (za 3) zf)) (wg (xi (vo X.O (ji X) hr.d (ye (zk hu (za 0) zd) (j0 (Ub (qh (told:=told) X 4) hr.d (zk hu (za 0) zd) (za 2)) vh))))
   (wg (xi (vo X.O (Wb X) hr.d (ye zf vh))) (V5 (Ue X.mG z4e hr.d (zk hu (za 0) zd) (za 2)))))
   (Fs (gc (xn hu (za 3) zf)) (wg (Ol X.mG (xu (u4 (za 0) (uh zd) (uh zd))) (zw (i:=4) S.nd rfl aG) (Ji 4 aB) (xc (xi (Ub (qh (told:=told) X 4) hr.d (za 4) (za 2)))))
   (wg (xi (vo X.O (Wb X) hr.d (ye zf vh))) (Fq (l2:=5) X.O (Qc X) hr.d aB S.nd (Ue X.mG z4e hr.d (zk hu (za 0) zd) (za 2)) (Ue X.mG z4e hr.d (zk hu (za 0) zd) (za 2)))))
   (wg (xi (vo X.O (Wb X) hr.d (ye zf vh))) (Bi (l2:=5) X.O (Qc X) hr.d aB S.nd (jn X.mG X.O (Za X) hr.d (ye (zk hu (za 0) zd) vh))
   (jn X.mG X.O (Y1 X) hr.d (ye (za 3) (ye (zk hu (za 0) zd) (ye (u4 (za 0) (uh zd) (uh (Uc zd))) vh)))) (Ue X.mG z4e hr.d (zk hu (za 0) zd) (za 2)) (Ue X.mG z4e hr.d (zk hu (za 0) (Uc zd)) (za 2)))))))),?_⟩
  obtain⟨j,N,rfl,rfl,rfl,hd,k,ok,h⟩:=hT;cases N with
  |give e =>
   refine xj (ur (dv (.str "give")) aA trivial ?_)
   dsimp only
   refine Sz (yf true (x:="give") aB aA) ?_
   exact⟨_,rfl,Q0 e j aA aA rfl ok ⟨_,rfl,_,rfl,h⟩⟩
  |lett x e b =>
   obtain⟨oe,hl,ob⟩:=ok;have hd:b.dep+1<n+1:=hd;have k:b.dep+1<=8:=k;refine xj (ur (dv (.str "let")) aA trivial ?_)
   dsimp only
   refine jv (yf false (x:="let") aB aA) ?_
   refine Sz (yf true (x:="let") aB aA) ?_
   refine xj (x6 (Kv [.str x,lnD (e.ln told j.lines j.many)] [q_ (Bo.lett x e b).d,q_ (psD C (eff told e j)),q_ (tlD told),q_ (.str "let"),none,none] _ rfl (λL g=>⟨zaA,Q0 e j aA aA rfl oe g⟩) rfl rfl ⟨eff told e j,x,_,rfl,rfl,hl,?_⟩));refine xj (Xf (s:=vm x (e.ln told j.lines j.many) (eff told e j)) rfl aB ((rh _ _).trans oe.2.2.2.1) ?_)
   dsimp only
   exact b8 b _ aA aA rfl (show b.dep<n by omega) aD ob h
  |less a c t u =>
   obtain⟨h1,v,M,I,D⟩:=ok;have hd:max t.dep u.dep+1<n+1:=hd;have k:max t.dep u.dep+1<=8:=k;refine xj (ur (dv (.str "less")) aA trivial ?_)
   dsimp only
   refine jv (yf false (x:="less") aB aA) ?_
   refine jv (yf false (x:="less") aB aA) ?_
   refine Sz (yf true (x:="less") aB aA) ?_
   refine xj (B4 ⟨λi U=>∃(s:PS1)(p:Option EV),(i=0/\s=j\/i=1/\s=eff told a j\/i=2/\s=eff told c (eff told a j))/\U=[q_ (Bo.less a c t u).d,q_ (psD C s),q_ (tlD told),q_ (.str "less"),p,none],⟨j,none,.inl ⟨rfl,rfl⟩,rfl⟩,?_,?_⟩)
   ·rintro i d U q ⟨s,p,hi,rfl⟩;rcases hi with⟨rfl,rfl⟩|⟨rfl,rfl⟩|⟨rfl,rfl⟩
    ·cases q
     exact Q0 a s aA aA rfl h1 ⟨_,_,.inr (.inl ⟨rfl,rfl⟩),rfl⟩
    ·cases q
     exact Q0 c _ aA aA rfl v ⟨_,_,.inr (.inr ⟨rfl,rfl⟩),rfl⟩
    cases q
   rintro U ⟨s,p,hi,rfl⟩;rcases hi with⟨z,_⟩|⟨z,_⟩|⟨_,rfl⟩
   ·cases z
   ·cases z
   refine xj (Xf (s:=eff told c (eff told a j)) rfl aB ((rh _ _).trans v.2.2.2.1) ?_)
   refine⟨zaB rfl,_,rfl,stp "less" (eff told c (eff told a j)),rfl,M,?_⟩;have B:=zak (xr told t (stp "less" (eff told c (eff told a j)))) (zaD (aB:0<2) (show t.dep<=8 by omega))
   have y:=zak (xr told u (stp "less" (eff told c (eff told a j)))) (zaD (aB:0<2) (show u.dep<=8 by omega))
   exact b8 t _ aA aA rfl (show t.dep<n by omega) aD I ⟨_,rfl,by rw[zLm];omega,b8 u _ aA aA rfl (show u.dep<n by omega) aD D ⟨_,rfl,by rw[zLm];omega,O3 h⟩⟩
  |list x b J t1 f =>
   obtain⟨wf,r,q,ob,l⟩:=ok;have hd:max b.dep f.dep+1<n+1:=hd;have k:max b.dep f.dep+1<=8:=k;refine xj (ur (dv (.str "list")) aA trivial ?_)
   dsimp only
   refine jv (yf false (x:="list") aB aA) ?_
   refine jv (yf false (x:="list") aB aA) ?_
   refine jv (yf false (x:="list") aB aA) ?_
   refine xj (Xf (s:=j) rfl aB ((k8 _ _ _).symm.trans wf.few.st) ?_)
   have B:=zak (xr told b (foundE x (stp "open" j))) (zaD (aB:0<2) (show b.dep<=8 by omega))
   have y:=zak (xr told f (foundF "list" x [J,t1] (stp "open" j))) (zaD (aB:0<2) (show f.dep<=8 by omega))
   refine⟨zaB rfl,_,rfl,stp "open" j,rfl,wf.few,xt [.str x] rfl (λL g=>xm _ [] aA aA g) rfl ⟨stp "open" j,x,rfl,rfl,wf,_,rfl,zaB rfl,xt [.str "list",.str x,.tup [.str J,.str t1]] rfl (λL g=>xm _ _ aA (λL g=>xm _ _ aA (λL g=>xm _ [] (λL g=>?_) aA g) g) g) rfl ⟨stp "open" j,"list",x,[J,t1],rfl,rfl,wf,.inl ⟨rfl,rfl⟩,q,⟨r.ln,r.ow⟩,_,rfl,zaB rfl,zaB rfl,?_⟩⟩⟩
   ·exact⟨λz=>absurd z.1 (show ¬ ZZ.sIx 6 0 (some 3)=0 by decide),g⟩
   exact b8 b _ aA aA rfl (show b.dep<n by omega) aD ob ⟨_,rfl,by rw[zLm];omega,b8 f _ aA aA rfl (show f.dep<n by omega) aD l ⟨_,rfl,by rw[zLm];omega,O3 h⟩⟩
  |tree x b l1 m1 r1 f =>
   obtain⟨wf,r,q,ob,l⟩:=ok;have hd:max b.dep f.dep+1<n+1:=hd;have k:max b.dep f.dep+1<=8:=k;refine xj (ur (dv (.str "tree")) aA trivial ?_)
   dsimp only
   refine jv (yf false (x:="tree") aB aA) ?_
   refine jv (yf false (x:="tree") aB aA) ?_
   refine jv (yf false (x:="tree") aB aA) ?_
   refine xj (Xf (s:=j) rfl aB ((k8 _ _ _).symm.trans wf.few.st) ?_)
   have B:=zak (xr told b (foundE x (stp "open" j))) (zaD (aB:0<2) (show b.dep<=8 by omega))
   have y:=zak (xr told f (foundF "tree" x [l1,m1,r1] (stp "open" j))) (zaD (aB:0<2) (show f.dep<=8 by omega))
   refine⟨zaB rfl,_,rfl,stp "open" j,rfl,wf.few,xt [.str x] rfl (λL g=>xm _ [] aA aA g) rfl ⟨stp "open" j,x,rfl,rfl,wf,_,rfl,zaB rfl,xt [.str "tree",.str x,.tup [.str l1,.str m1,.str r1]] rfl (λL g=>xm _ _ aA (λL g=>xm _ _ aA (λL g=>xm _ [] (λL g=>?_) aA g) g) g) rfl ⟨stp "open" j,"tree",x,[l1,m1,r1],rfl,rfl,wf,.inr ⟨rfl,rfl⟩,q,⟨r.ln,r.ow⟩,_,rfl,zaB rfl,zaB rfl,?_⟩⟩⟩
   ·exact⟨λz=>absurd z.1 (show ¬ ZZ.sIx 7 0 (some 3)=0 by decide),g⟩
   exact b8 b _ aA aA rfl (show b.dep<n by omega) aD ob ⟨_,rfl,by rw[zLm];omega,b8 f _ aA aA rfl (show f.dep<n by omega) aD l ⟨_,rfl,by rw[zLm];omega,O3 h⟩⟩
structure Fn where
 name:Str
 ps:List (Str×Str)
 gives:Str
 size:List Int
 body:Bo
def Fn.d(f:Fn):D:=.tup [.str f.name,.tup (f.ps.map prD1),.tup [.str f.gives,lnD f.size],f.body.d]
def vg(a:List Fn):List (Str×List Int):=a.map λf=>(f.name,f.size)
def Ex1.pure:∀e:Ex1,yz e.d
 |.num i=>⟨zaA,zaA,zaA⟩
 |.var x=>⟨zaA,zaA,zaA⟩
 |.nil=>⟨zaA,zaA⟩
 |.leaf=>⟨zaA,zaA⟩
 |.op k a b=>⟨zaA,a.pure,b.pure,zaA⟩
 |.node a b c=>⟨zaA,a.pure,b.pure,c.pure,zaA⟩
 |.call1 f a=>⟨zaA,zaA,⟨a.pure,zaA⟩,zaA⟩
 |.call2 f a b=>⟨zaA,zaA,⟨a.pure,b.pure,zaA⟩,zaA⟩
theorem Bo.pure:∀b:Bo,yz b.d
 |.give e=>⟨zaA,e.pure,zaA⟩
 |.lett x e b=>⟨zaA,zaA,e.pure,b.pure,zaA⟩
 |.less a c t u=>⟨zaA,a.pure,c.pure,t.pure,u.pure,zaA⟩
 |.list x b h t f=>⟨zaA,zaA,b.pure,zaA,zaA,f.pure,zaA⟩
 |.tree x b l m r f=>⟨zaA,zaA,b.pure,zaA,zaA,zaA,f.pure,zaA⟩
def Xm(ps:List (Str×Str)):yt (ps.map prD1):=yq.mpr λd hd=>by
 obtain⟨q,_,rfl⟩:=zah.mp hd;exact⟨zaA,zaA,zaA⟩
theorem Fn.pure(f:Fn):yz f.d:=⟨zaA,Xm _,⟨zaA,y8 _,zaA⟩,f.body.pure,zaA⟩
def qz(a:List Fn):yt (a.map Fn.d):=yq.mpr λd hd=>by
 obtain⟨q,_,rfl⟩:=zah.mp hd;exact q.pure
def Cu:FT:=λZ φ=>∃(fns:List Fn)(fn:Fn),Z=[.tup (fns.map Fn.d),.str fn.name]/\fns.length<=100/\(fns.map Fn.name).Nodup/\fn∈fns/\φ (dv fn.d)
theorem z0t:∀{fns:List Fn}{p q:Fn},(fns.map Fn.name).Nodup->p∈fns->q∈fns->p.name=q.name->p=q
 |[],_,_,_,h,_,_=>by cases h
 |f::fns,p,q,nd,hp,hq,e=>by
  obtain⟨a,d⟩:=zaR.mp nd;rcases zam.mp hp with rfl|hp1 <;> rcases zam.mp hq with rfl|hq1
  ·rfl
  ·exact absurd (e▸zcB hq1) a
  ·exact absurd (e▸zcB hp1) a
  exact z0t d hp1 hq1 e
def Yc(X:AX P w K mg C G):FD P w K mg base 1 "function_of" ["program","name"] Cu:=by
 obtain⟨f,fd,F,m⟩:=X.f "function_of" 4 aB
 have S:zv ["program","name","function"] ["program","name"] (ze (top 4)):=by walk_at "f"
 walk_at "b";refine⟨_,(zh (rj (xu (za 0)) (zw (i:=2) S.nd rfl aG) (x3 2) (y0 (wr (xn hu (zk hu (za 2) zd) (za 1)) (y0 (y9 (za 2))) x5)))
   (y0 Ly)),?_⟩
 obtain⟨fns,fn,rfl,hl1,nd,l,h⟩:=hT;show sFor _ _ _ _ _;refine ug (fns.map Fn.d) ?_ (λi U=>(∃t,U=[q_ (.tup (fns.map Fn.d)),q_ (.str fn.name),t])/\∀p∈fns.take i,p.name≠fn.name) ⟨⟨none,rfl⟩,by simp⟩ ?_ ?_
 ·intro L k;exact⟨zaA,k⟩
 ·rintro i d _ hd ⟨⟨t,rfl⟩,g⟩;rw[zai]at hd;cases ep:fns[i]? with
  |none=>rw[ep]at hd;cases hd
  |some p =>
   rw[ep]at hd;cases hd;have r:p∈fns:=zan ep;have tk:fns.take (i+1)=fns.take i++[p]:=by rw[zeI,ep];rfl
   have j:=p.pure;have u:=z0t nd r l;generalize ed:p.d=v at *;unfold Fn.d at ed;subst ed;walk_at "dl";refine⟨λe=>?_,λe=>⟨⟨_,rfl⟩,?_⟩⟩
   ·have:=u e;subst this;exact⟨⟨j.2.1,j.2.2.1.2.1,j.2.2.2.1⟩,h⟩
   rw[tk];intro q a;rcases zas.mp a with a|a
   ·exact g q a
   rw[zaN.mp a];exact e
 rintro _ ⟨_,g⟩;rw[zLm,zeA]at g;exact absurd rfl (g fn l)
def Hj:FTZ:=λZ φ=>∃(fns:List Fn)(fn:Fn),Z=[.tup (fns.map Fn.d),.str fn.name]/\fns.length<=100/\(fns.map Fn.name).Nodup/\fn∈fns/\fn.ps.length<=2/\(∀p∈fn.ps,(getA (first fn.ps).lines p.1).isSome=true)/\fn.body.dep<4/\BOk (vg fns) fn.body (first fn.ps)/\φ (.lst ((ends (vg fns) fn.body (first fn.ps)).map endD))
def z1g:D->Option D
 |.tup [n,_,.tup [_,s],_]=>some (.tup [n,s])
 |_=>none
def Jv(a:List Fn):(a.map Fn.d).filterMap z1g=V9 ((vg a).map kS) ((vg a).map λp=>lnD p.2):=by
 induction a with
 |nil=>rfl
 |cons f a ih =>
  rw[zaG,zbL,ih];rfl
def F1{d:List Fn}(g:(d.map Fn.name).Nodup):((vg d).map kS).Nodup:=by
 unfold vg;rw[zaZ];have e:(kS ∘ λf:Fn=>(f.name,f.size))=(λx:Str=>(Sum.inr x:Key)) ∘ Fn.name:=rfl;rw[e,<- zaZ];exact List.Pairwise.map _ (λa b h z=>h (zdM z)) g
def qg(X:AX P w K mg C G):FZG G P w K mg base 12 "paths_of" ["program","name"] Hj:=by
 obtain⟨f,fd,F,m⟩:=X.f "paths_of" 10 aB
 have S:zv ["program","name","function","told_sizes"] ["program","name"] (ze (top 10)):=by walk_at "f"
 refine z0r F S (F.binds (by walk_at "3")) m λqZ A outer s H xs Z φ hr hl hT=>?_
 have hu:=hr.units;obtain⟨g,fn,rfl,hl1,nd,l,j,k,hd,ok,h⟩:=hT;refine⟨_,(Pz (zy 2 S.nd (zu (Yc X) (hr.e rfl) (aK (za 0) (za 1))))
   (Pz (zy 3 S.nd (Wk X.T.dict (aJ (sr (T:=["each"]) (F:=[]) (js:=[]) (xu (za 0)) (show zx (ze (top 10)) _ _ _ from by walk_at "c") .nil aB (by walk_at "t") (yi aB) (x3 0) (λcl C fp s H=>w5) (λcl C fp s H=>(zg (aK (zk hu (za 0) zd) (zk hu (zk hu (za 0) zd) zd))))))))
   (Cc 3 (Cb (z0y X.mG ((λtold=>U7 (told:=told) X 4) (vg g)) (hr.e rfl) (zk hu (za 2) zd) (Dk (W8 X) (hr.e rfl) (aJ (zk hu (za 2) zd))) (za 3)))))),?_⟩
 refine(show sSet _ _ _ _ from zp (yb [dv (.tup (g.map Fn.d)),dv (.str fn.name)] (λL a=>zt _ _ aA (λL a=>zt _ [] aA aA a) a) rfl ⟨g,fn,rfl,hl1,nd,l,?_⟩))
 dsimp only
 refine⟨zaA,?_⟩;refine(show sSet _ _ _ _ from zp (Qp _ ((vg g).map kS) ((vg g).map λp:Str×List Int=>lnD p.2) (λL a=>xa (g.map Fn.d) (λL a=>⟨zaA,a⟩) z1g (by rw[zLm];omega) (λd hd=>?_) a) (Jv g) (by rw[zLm,zLm]) (F1 nd) ?_))
 ·obtain⟨q,_,rfl⟩:=zah.mp hd;exact⟨λ_=>⟨rfl,rfl,zaA,rfl⟩,λz=>nomatch z⟩
 exact⟨zaA,zaA,rfl,fn.ps,rfl,j,k,zaA,first fn.ps,fn.body,rfl,rfl,rfl,hd,by omega,ok,h⟩
def rk(t:List Int):Prop:=∀z∈t,z.natAbs<=3
section
variable(told:List (Str×List Int))
def Ex1.vv:Ex1->List Str->Prop
 |.var x,ns=>x∈ns
 |.op k a b,ns=>(k = "cons"\/k = "add"\/k = "sub")/\a.vv ns/\b.vv ns
 |.node a b c,ns=>a.vv ns/\b.vv ns/\c.vv ns
 |.call1 f a,ns=>(∃t,getA told f=some t/\t≠[]/\rk t)/\a.vv ns
 |.call2 f a b,ns=>(∃t,getA told f=some t/\t≠[]/\rk t)/\a.vv ns/\b.vv ns
 |_,_=>True
def Bo.vv:Bo->List Str->Prop
 |.give e,ns=>e.vv told ns/\e.dep<4
 |.lett x e b,ns=>(e.vv told ns/\e.dep<4)/\b.vv (x::ns)
 |.less a c t u,ns=>(a.vv told ns/\a.dep<4)/\(c.vv told ns/\c.dep<4)/\t.vv ns/\u.vv ns
 |.list x b h t f,ns=>x∈ns/\b.vv ns/\f.vv (h::t::ns)
 |.tree x b l m r f,ns=>x∈ns/\b.vv ns/\f.vv (l::m::r::ns)
end
def Ln(m M:Nat)(l:List Int):Prop:=l.length=m+1/\∀z∈l,z.natAbs<=M
def Ln.mono{m M M':Nat}{l:List Int}(h:Ln m M l)(d:M<=M'):Ln m M' l:=⟨h.1,λz a=>zak (h.2 z a) d⟩
def Ey{m a R:Nat}{e d:List Int}{n:Int}(j:Ln m a e)(k:n.natAbs<=3)(hr:Ln m R d):Ln m (a+3*R) (lay1 e n d):=by
 refine⟨by unfold lay1;rw[zeP,j.1,hr.1,zfZ],λz g=>?_⟩
 unfold lay1 at g;obtain⟨i,hi⟩:=zdO g;rw[zdL]at hi;cases e1:e[i]? with
 |none=>rw[e1]at hi;cases hi
 |some x =>
  cases e2:d[i]? with
  |none=>rw[e1,e2]at hi;cases hi
  |some y =>
   rw[e1,e2]at hi;have g:z=x+n*y:=(zaT hi).symm;have J:=j.2 x (zan e1);have h2:=hr.2 y (zan e2);have l:(n*y).natAbs<=3*R:=by rw[Int.natAbs_mul];exact Nat.mul_le_mul k h2
   rw[g];exact zak (Int.natAbs_add_le _ _) (Nat.add_le_add J l)
theorem Z4{m R:Nat}:∀(ls:List Int)(rows:List (List Int))(acc:List Int)(a:Nat),Ln m a acc->rk ls->(∀r∈rows,Ln m R r)->Ln m (a+3*R*rows.length) (uy acc ls rows)
 |[],rows,acc,a,ha,_,_=>by
  have e:uy acc [] rows=acc:=by cases rows <;> rfl
  rw[e];exact ha.mono (zeB _ _)
 |l::ls,[],acc,a,ha,_,_=>ha
 |l::ls,r::rows,acc,a,ha,hl,hr=>by
  have h:=Z4 ls rows (lay1 acc l r) (a+3*R) (Ey ha (hl l zao) (hr r zao)) (λz d=>hl z (zal _ d)) λq g=>hr q (zal _ g);rw[show uy acc (l::ls) (r::rows)=uy (lay1 acc l r) ls rows from rfl,zLc,Nat.mul_add,Nat.mul_one,zfY (3*R*rows.length),<- Nat.add_assoc];exact h
def Q2{m R:Nat}{t:List Int}{rows:List (List Int)}(g:rk t)(l:1<=R)(hl:rows.length<=2\/rows.length<=3/\∀ z∈t,z.natAbs<=1)(hr:∀ r∈rows,Ln m R r):Ln m (10*R) (lay t rows m):=by
 have j:(t.getD 0 0).natAbs<=3/\((∀z∈t,z.natAbs<=1)->(t.getD 0 0).natAbs<=1):=by
  cases t with
  |nil=>exact⟨by decide,λ_=>by decide⟩
  |cons a r=>exact⟨g a zao,λh=>h a zao⟩
 have hd:rk (t.drop 1):=λz d=>g z (zeM d);have e:∀c:Nat,(t.getD 0 0).natAbs<=c->Ln m c (t.getD 0 0::List.replicate m 0):=λc k=>⟨by rw[zLc,zbH],λz d=>by
  rcases zam.mp d with rfl|d
  ·exact k
  rw[zeW d];exact zbG _⟩
 unfold lay;rcases hl with hl|⟨hl,J⟩
 ·refine(Z4 (R:=R) (t.drop 1) rows _ 3 (e 3 j.1) hd hr).mono ?_;have:3*R*rows.length<=3*R*2:=Nat.mul_le_mul_left _ hl;omega
 refine(Z4 (R:=R) (t.drop 1) rows _ 1 (e 1 (j.2 J)) hd hr).mono ?_;have:3*R*rows.length<=3*R*3:=Nat.mul_le_mul_left _ hl;omega
def cnt:Nat->Nat
 |0=>0
 |n+1=>3*cnt n+1
theorem yw:∀{a b:Nat},a<=b->cnt a<=cnt b
 |0,_,_=>zbG _
 |a+1,0,h=>absurd h (Nat.not_succ_le_zero _)
 |a+1,b+1,h=>by
  have:=yw (Nat.le_of_succ_le_succ h);show 3*cnt a+1<=3*cnt b+1;omega
structure Lf(told Ls:List (Str×List Int))(m M:Nat)(e:Ex1):Prop where
 ok:e.Ok told Ls m
 ln:Ln m (M*10 ^ e.dep) (e.ln told Ls m)
 cs:(e.cs told Ls m).length<=cnt e.dep
 ar:∀c∈e.cs told Ls m,c.2.length<=2/\∀l∈c.2,l.length=m+1
def Ln.lo{m M:Nat}{l:List Int}(h:Ln m M l)(d:M<10 ^ 60)(e:m<=900):Lo l/\l.length<=1000:=⟨λz a=>zbA (h.2 z a) d,by rw[h.1];omega⟩
def bm{m M:Nat}:Ln m M (nou m):=⟨by unfold nou;rw[zbH],λz a=>by
 unfold nou at a;rw[zeW a];exact zbG _⟩
def Ho{k:Int}(d:k=0\/k=1){n:Nat}:rk (k::List.replicate n 1)/\∀z∈k::List.replicate n (1:Int),z.natAbs<=1:=by
 have h:∀z∈k::List.replicate n (1:Int),z.natAbs<=1:=λz a=>by
  rcases zam.mp a with rfl|a
  ·rcases d with rfl|rfl <;> decide
  rw[zeW a];decide
 exact⟨λz a=>zak (h z a) aB,h⟩
def pw{M a b:Nat}(h:a<=b):M*10 ^ a<=M*10 ^ b:=Nat.mul_le_mul_left _ (zaD aB h)
def pos{M a:Nat}(h:1<=M):1<=M*10 ^ a:=Nat.mul_pos h (Nat.pow_pos aB)
def pws{M a:Nat}:10*(M*10 ^ a)=M*10 ^ (a+1):=by rw[zeF];rw[Nat.mul_left_comm,Nat.mul_comm 10]
theorem jp{told Ls:List (Str×List Int)}{m M:Nat}{ns:List Str}(y:m<=900)(B:1<=M)(j:∀ x∈ns,∃ l,getA Ls x=some l/\Ln m M l):∀e:Ex1,e.vv told ns->M*10 ^ e.dep<10 ^ 60->Lf told Ls m M e
 |.num i,_,_=>⟨zaA,bm,zaj _,λc g=>by cases g⟩
 |.nil,_,_=>⟨zaA,bm,zaj _,λc g=>by cases g⟩
 |.leaf,_,_=>⟨zaA,bm,zaj _,λc g=>by cases g⟩
 |.var x,v,_=>by
  obtain⟨l,Y,hl⟩:=j x v;refine⟨by show(getA Ls x).isSome=true;rw[Y];rfl,?_,zaj _,λc g=>by cases g⟩
  show Ln m (M*1) ((getA Ls x).getD []);rw[Y,Nat.mul_one];exact hl
 |.op k a b,⟨hk,va,vb⟩,G=>by
  have G:M*10 ^ (max a.dep b.dep+1)<10 ^ 60:=G;have I:M*10 ^ a.dep<=M*10 ^ (max a.dep b.dep):=pw (zaW _ _);have D:M*10 ^ b.dep<=M*10 ^ (max a.dep b.dep):=pw (zaQ _ _);have h1:M*10 ^ (max a.dep b.dep)<=M*10 ^ (max a.dep b.dep+1):=pw (zcJ _);have q:=jp y B j a va aD
  have u:=jp y B j b vb aD
  have hr:∀r∈[a.ln told Ls m,b.ln told Ls m],Ln m (M*10 ^ (max a.dep b.dep)) r:=λr hr=>by
   simp only[zam,zaH,zbM]at hr;rcases hr with rfl|rfl
   ·exact q.ln.mono I
   exact u.ln.mono D
  have L:=Ho (k:=if k = "cons" then 1 else 0) (by split <;> simp) (n:=2)
  refine⟨⟨hk,q.ok,u.ok,λl hl=>(hr l hl).lo aD y⟩,?_,?_,λc g=>?_⟩
  ·show Ln m (M*10 ^ (max a.dep b.dep+1)) (lay [if k = "cons" then 1 else 0,1,1] [a.ln told Ls m,b.ln told Ls m] m)
   rw[<- pws];exact Q2 L.1 (pos B) (.inl (zaj 2)) hr
  ·show(a.cs told Ls m++b.cs told Ls m).length<=3*cnt (max a.dep b.dep)+1;rw[zLa];have:=q.cs;have:=u.cs;have:=yw (zaW a.dep b.dep);have:=yw (zaQ a.dep b.dep);omega
  rcases zas.mp (show c∈a.cs told Ls m++b.cs told Ls m from g) with g|g
  ·exact q.ar c g
  exact u.ar c g
 |.node a b c,⟨va,vb,vc⟩,G=>by
  have G:M*10 ^ (max a.dep (max b.dep c.dep)+1)<10 ^ 60:=G;have W:=zaW a.dep (max b.dep c.dep);have V:=zak (zaW b.dep c.dep) (zaQ a.dep (max b.dep c.dep));have R:=zak (zaQ b.dep c.dep) (zaQ a.dep (max b.dep c.dep));have I:M*10 ^ a.dep<=M*10 ^ (max a.dep (max b.dep c.dep)):=pw W;have D:M*10 ^ b.dep<=M*10 ^ (max a.dep (max b.dep c.dep)):=pw V;have h1:M*10 ^ c.dep<=M*10 ^ (max a.dep (max b.dep c.dep)):=pw R;have Q:M*10 ^ (max a.dep (max b.dep c.dep))<=M*10 ^ (max a.dep (max b.dep c.dep)+1):=pw (zcJ _);have q:=jp y B j a va aD
  have u:=jp y B j b vb aD
  have N:=jp y B j c vc aD
  have hr:∀r∈[a.ln told Ls m,b.ln told Ls m,c.ln told Ls m],Ln m (M*10 ^ (max a.dep (max b.dep c.dep))) r:=λr hr=>by
   simp only[zam,zaH,zbM]at hr;rcases hr with rfl|rfl|rfl
   ·exact q.ln.mono I
   ·exact u.ln.mono D
   exact N.ln.mono h1
  have L:=Ho (k:=1) (.inr rfl) (n:=3);refine⟨⟨q.ok,u.ok,N.ok,λl hl=>(hr l hl).lo aD y⟩,?_,?_,λd hd=>?_⟩
  ·show Ln m (M*10 ^ (max a.dep (max b.dep c.dep)+1)) (lay [1,1,1,1] [a.ln told Ls m,b.ln told Ls m,c.ln told Ls m] m);rw[<- pws];exact Q2 L.1 (pos B) (.inr ⟨zaj 3,L.2⟩) hr
  ·show(a.cs told Ls m++b.cs told Ls m++c.cs told Ls m).length<=3*cnt (max a.dep (max b.dep c.dep))+1;rw[zLa,zLa];have:=q.cs;have:=u.cs;have:=N.cs;have:=yw W;have:=yw V;have:=yw R;omega
  rcases zas.mp (show d∈a.cs told Ls m++b.cs told Ls m++c.cs told Ls m from hd) with hd|hd
  ·rcases zas.mp hd with hd|hd
   ·exact q.ar d hd
   exact u.ar d hd
  exact N.ar d hd
 |.call1 f a,⟨⟨t,et,t0,ts⟩,va⟩,G=>by
  have G:M*10 ^ (a.dep+1)<10 ^ 60:=G;have Q:M*10 ^ a.dep<=M*10 ^ (a.dep+1):=pw (zcJ _);have q:=jp y B j a va aD
  have hr:∀r∈[a.ln told Ls m],Ln m (M*10 ^ a.dep) r:=λr hr=>by
   rw[zaN.mp hr];exact q.ln
  refine⟨⟨⟨t,et,t0,λz O=>zbA (ts z O) aB⟩,q.ok,λl hl=>(hr l hl).lo aD y⟩,?_,?_,λc g=>?_⟩
  ·show Ln m (M*10 ^ (a.dep+1)) (lay ((getA told f).getD []) [a.ln told Ls m] m);rw[<- pws,et];exact Q2 ts (pos B) (.inl (zcJ 1)) hr
  ·show(a.cs told Ls m++[(f,[a.ln told Ls m])]).length<=3*cnt a.dep+1;rw[zLa,zbJ];have:=q.cs;omega
  rcases zas.mp (show c∈a.cs told Ls m++[(f,[a.ln told Ls m])] from g) with g|g
  ·exact q.ar c g
  rw[zaN.mp g];exact⟨zcJ 1,λl hl=>(hr l hl).1⟩
 |.call2 f a b,⟨⟨t,et,t0,ts⟩,va,vb⟩,G=>by
  have G:M*10 ^ (max a.dep b.dep+1)<10 ^ 60:=G;have I:M*10 ^ a.dep<=M*10 ^ (max a.dep b.dep):=pw (zaW _ _);have D:M*10 ^ b.dep<=M*10 ^ (max a.dep b.dep):=pw (zaQ _ _);have h1:M*10 ^ (max a.dep b.dep)<=M*10 ^ (max a.dep b.dep+1):=pw (zcJ _);have q:=jp y B j a va aD
  have u:=jp y B j b vb aD
  have hr:∀r∈[a.ln told Ls m,b.ln told Ls m],Ln m (M*10 ^ (max a.dep b.dep)) r:=λr hr=>by
   simp only[zam,zaH,zbM]at hr;rcases hr with rfl|rfl
   ·exact q.ln.mono I
   exact u.ln.mono D
  refine⟨⟨⟨t,et,t0,λz O=>zbA (ts z O) aB⟩,q.ok,u.ok,λl hl=>(hr l hl).lo aD y⟩,?_,?_,λc g=>?_⟩
  ·show Ln m (M*10 ^ (max a.dep b.dep+1)) (lay ((getA told f).getD []) [a.ln told Ls m,b.ln told Ls m] m);rw[<- pws,et];exact Q2 ts (pos B) (.inl (zaj 2)) hr
  ·show(a.cs told Ls m++b.cs told Ls m++[(f,[a.ln told Ls m,b.ln told Ls m])]).length<=3*cnt (max a.dep b.dep)+1;rw[zLa,zLa,zbJ];have:=q.cs;have:=u.cs;have:=yw (zaW a.dep b.dep);have:=yw (zaQ a.dep b.dep);omega
  rcases zas.mp (show c∈a.cs told Ls m++b.cs told Ls m++[(f,[a.ln told Ls m,b.ln told Ls m])] from g) with g|g
  ·rcases zas.mp g with g|g
   ·exact q.ar c g
   exact u.ar c g
  rw[zaN.mp g];exact⟨zaj 2,λl hl=>(hr l hl).1⟩
theorem U5:∀{r:List (Str×α)}{x:Str}{v:α},getA (putA r x v) x=some v
 |[],x,v=>zaM rfl
 |(y,w)::r,x,v=>by
  rw[putA];split
  ·rename_i e;rw[getA,zaM e]
  rename_i e;rw[getA,zaJ e,U5]
theorem M4:∀{r:List (Str×α)}{x y:Str}{v:α},x≠y->getA (putA r x v) y=getA r y
 |[],x,y,v,h=>by
  show(if x=y then some v else none)=none
  exact zaJ h
 |(z,w)::r,x,y,v,h=>by
  rw[putA];split
  ·rename_i e;subst e;rw[getA,getA,zaJ h,zaJ h]
  rw[getA,getA,M4 h]
theorem jc:∀{r:List (Str×α)}{x:Str}{v:α}{p:Str×α},p∈putA r x v->p∈r\/p=(x,v)
 |[],x,v,p,h=>.inr (zaN.mp h)
 |(y,w)::r,x,v,p,h=>by
  rw[putA]at h;split at h
  ·rename_i e;subst e;rcases zam.mp h with h|h
   ·exact .inr h
   exact .inl (zal _ h)
  rcases zam.mp h with h|h
  ·exact .inl (h▸zao)
  rcases jc h with h|h
  ·exact .inl (zal _ h)
  exact .inr h
theorem Nb:∀{r:List (Str×α)}{x:Str}{v:α},(r.map Prod.fst).Nodup->((putA r x v).map Prod.fst).Nodup
 |[],x,v,_=>by simp[putA]
 |(y,w)::r,x,v,h=>by
  rw[putA];obtain⟨J,h2⟩:=zaR.mp (show(y::r.map Prod.fst).Nodup from h);split
  ·exact zaR.mpr ⟨J,h2⟩
  rename_i e;refine zaR.mpr ⟨λz=>?_,Nb h2⟩;obtain⟨p,a,e2⟩:=zah.mp z;rcases jc a with a|rfl
  ·exact J ((show p.1=y from e2)▸zcB a)
  exact e e2.symm
theorem Q9(f:α->β):∀{r:List (Str×α)}{x:Str},getA (r.map λp=>(p.1,f p.2)) x=(getA r x).map f
 |[],x=>rfl
 |(y,w)::r,x=>by
  rw[zaG,getA,getA];split
  ·rfl
  exact Q9 f
theorem bq{x:Str}:∀{r:List (Str×α)}{p:Str×α},p∈xo1 r x->p∈r
 |[],p,h=>h
 |(y,w)::r,p,h=>by
  rw[xo1]at h;split at h
  ·exact zal _ (bq h)
  rcases zam.mp h with h|h
  ·exact h▸zao
  exact zal _ (bq h)
structure Inv1(M L c:Nat)(s:PS1):Prop where
 len:AllL s λl=>l.length=s.many+1
 own:∀p∈s.own,p.2<s.many
 sh:s.shape.length<=2
 ln:s.lines.length<=L
 ow:s.own.length<=L
 ca:s.calls.length<=c
 cl:∀q∈s.calls,q.2.length<=2
 nd:(s.lines.map Prod.fst).Nodup
 st:s.steps.length=6
 mn:s.many<=L
 en:∀p∈s.lines,∀z∈p.2,z.natAbs<=M
def Has(ns:List Str)(s:PS1):Prop:=∀x∈ns,∃l,getA s.lines x=some l
variable{M L c:Nat}{s:PS1}{x:Str}{ns:List Str}
def Inv1.mono{M' L' a:Nat}(h:Inv1 M L c s)(J:M<=M')(h2:L<=L')(g:c<=a):Inv1 M' L' a s :=
 ⟨h.len,h.own,h.sh,zak h.ln h2,zak h.ow h2,zak h.ca g,h.cl,h.nd,h.st,zak h.mn h2,λp e z d=>zak (h.en p e z d) J⟩
def Inv1.few(h:Inv1 M L c s)(e:L<=800)(d:c<=900):Few s:=⟨zak h.sh aB,zak h.ln aD,zak h.ow aD,zak h.ca d,λq a=>zak (h.cl q a) aB,h.nd,h.st,zak h.mn aD⟩
def Inv1.wf(h:Inv1 M L c s)(d:L<=800)(a:c<=900):WF s:=⟨h.few d a,h.len,h.own⟩
def Inv1.roomy(h:Inv1 M L c s)(a:L<=800):Hb s:=⟨zak h.ln a,zak h.ow a⟩
def Inv1.line(h:Inv1 M L c s){l:List Int}(e:getA s.lines x=some l):Ln s.many M l:=⟨h.len.2.1 _ (se e),h.en _ (se e)⟩
def Inv1.stp(h:Inv1 M L c s)(k:Str):Inv1 M L c (stp k s):=⟨h.len,h.own,h.sh,h.ln,h.ow,h.ca,h.cl,h.nd,(k8 _ _ _).trans h.st,h.mn,h.en⟩
def Inv1.eff{told:List (Str×List Int)}{e:Ex1}{R:Nat}(h:Inv1 M L c s)(f:Lf told s.lines s.many R e):Inv1 M L (c+cnt e.dep) (eff told e s):=by
 refine⟨⟨h.len.1,h.len.2.1,λq a l hl=>?_⟩,h.own,h.sh,h.ln,h.ow,?_,λq a=>?_,h.nd,(rh _ _).trans h.st,h.mn,h.en⟩
 ·rcases zas.mp (show q∈s.calls++e.cs told s.lines s.many from a) with a|a
  ·exact h.len.2.2 q a l hl
  exact(f.ar q a).2 l hl
 ·show(s.calls++e.cs told s.lines s.many).length<=_;rw[zLa];exact Nat.add_le_add h.ca f.cs
 rcases zas.mp (show q∈s.calls++e.cs told s.lines s.many from a) with a|a
 ·exact h.cl q a
 exact(f.ar q a).1
def Inv1.bring(h:Inv1 M L c s){l:List Int}(hl:Ln s.many M l):Inv1 M (L+1) c (vm x l s):=by
 refine⟨⟨h.len.1,λp a=>?_,h.len.2.2⟩,h.own,h.sh,zak wt (zbK h.ln),zfI h.ow,h.ca,h.cl,Nb h.nd,h.st,zfI h.mn,λp a=>?_⟩
 ·rcases jc a with a|rfl
  ·exact h.len.2.1 p a
  exact hl.1
 rcases jc a with a|rfl
 ·exact h.en p a
 exact hl.2
def Gz{p n:Nat}(d:1<=M):Ln n M (unit p n):=⟨by unfold unit;rw[zLm,zfH],λz a=>by
 unfold unit at a;obtain⟨j,_,rfl⟩:=zah.mp a;split
 ·exact d
 exact zbG _⟩
def Inv1.bringO(h:Inv1 M L c s){p:Nat}(e:p<s.many)(g:1<=M):Inv1 M (L+1) c (bringO x p s):=by
 have a:=h.bring (x:=x) (Gz (p:=p) (n:=s.many) g);refine⟨a.len,λq d=>?_,a.sh,a.ln,zak wt (zbK h.ow),a.ca,a.cl,a.nd,a.st,a.mn,a.en⟩;rcases jc d with d|rfl
 ·exact h.own q d
 exact e
def Inv1.drop(h:Inv1 M L c s):Inv1 M L c {s with own:=xo1 s.own x}:=⟨h.len,λp a=>h.own p (bq a),h.sh,h.ln,zak qr h.ow,h.ca,h.cl,h.nd,h.st,h.mn,h.en⟩
def Inv1.chg{f:List Int->List Int}{m' M' L':Nat}(h:Inv1 M L c s)(r:∀ l:List Int,l.length=s.many+1->(f l).length=m'+1)(v:∀ l,Ln s.many M l->Ln m' M' (f l))(u:s.many<=m')(x:m'<=L')(hl:L<=L'):Inv1 M' L' c {chg f s with many:=m'}:=by
 refine⟨⟨λl hl=>?_,λp e=>?_,λq k l hl=>?_⟩,λp e=>zaU (h.own p e) u,?_,?_,zak h.ow hl,?_,λq k=>?_,?_,h.st,x,λp e=>?_⟩
 ·obtain⟨j,a,rfl⟩:=zah.mp hl;exact r _ (h.len.1 j a)
 ·obtain⟨d,a,rfl⟩:=zah.mp e;exact r _ (h.len.2.1 d a)
 ·obtain⟨g,a,rfl⟩:=zah.mp k;obtain⟨j,J,rfl⟩:=zah.mp hl;exact r _ (h.len.2.2 g a j J)
 ·show(s.shape.map f).length<=2;rw[zLm];exact h.sh
 ·show(s.lines.map _).length<=L';rw[zLm];exact zak h.ln hl
 ·show(s.calls.map _).length<=c;rw[zLm];exact h.ca
 ·obtain⟨g,a,rfl⟩:=zah.mp k;show(g.2.map f).length<=2;rw[zLm];exact h.cl g a
 ·show((s.lines.map λp=>(p.1,f p.2)).map Prod.fst).Nodup;rw[zaZ];exact h.nd
 obtain⟨d,a,rfl⟩:=zah.mp e;exact(v d.2 ⟨h.len.2.1 d a,h.en d a⟩).2
def Has.bring(h:Has ns s){l:List Int}:Has (x::ns) (vm x l s):=λy d=>by
 by_cases e:x=y
 ·subst e;exact⟨l,U5⟩
 obtain⟨a,g⟩:=h y ((zam.mp d).resolve_left λz=>e z.symm);exact⟨a,(M4 e).trans g⟩
def Has.bringO(h:Has ns s){p:Nat}:Has (x::ns) (bringO x p s):=λy a=>h.bring y a
def Has.chg{f:List Int->List Int}{m:Nat}(h:Has ns s):Has ns {chg f s with many:=m}:=λy a=>by
 obtain⟨l,e⟩:=h y a;exact⟨f l,by show getA (s.lines.map λp=>(p.1,f p.2)) y=_;rw[Q9,e];rfl⟩
def Has.sub{a:List Str}(h:Has ns s)(e:∀ x∈a,x∈ns):Has a s:=λy d=>h y (e y d)
def Mm{p m:Nat}{l:List Int}(d:p<m)(hl:Ln m M l):Ln m M (empL p l):=by
 refine⟨?_,λz a=>?_⟩
 ·unfold empL;rw[zLa,zLa,zcC,zdC,hl.1,zbJ];omega
 unfold empL at a;rcases zas.mp a with a|a
 ·rcases zas.mp a with a|a
  ·exact hl.2 z (List.mem_of_mem_take a)
  rw[zaN.mp a];exact zbG _
 exact hl.2 z (zeM a)
def Sn{m:Nat}{l:List Int}(hl:Ln m M l)(i:Nat):(l.getD i 0).natAbs<=M:=by
 rw[zaq];cases e:l[i]? with
 |none=>exact zbG _
 |some z=>exact hl.2 z (zan e)
def Oc{p m:Nat}{l:List Int}(hl:Ln m M l):Ln m (2*M) (shL p l):=by
 refine⟨?_,λz a=>?_⟩
 ·unfold shL;rw[zLc,zdC,hl.1];omega
 unfold shL at a;rcases zam.mp a with rfl|a
 ·have J:=Sn hl 0;have h2:=Sn hl (p+1);have d:=Int.natAbs_add_le (l.getD 0 0) (l.getD (p+1) 0);omega
 have:=hl.2 z (zeM a);omega
def Hq{p m:Nat}{l:List Int}(hl:Ln m M l):Ln (m+1) (2*M) (shT p l):=by
 have h:=Oc (p:=p) hl;refine⟨?_,λz a=>?_⟩
 ·unfold shT;rw[zLa,h.1,zbJ]
 unfold shT at a;rcases zas.mp a with a|a
 ·exact h.2 z a
 rw[zaN.mp a];have:=Sn hl (p+1);omega
def Nm{m m':Nat}{f:List Int->List Int}(h:∀ {M:Nat} {l:List Int},Ln m M l->∃ M',Ln m' M' (f l)):∀l:List Int,l.length=m+1->(f l).length=m'+1:=λl hl=>by
 have g:∃M,∀z∈l,z.natAbs<=M:=by
  clear hl
  induction l with
  |nil=>exact⟨0,λz d=>by cases d⟩
  |cons a r ih =>
   obtain⟨M,e⟩:=ih;refine⟨max a.natAbs M,λz d=>?_⟩;rcases zam.mp d with rfl|d
   ·exact zaW _ _
   exact zak (e z d) (zaQ _ _)
 obtain⟨M,e⟩:=g;obtain⟨M',h'⟩:=h (M:=M) ⟨hl,e⟩;exact h'.1
def Inv1.foundE(h:Inv1 M L c s)(a:Has ns s):Inv1 M L c (foundE x s)/\Has ns (foundE x s):=by
 unfold ZZ.foundE;split
 ·rename_i p e;have d:=h.own _ (se e);exact⟨(h.drop (x:=x)).chg (m':=s.many) (Nm λhl=>⟨_,Mm d hl⟩) (λl hl=>Mm d hl) (zaj _) h.mn (zaj _),Has.chg (m:=s.many) (s:={s with own:=xo1 s.own x}) a⟩
 exact⟨h,a⟩
def Inv1.openO{k:Nat}{l:List Int}:∀(E:List Str)(i:Nat)(L:Nat)(ns:List Str)(s:PS1),Inv1 M L c s->Has ns s->Ln s.many M l->Inv1 M (L+E.length) c (openO k l i E s)/\Has (E++ns) (openO k l i E s)
 |[],i,L,ns,s,h,hs,hl=>⟨h,hs⟩
 |x::E,i,L,ns,s,h,hs,hl=>by
  have d:Ln s.many M (if i=k then nou s.many else l):=by
   split
   ·exact bm
   exact hl
  have r:=Inv1.openO (k:=k) (l:=l) E (i+1) (L+1) (x::ns) (vm x (if i=k then nou s.many else l) s) (h.bring d) hs.bring hl
  refine⟨?_,?_⟩
  ·rw[zLc,zfY E.length,<- Nat.add_assoc];exact r.1
  exact r.2.sub λy a=>by
   simp only[zfP,zam,zas]at a ⊢;rcases a with a|a|a
   ·exact .inr (.inl a)
   ·exact .inl a
   exact .inr (.inr a)
def Inv1.foundL{J t1:Str}(h:Inv1 M L c s)(d:Has ns s)(z:x∈ns)(D:1<=M):Inv1 (2*M) (L+2) c (foundF "list" x [J,t1] s)/\Has (J::t1::ns) (foundF "list" x [J,t1] s):=by
 unfold ZZ.foundF;split
 ·rename_i e;obtain⟨l,g⟩:=d x z;rw[g];have r:=Inv1.openO (k:=qc "list") (l:=l) [J,t1] 0 L ns s h d (h.line g);exact⟨r.1.mono aD (zaj _) (zaj _),r.2⟩
 rename_i p e;have B:=h.own _ (se e);rw[zaM rfl];have v:=(h.drop (x:=x)).chg (m':=s.many) (M':=2*M) (L':=L) (Nm λhl=>⟨_,Oc (p:=p) hl⟩) (λl hl=>Oc (p:=p) hl) (zaj _) h.mn (zaj _);have u:=v.bring (x:=J) (bm (M:=2*M));have q:=u.bringO (x:=t1) (p:=p) B aD
 have j1:Has ns {ZZ.chg (shL p) {s with own:=xo1 s.own x} with many:=s.many}:=Has.chg (s:={s with own:=xo1 s.own x}) d;have j2:=j1.bring (x:=J) (l:=nou s.many);have j:=j2.bringO (x:=t1) (p:=p);refine⟨q,j.sub λy a=>?_⟩;simp only[zam]at a ⊢;rcases a with a|a|a
 ·exact .inr (.inl a)
 ·exact .inl a
 exact .inr (.inr a)
def Inv1.foundT{l1 m1 r1:Str}(h:Inv1 M L c s)(d:Has ns s)(D:x∈ns)(I:1<=M):Inv1 (2*M) (L+4) c (foundF "tree" x [l1,m1,r1] s)/\Has (l1::m1::r1::ns) (foundF "tree" x [l1,m1,r1] s):=by
 unfold ZZ.foundF;split
 ·rename_i e;obtain⟨l,g⟩:=d x D;rw[g];have r:=Inv1.openO (k:=qc "tree") (l:=l) [l1,m1,r1] 0 L ns s h d (h.line g);exact⟨r.1.mono aD (zcJ _) (zaj _),r.2⟩
 rename_i p e;have G:=h.own _ (se e);rw[zaJ aB]
 have B:=(h.drop (x:=x)).chg (m':=s.many+1) (M':=2*M) (L':=L+1) (Nm λhl=>⟨_,Hq (p:=p) hl⟩) (λl hl=>Hq (p:=p) hl) (zcJ _) (zbK h.mn) (zcJ _);have z:=B.bringO (x:=l1) (p:=p) (Nat.lt_succ_of_lt G) aD
 have v:=z.bring (x:=m1) (bm (M:=2*M));have u:=v.bringO (x:=r1) (p:=s.many) (zdY _) aD
 have j1:Has ns {ZZ.chg (shT p) {s with own:=xo1 s.own x} with many:=s.many+1}:=Has.chg (s:={s with own:=xo1 s.own x}) d;have j2:=j1.bringO (x:=l1) (p:=p);have q:=j2.bring (x:=m1) (l:=nou (s.many+1));have j:=q.bringO (x:=r1) (p:=s.many);refine⟨u,j.sub λy a=>?_⟩;simp only[zam]at a ⊢;rcases a with a|a|a|a
 ·exact .inr (.inr (.inl a))
 ·exact .inr (.inl a)
 ·exact .inl a
 exact .inr (.inr (.inr a))
def p10{k a b:Nat}(h:k+a<=b):10 ^ k*10 ^ a<=10 ^ b:=by
 rw[<- Nat.pow_add];exact zaD aB h
def Tp{k:Nat}:1<=10 ^ k:=Nat.pow_pos aB
def cnt3{n:Nat}(h:n<4):cnt n<=13:=zak (yw (Nat.le_of_lt_succ h)) aB
variable{told:List (Str×List Int)}{k:Nat}
def Jo{e:Ex1}(h:Inv1 (10 ^ k) L c s)(d:Has ns s)(v:e.vv told ns/\e.dep<4)(g:k+4<=50)(j:L<=800):Lf told s.lines s.many (10 ^ k) e :=
 jp (zak h.mn aD) Tp (λx a=>let ⟨l,el⟩:=d x a;⟨l,el,h.line el⟩) e v.1 (zbA (p10 (b:=59) aD) aB)
def eok{e:Ex1}(h:Inv1 (10 ^ k) L c s)(a:Has ns s)(v:e.vv told ns/\e.dep<4)(d:k+4<=50)(g:L<=800)(j:c<=900):EOk told e s:=by
 have f:=Jo h a v d g;refine⟨v.2,f.ok,zak h.mn aD,h.st,?_⟩
 have:=h.ca;have:=f.cs;have:=cnt3 v.2;omega
def Sk{e:Ex1}(h:Inv1 (10 ^ k) L c s)(a:Has ns s)(v:e.vv told ns/\e.dep<4)(d:k+4<=50)(g:L<=800):Inv1 (10 ^ k) L (c+13) (eff told e s)/\Has ns (eff told e s) :=
 ⟨(h.eff (Jo h a v d g)).mono (zaj _) (zaj _) (Nat.add_le_add_left (cnt3 v.2) _),a⟩
def Ja{e:Ex1}{x:Str}(h:Inv1 (10 ^ k) L c s)(a:Has ns s)(v:e.vv told ns/\e.dep<4)(d:k+4<=50)(g:L<=800):Inv1 (10 ^ (k+3)) (L+1) (c+13) (stp "let" (vm x (e.ln told s.lines s.many) (eff told e s)))/\Has (x::ns) (stp "let" (vm x (e.ln told s.lines s.many) (eff told e s))):=by
 have f:=Jo h a v d g;obtain⟨r,J⟩:=Sk h a v d g;have l:10 ^ k<=10 ^ (k+3):=zaD aB aD
 have q:=r.mono l (zaj L) (zaj (c+13));have j:Ln s.many (10 ^ (k+3)) (e.ln told s.lines s.many):=f.ln.mono (p10 (by have:=v.2;omega))
 exact⟨(q.bring (x:=x) j).stp _,Has.bring J⟩
def Ci{k:Nat}:2*10 ^ k<=10 ^ (k+1):=by rw[zeF];omega
theorem bok:∀(b:Bo)(s:PS1)(ns:List Str)(k L c:Nat),Inv1 (10 ^ k) L c s->Has ns s->b.vv told ns->k+4*(b.dep+1)<=50->L+4*b.dep<=800->c+26*(b.dep+1)<=900->BOk told b s
 |.give e,s,ns,k,L,c,h,hs,v,d,j,g=>eok h hs v (by unfold Bo.dep at d;omega) aD aD
 |.lett x e b,s,ns,k,L,c,h,hs,v,d,j,g=>by
  have d:k+4*(b.dep+1+1)<=50:=d;have j:L+4*(b.dep+1)<=800:=j;have g:c+26*(b.dep+1+1)<=900:=g;obtain⟨q,J⟩:=Ja (x:=x) h hs v.1 aD aD
  exact⟨eok h hs v.1 aD aD aD,zak h.ln aD,bok b _ _ _ _ _ q J v.2 aD aD aD⟩
 |.less a b t u,s,ns,k,L,c,h,hs,v,d,j,g=>by
  have m1:=zaW t.dep u.dep;have m2:=zaQ t.dep u.dep;have d:k+4*(max t.dep u.dep+1+1)<=50:=d;have j:L+4*(max t.dep u.dep+1)<=800:=j;have g:c+26*(max t.dep u.dep+1+1)<=900:=g;obtain⟨O,B,R,Q⟩:=v;obtain⟨q,J⟩:=Sk h hs O aD aD
  obtain⟨G,h2⟩:=Sk q J B aD aD
  have M:=G.stp "less";exact⟨eok h hs O aD aD aD,eok q J B aD aD aD,M.few aD aD,bok t _ _ _ _ _ M h2 R aD aD aD,bok u _ _ _ _ _ M h2 Q aD aD aD⟩
 |.list x b J t1 f,s,ns,k,L,c,h,hs,v,d,j,g=>by
  have m1:=zaW b.dep f.dep;have m2:=zaQ b.dep f.dep;have d:k+4*(max b.dep f.dep+1+1)<=50:=d;have j:L+4*(max b.dep f.dep+1)<=800:=j;have g:c+26*(max b.dep f.dep+1+1)<=900:=g;obtain⟨D,B,h1⟩:=v;have r:=h.stp "open";have I:Has ns (stp "open" s):=hs;obtain⟨q,z⟩:=r.foundE (x:=x) I;obtain⟨G,y⟩:=r.foundL (J:=J) (t1:=t1) I D Tp;obtain⟨l,N⟩:=hs x D;exact⟨r.wf aD aD,h.roomy aD,by rw[N];rfl,bok b _ _ _ _ _ q z B aD aD aD,bok f _ _ _ _ _ (G.mono Ci (zaj _) (zaj _)) y h1 aD aD aD⟩
 |.tree x b l1 m1 r1 f,s,ns,k,L,c,h,hs,v,d,j,g=>by
  have W:=zaW b.dep f.dep;have V:=zaQ b.dep f.dep;have d:k+4*(max b.dep f.dep+1+1)<=50:=d;have j:L+4*(max b.dep f.dep+1)<=800:=j;have g:c+26*(max b.dep f.dep+1+1)<=900:=g;obtain⟨D,B,h1⟩:=v;have r:=h.stp "open";have I:Has ns (stp "open" s):=hs;obtain⟨q,z⟩:=r.foundE (x:=x) I;obtain⟨G,y⟩:=r.foundT (l1:=l1) (m1:=m1) (r1:=r1) I D Tp;obtain⟨l,N⟩:=hs x D;exact⟨r.wf aD aD,h.roomy aD,by rw[N];rfl,bok b _ _ _ _ _ q z B aD aD aD,bok f _ _ _ _ _ (G.mono Ci (zaj _) (zaj _)) y h1 aD aD aD⟩
theorem Q6:∀(ps:List (Str×Str))(i L:Nat)(ns:List Str)(s:PS1),Inv1 1 L 0 s->Has ns s->i+ps.length<=s.many->Inv1 1 (L+ps.length) 0 (brPs i ps s)/\Has (ps.map Prod.fst++ns) (brPs i ps s)/\(brPs i ps s).many=s.many/\(brPs i ps s).steps=s.steps/\(brPs i ps s).calls=s.calls
 |[],i,L,ns,s,h,hs,_=>⟨h,hs,rfl,rfl,rfl⟩
 |p::ps,i,L,ns,s,h,hs,hm=>by
  rw[zLc]at hm;have go:Inv1 1 (L+1) 0 (brP i p s)/\Has (p.1::ns) (brP i p s)/\(brP i p s).many=s.many/\(brP i p s).steps=s.steps/\(brP i p s).calls=s.calls:=by
   unfold brP;split
   ·exact⟨h.bring bm,hs.bring,rfl,rfl,rfl⟩
   exact⟨h.bringO aD (zaj 1),hs.bringO,rfl,rfl,rfl⟩
  obtain⟨j,J,e1,e2,e3⟩:=go;obtain⟨r1,r2,g,e,d⟩:=Q6 ps (i+1) (L+1) (p.1::ns) (brP i p s) j J aD
  refine⟨?_,r2.sub λy a=>?_,g.trans e1,e.trans e2,d.trans e3⟩
  ·rw[zLc,zfY ps.length,<- Nat.add_assoc];exact r1
  simp only[zaG,zfP,zam,zas]at a ⊢;rcases a with a|a|a
  ·exact .inr (.inl a)
  ·exact .inl a
  exact .inr (.inr a)
def Z6{ps:List (Str×Str)}(a:ps.length<=2):Inv1 (10 ^ 0) 4 0 (first ps)/\Has (ps.map Prod.fst) (first ps)/\(first ps).many=ps.length/\(first ps).shape.length=ps.length/\(first ps).steps=[1,0,0,0,0,0]/\(first ps).calls=[]:=by
 have r:Inv1 1 2 0 {ps0 with many:=ps.length}:=⟨⟨λl hl=>(by cases hl),λp a=>(by cases a),λq d=>(by cases d)⟩,λp a=>(by cases a),zbG _,zbG _,zbG _,zaj _,λq d=>(by cases d),zcD,rfl,a,λp a=>(by cases a)⟩
 obtain⟨r1,r2,k,j,g⟩:=Q6 ps 0 2 [] _ r (λx u=>by cases u) (by show 0+ps.length<=ps.length;omega)
 rw[zaK]at r2;refine⟨⟨⟨λl hl=>?_,r1.len.2.1,r1.len.2.2⟩,r1.own,?_,zak r1.ln aD,zak r1.ow aD,r1.ca,r1.cl,r1.nd,r1.st,zak r1.mn aD,r1.en⟩,r2,k,zLm ..,j,g⟩
 ·obtain⟨p,a,rfl⟩:=zah.mp (show l∈ps.map λp=>(getA (brPs 0 ps {ps0 with many:=ps.length}).lines p.1).getD [] from hl);obtain⟨v,e⟩:=r2 p.1 (zcB a);rw[e];exact(r1.line e).1
 show(ps.map _).length<=2;rw[zLm];exact a
structure FnV(told:List (Str×List Int))(f:Fn):Prop where
 ps:f.ps.length<=2
 dep:f.body.dep<4
 v:f.body.vv told (f.ps.map Prod.fst)
def FnV.ok{told:List (Str×List Int)}{f:Fn}(h:FnV told f):(∀p∈f.ps,(getA (first f.ps).lines p.1).isSome=true)/\BOk told f.body (first f.ps):=by
 obtain⟨i,a,_⟩:=Z6 h.ps;refine⟨λp d=>?_,bok f.body _ _ 0 4 0 i a h.v (by have:=h.dep;omega) (by have:=h.dep;omega) (by have:=h.dep;omega)⟩
 obtain⟨l,e⟩:=a p.1 (zcB d);rw[e];rfl
def stD(k:Str):Str×Str:=("step",k)
def clD(f:Str):Str×Str:=("call",f)
def Ex1.deeds:Ex1->List (Str×Str)
 |.op k a b=>a.deeds++b.deeds++[stD (mkK k)]
 |.node a b c=>a.deeds++b.deeds++c.deeds++[stD "make"]
 |.call1 f a=>a.deeds++[clD f]
 |.call2 f a b=>a.deeds++b.deeds++[clD f]
 |_=>[]
def Ex1.W:Ex1->Prop
 |.op k a b=>(k = "cons"\/k = "add"\/k = "sub")/\a.W/\b.W
 |.node a b c=>a.W/\b.W/\c.W
 |.call1 _ a=>a.W
 |.call2 _ a b=>a.W/\b.W
 |_=>True
def Ex1.vv.wd{told:List (Str×List Int)}{ns:List Str}:∀{e:Ex1},e.vv told ns->e.W
 |.num _,_=>trivial
 |.var _,_=>trivial
 |.nil,_=>trivial
 |.leaf,_=>trivial
 |.op _ _ _,⟨h,a,b⟩=>⟨h,a.wd,b.wd⟩
 |.node _ _ _,⟨a,b,c⟩=>⟨a.wd,b.wd,c.wd⟩
 |.call1 _ _,⟨_,a⟩=>a.wd
 |.call2 _ _ _,⟨_,a,b⟩=>⟨a.wd,b.wd⟩
theorem xp:∀e:Ex1,e.deeds.length<=cnt e.dep
 |.num _=>zaj _
 |.var _=>zaj _
 |.nil=>zaj _
 |.leaf=>zaj _
 |.op k a b=>by
  show(a.deeds++b.deeds++[stD (mkK k)]).length<=3*cnt (max a.dep b.dep)+1;have:=xp a;have:=xp b;have:=yw (zaW a.dep b.dep);have:=yw (zaQ a.dep b.dep);simp only[zLa,zbJ];omega
 |.node a b c=>by
  show(a.deeds++b.deeds++c.deeds++[stD "make"]).length<=3*cnt (max a.dep (max b.dep c.dep))+1;have:=xp a;have:=xp b;have:=xp c;have:=yw (zaW a.dep (max b.dep c.dep));have:=yw (zak (zaW b.dep c.dep) (zaQ a.dep (max b.dep c.dep)));have:=yw (zak (zaQ b.dep c.dep) (zaQ a.dep (max b.dep c.dep)));simp only[zLa,zbJ];omega
 |.call1 f a=>by
  show(a.deeds++[clD f]).length<=3*cnt a.dep+1;have:=xp a;simp only[zLa,zbJ];omega
 |.call2 f a b=>by
  show(a.deeds++b.deeds++[clD f]).length<=3*cnt (max a.dep b.dep)+1;have:=xp a;have:=xp b;have:=yw (zaW a.dep b.dep);have:=yw (zaQ a.dep b.dep);simp only[zLa,zbJ];omega
def z4a(n:Nat)(P:List (Str×Str)->Prop)(a:D):Prop :=
 (∃kind rest,a=.tup (.str kind::rest)/\(kind = "num"\/kind = "var"\/kind = "nil"\/kind = "leaf")/\P []) \/
 (∃(f:Str)(es:List Ex1),a=.tup [.str "call",.str f,.tup (es.map Ex1.d)]/\es.length<=3/\(∀e∈es,e.dep<n/\e.W/\e.dep<=5)/\P (es.flatMap Ex1.deeds++[clD f])) \/
 (∃(k:Str)(es:List Ex1),a=.tup (.str k::es.map Ex1.d)/\(k = "cons"\/k = "add"\/k = "sub"\/k = "node")/\es.length<=3/\(∀e∈es,e.dep<n/\e.W/\e.dep<=5)/\P (es.flatMap Ex1.deeds++[stD (if k = "add"\/k = "sub" then "sum" else "make")]))
def Ex1.dview{n:Nat}{P:List (Str×Str)->Prop}{e:Ex1}(hd:e.dep<n+1)(l:e.W)(j:e.dep<=5)(h:P e.deeds):z4a n P e.d:=by
 cases e with
 |num i=>exact .inl ⟨_,_,rfl,.inl rfl,h⟩
 |var i=>exact .inl ⟨_,_,rfl,.inr (.inl rfl),h⟩
 |nil=>exact .inl ⟨_,_,rfl,.inr (.inr (.inl rfl)),h⟩
 |leaf=>exact .inl ⟨_,_,rfl,.inr (.inr (.inr rfl)),h⟩
 |call1 f a =>
  have hd:a.dep+1<n+1:=hd;have j:a.dep+1<=5:=j;refine .inr (.inl ⟨f,[a],rfl,by simp,λe g=>?_,?_⟩)
  ·rw[zaN.mp g];exact⟨by omega,l,by omega⟩
  simp only[zbB,zbR,zaK];exact h
 |call2 f a b =>
  have hd:max a.dep b.dep+1<n+1:=hd;have j:max a.dep b.dep+1<=5:=j;refine .inr (.inl ⟨f,[a,b],rfl,by simp,λe g=>?_,?_⟩)
  ·simp only[zam,zaH,zbM]at g;rcases g with rfl|rfl
   ·exact⟨by omega,l.1,by omega⟩
   exact⟨by omega,l.2,by omega⟩
  simp only[zbB,zbR,zaK];exact h
 |op k a b =>
  have hd:max a.dep b.dep+1<n+1:=hd;have j:max a.dep b.dep+1<=5:=j;obtain⟨q,u,r⟩:=l;refine .inr (.inr ⟨k,[a,b],rfl,by rcases q with rfl|rfl|rfl <;> simp,by simp,λe g=>?_,?_⟩)
  ·simp only[zam,zaH,zbM]at g;rcases g with rfl|rfl
   ·exact⟨by omega,u,by omega⟩
   exact⟨by omega,r,by omega⟩
  have e:(if k = "add"\/k = "sub" then("sum" : Str) else "make")=mkK k:=by rcases q with rfl|rfl|rfl <;> decide
  rw[e];simp only[zbB,zbR,zaK];exact h
 |node a b c =>
  have hd:max a.dep (max b.dep c.dep)+1<n+1:=hd;have j:max a.dep (max b.dep c.dep)+1<=5:=j;refine .inr (.inr ⟨"node",[a,b,c],rfl,by simp,by simp,λe g=>?_,?_⟩)
  ·simp only[zam,zaH,zbM]at g;rcases g with rfl|rfl|rfl
   ·exact⟨by omega,l.1,by omega⟩
   ·exact⟨by omega,l.2.1,by omega⟩
   exact⟨by omega,l.2.2,by omega⟩
  rw[zaJ (show ¬ (("node" : Str) = "add"\/("node" : Str) = "sub") by decide)]
  simp only[zbB,zbR,zaK,<- zbN];exact h
def dsD(l:List (Str×Str)):List D:=l.map prD1
theorem Yi:∀l:List Str,d6 (l.map λz=>dv (.str z))=true
 |[]=>rfl
 |_::r=>Yi r
def Gf{te:TD}{tl:TDs}{U:DE}{x:Str}(l:List Str)(b:Bool)(h:∀ L:EV->Prop,L (dv (.str x))->te U L)(hl:∀ L:List EV->Prop,L (l.map λz=>dv (.str z))->tl U L)(g:inD (.str x) (l.map D.str)=b)(e:Nat.ble l.length 1000=true):∀L:EV->Prop,L (dv (.bl b))->d2 (sIn false) te (dLst tl) U L:=λL a=>h _ (hl _ ⟨Yi l,by rw[zLm];exact e,rfl,by
  show(List.map EV.d (l.map λz=>dv (.str z))).all Y3=true;rw[zaZ,List.all_map];exact List.all_eq_true.mpr λ_ _=>rfl,by
  rw[zaZ];subst g;exact a⟩)
def Nz{te:TD}{tl:TDs}{U:DE}{x:Str}(l:List Str)(b:Bool)(h:∀ L:EV->Prop,L (dv (.str x))->te U L)(hl:∀ L:List EV->Prop,L (l.map λz=>dv (.str z))->tl U L)(e:inD (.str x) (l.map D.str)=b)(d:Nat.ble l.length 1000=true):∀L:Bool->Prop,L b->tBo (d2 (sIn false) te (dLst tl)) U L:=λL a=>Gf l b h hl e d _ a
def Lb{a b:List (Str×Str)}{φ:EV->Prop}(hl:(a++b).length<=121)(h:φ (df (.lst (dsD (a++b))))):sAdd (.lst (dsD a)) (.lst (dsD b)) φ:=by
 refine⟨?_,?_⟩
 ·unfold dsD;rw[zLa]at hl;rw[zLm,zLm,zaV];omega
 unfold dsD at h ⊢;rw[zMa]at h;exact h
def Wx(n:Nat):FT:=λZ φ=>∃e:Ex1,Z=[e.d]/\e.dep<n/\e.W/\e.dep<=5/\φ (df (.lst (dsD e.deeds)))
def Xn(l:List (Str×Str)):yt (dsD l):=Xm l
def Jm{es:List Ex1}(h:∀ e∈es,e.dep<=5):(es.flatMap Ex1.deeds).length<=121*es.length:=by
 induction es with
 |nil=>exact zaj _
 |cons e es ih =>
  have J:=zak (xp e) (yw (h e zao));have J:e.deeds.length<=121:=J;have h2:=ih λe a=>h e (zal _ a);rw[zbB,zLa,zLc];omega
def X7{n:Nat}{ti:TID}{es:List Ex1}{k:D}{ds:DZ}(l:∀ L:List D->Prop,L (es.map Ex1.d)->ti [q_ k,Q_ (.lst []),none] L)(g:∀ e∈es,e.dep<n/\e.W/\e.dep<=5)(hl:es.length<=3)(h:∀ p,ds.nx [q_ k,Q_ (.lst (dsD (es.flatMap Ex1.deeds))),p]):sFor ti (gN 2) (sSet 1 (d2 sAdd (v7 1) (Ye 1 (Wx n) (xv (v7 2) aNil)))) [q_ k,Q_ (.lst []),none] ds:=by
 refine ug (es.map Ex1.d) l (λi U=>∃p,U=[q_ k,Q_ (.lst (dsD ((es.take i).flatMap Ex1.deeds))),p]) ⟨none,rfl⟩ ?_ ?_
 ·rintro i d _ hd ⟨p,rfl⟩;rw[zai]at hd;obtain⟨e,e1,rfl⟩:=zar.mp hd;have j:=zan e1;have et:es.take (i+1)=es.take i++[e]:=by rw[zeI,e1];rfl
  have u:=Jm (es:=es.take i) λr q=>(g r (List.mem_of_mem_take q)).2.2;have J:e.deeds.length<=121:=zak (xp e) (yw (g e j).2.2);have h2:(es.take i).length<=3:=by rw[zcC];omega
  refine Z8 (zp (yj (dO (.lst (dsD ((es.take i).flatMap Ex1.deeds)))) (df (.lst (dsD e.deeds))) aA (λL a=>yb [dv e.d] (λL a=>zt _ [] aA aA a) rfl ⟨e,rfl,(g e j).1,(g e j).2.1,(g e j).2.2,a⟩) ?_));refine⟨by unfold dsD;rw[zLm,zLm,zaV];omega,zaA,q_ e.d,?_⟩
  rw[et,List.flatMap_append,zbB,zbR,zaK];unfold dsD;rw[zMa];rfl
 rintro _ ⟨p,rfl⟩;rw[zLm,zeA];exact h p
def tm{tc:TDb}{t u:TDS}{U:DE}{ds:DZ}(h:∀ L:Bool->Prop,L false->tc U L)(hu:u U ds):sSeq (sIf tc t sNil) u U ds:=h _ ⟨nofun,λ_=>hu⟩
def kz{tc:TDb}{t u:TDS}{U:DE}{ds:DZ}(h:∀ L:Bool->Prop,L true->tc U L)(a:t U {ds with nx:=λρ'=>u ρ' ds}):sSeq (sIf tc t sNil) u U ds:=h _ ⟨λ_=>a,nofun⟩
def Ua{n:Nat}(u:FD P w K mg base (n+1) "_law_deeds" ["_law_e"] (Wx n))(X:AX P w K mg C G):FD P w K mg base (n+2) "_law_deeds" ["_law_e"] (Wx (n+1)):=by
 obtain⟨f,fd,F,m⟩:=X.f "_law_deeds" 34 aB
 have S:zv ["_law_e","_law_found","_law_part"] ["_law_e"] (ze (top 34)):=by walk_at "f"
 walk_at "b";refine⟨_,(zh (zy 1 S.nd (x9 zb))
   (zh (wr (z3k hu (zk hu (za 0) zd) (x9 (aN zf zf zf zf))) (y0 (y9 (za 1))) x5)
   (zh (wr (xn hu (zk hu (za 0) zd) zf) (zh (rj (xu (zk hu (za 0) zd)) (zw (i:=2) S.nd rfl aG) (x3 2) (y0 (zy 1 S.nd (yg (za 1) (zu u hr.d (aJ (za 2)))))))
    (y0 (y9 (yg (za 1) (x9 (aJ (zg (aK zf (zk hu (za 0) zd))))))))) x5)
   (zh (rj (xu (u4 (za 0) (uh zd) qo)) (zw (i:=2) S.nd rfl aG) (x3 2) (y0 (zy 1 S.nd (yg (za 1) (zu u hr.d (aJ (za 2)))))))
   (y0 (y9 (yg (za 1) (x9 (aJ (zg (aK zf (zk hu (x9 (aK zf zf)) (Wj X.T.int (aJ (z3m hu (zk hu (za 0) zd) (x9 (aK zf zf))))))))))))))))),?_⟩
 obtain⟨e,rfl,hd,D,B,h⟩:=hT;have v:e.deeds.length<=121:=zak (xp e) (yw B);have z:=Ex1.dview (P:=λl=>l.length<=121/\φ (df (.lst (dsD l)))) hd D B ⟨v,h⟩;generalize e.d=M at z ⊢;rcases z with⟨j,rest,rfl,r,I,h⟩|⟨h1,es,rfl,k,q,hl1,h⟩|⟨g,es,rfl,r,k,q,hl1,h⟩
 ·refine zn (zp (show dLst aNil _ _ from⟨rfl,rfl,zaA,?_⟩))
  dsimp only
  refine kz (Nz ["num","var","nil","leaf"] true (x:=j) (λL a=>yj (dv (.tup (.str j::rest))) (dv (.int 0)) aA aA (qy (at_0 _ _) a)) aA (by rcases r with rfl|rfl|rfl|rfl <;> decide +kernel) aB) ?_
  exact⟨zaA,h⟩
 ·refine zn (zp (show dLst aNil _ _ from⟨rfl,rfl,zaA,?_⟩))
  dsimp only
  refine tm (Nz ["num","var","nil","leaf"] false (x:="call") aA aA aF aB) ?_
  refine kz (yf true (x:="call") aB aA) ?_
  refine zn (X7 (es:=es) (λL a=>⟨zaA,a⟩) q k λp=>?_)
  dsimp only
  refine yd (yj (dO (.lst (dsD (es.flatMap Ex1.deeds)))) (df (.lst [prD1 (clD h1)])) aA (λL a=>⟨rfl,rfl,rfl,rfl,a⟩) (Lb hl1 ⟨Xn _,h⟩))
 refine zn (zp (show dLst aNil _ _ from⟨rfl,rfl,zaA,?_⟩))
 dsimp only
 have y:∀L:EV->Prop,L (dv (.str g))->d2 sIxx (v7 0) (dC (.int 0)) [q_ (.tup (.str g::es.map Ex1.d)),Q_ (.lst []),none] L:=λL a=>yj (dv (.tup (.str g::es.map Ex1.d))) (dv (.int 0)) aA aA (qy (at_0 _ _) a);refine tm (Nz ["num","var","nil","leaf"] false (x:=g) y aA (by rcases r with rfl|rfl|rfl|rfl <;> decide +kernel) aB) ?_
 refine tm (yf false (x:=g) (by rcases r with rfl|rfl|rfl|rfl <;> decide) y) ?_
 refine zn (X7 (es:=es) (λL a=>V0 a) q k λp=>?_)
 dsimp only
 refine yd (yj (dO (.lst (dsD (es.flatMap Ex1.deeds)))) (df (.lst [prD1 (stD (if g = "add"\/g = "sub" then "sum" else "make"))])) aA (λL a=>?_) (Lb hl1 ⟨Xn _,h⟩))
 refine zt (dv (prD1 (stD (if g = "add"\/g = "sub" then "sum" else "make")))) [] (λL a=>?_) aA ⟨rfl,rfl,a⟩
 refine zt (dv (.str "step")) [dv (.str (if g = "add"\/g = "sub" then "sum" else "make"))] aA (λL a=>zt _ [] (λL a=>?_) aA a) ⟨rfl,rfl,a⟩
 refine yj (df (.lst [.str "make",.str "sum"])) (dv (.int (if (decide (g = "add"\/g = "sub")) then 1 else 0))) (λL a=>⟨rfl,rfl,a⟩) (λL a=>?_) ?_
 ·refine zt (dv (.bl (decide (g = "add"\/g = "sub")))) [] (λL a=>Gf ["add","sub"] _ (x:=g) (λL a=>yj (dv (.tup (.str g::es.map Ex1.d))) (dv (.int 0)) aA aA (qy (at_0 _ _) a)) aA (by rcases r with rfl|rfl|rfl|rfl <;> decide +kernel) aB _ a) aA a
 rcases r with rfl|rfl|rfl|rfl <;> exact a
def cq(X:AX P w K mg C G):∀n:Nat,FD P w K mg base (n+1) "_law_deeds" ["_law_e"] (Wx n):=by
 obtain⟨f,fd,F,m⟩:=X.f "_law_deeds" 34 aB
 intro n
 induction n with
 |zero =>
  have S:zv ["_law_e","_law_found","_law_part"] ["_law_e"] (ze (top 34)):=by walk_at "f"
  refine u9 F S (F.binds (by walk_at "3")) m λqZ A outer s H xs Z φ hr hl hT=>?_
  obtain⟨e,_,h,_⟩:=hT;exact absurd h (zdT _)
 |succ n ih=>exact Ua ih X
def Bo.W:Bo->Prop
 |.give e=>e.W/\e.dep<4
 |.lett _ e b=>(e.W/\e.dep<4)/\b.W
 |.less a c t u=>(a.W/\a.dep<4)/\(c.W/\c.dep<4)/\t.W/\u.W
 |.list _ b _ _ f=>b.W/\f.W
 |.tree _ b _ _ _ f=>b.W/\f.W
theorem Bo.vv.wd{told:List (Str×List Int)}:∀{b:Bo}{ns:List Str},b.vv told ns->b.W
 |.give _,_,h=>⟨h.1.wd,h.2⟩
 |.lett _ _ _,_,h=>⟨⟨h.1.1.wd,h.1.2⟩,h.2.wd⟩
 |.less _ _ _ _,_,h=>⟨⟨h.1.1.wd,h.1.2⟩,⟨h.2.1.1.wd,h.2.1.2⟩,h.2.2.1.wd,h.2.2.2.wd⟩
 |.list _ _ _ _ _,_,h=>⟨h.2.1.wd,h.2.2.wd⟩
 |.tree _ _ _ _ _ _,_,h=>⟨h.2.1.wd,h.2.2.wd⟩
def ways:Bo->List (Str×Str)->List (List (Str×Str))
 |.give e,w=>[w++e.deeds]
 |.lett _ e b,w=>ways b (w++e.deeds++[stD "let"])
 |.less a c t u,w=>ways t (w++a.deeds++c.deeds++[stD "less"])++ways u (w++a.deeds++c.deeds++[stD "less"])
 |.list _ b _ _ f,w=>ways b (w++[stD "open"])++ways f (w++[stD "open"])
 |.tree _ b _ _ _ f,w=>ways b (w++[stD "open"])++ways f (w++[stD "open"])
theorem xw:∀(b:Bo)(w:List (Str×Str)),(ways b w).length<=2 ^ b.dep
 |.give e,w=>zaj _
 |.lett x e b,w=>by
  unfold ways Bo.dep;exact zak (xw b _) (zaD aB (zcJ _))
 |.less a c t u,w=>by
  unfold ways Bo.dep;rw[zLa,zeF];have J:=zak (xw t (w++a.deeds++c.deeds++[stD "less"])) (zaD (aB:0<2) (zaW t.dep u.dep))
  have h2:=zak (xw u (w++a.deeds++c.deeds++[stD "less"])) (zaD (aB:0<2) (zaQ t.dep u.dep))
  omega
 |.list x b h t f,w=>by
  unfold ways Bo.dep;rw[zLa,zeF];have J:=zak (xw b (w++[stD "open"])) (zaD (aB:0<2) (zaW b.dep f.dep))
  have h2:=zak (xw f (w++[stD "open"])) (zaD (aB:0<2) (zaQ b.dep f.dep))
  omega
 |.tree x b l m r f,w=>by
  unfold ways Bo.dep;rw[zLa,zeF];have J:=zak (xw b (w++[stD "open"])) (zaD (aB:0<2) (zaW b.dep f.dep))
  have h2:=zak (xw f (w++[stD "open"])) (zaD (aB:0<2) (zaQ b.dep f.dep))
  omega
def wayD(w:List (Str×Str)):D:=.lst (dsD w)
def O6(n:Nat):FT:=λZ φ=>∃(b:Bo)(w:List (Str×Str)),Z=[b.d,wayD w]/\b.dep<n/\b.dep<=8/\b.W/\w.length+30*(b.dep+1)<=1000/\φ ⟨.new,.lst ((ways b w).map wayD)⟩
def t9{a b:List (Str×Str)}{φ:EV->Prop}(hl:a.length+b.length<=1000)(h:φ (df (wayD (a++b)))):sAdd (wayD a) (wayD b) φ:=by
 refine⟨?_,?_⟩
 ·unfold dsD;rw[zLm,zLm,zaV];omega
 unfold wayD dsD at h;rw[zMa]at h;exact h
def kj{te:TD}{U:DE}{φ:EV->Prop}(e:Ex1)(h:∀ L:EV->Prop,L (dv e.d)->te U L)(j:e.W/\e.dep<4)(g:φ (df (wayD e.deeds))):Ye 1 (Wx 4) (xv te aNil) U φ :=
 yb [dv e.d] (λL a=>zt _ [] h aA a) rfl ⟨e,rfl,j.2,j.1,by have:=j.2;omega,g⟩
def qt{e:Ex1}(h:e.W/\e.dep<4):e.deeds.length<=13:=zak (xp e) (cnt3 h.2)
def uf{n:Nat}{ta tb:TD}{U:DE}{φ:EV->Prop}(b:Bo)(w:List (Str×Str))(kd:Kd)(J:∀ L:EV->Prop,L (dv b.d)->ta U L)(h2:∀ L:EV->Prop,L ⟨kd,wayD w⟩->tb U L)(hd:b.dep<n)(j:b.dep<=8)(g:b.W)(hl:w.length+30*(b.dep+1)<=1000)(e:φ ⟨.new,.lst ((ways b w).map wayD)⟩):Ye 2 (O6 n) (xv ta (xv tb aNil)) U φ :=
 yb [dv b.d,⟨kd,wayD w⟩] (λL a=>zt _ _ J (λL a=>zt _ [] h2 aA a) a) rfl ⟨b,w,rfl,hd,j,g,hl,e⟩
def R9{ta tb:TD}{U:DE}{φ:EV->Prop}(E ys:List (List (Str×Str)))(J:∀ L:EV->Prop,L ⟨.new,.lst (E.map wayD)⟩->ta U L)(h2:∀ L:EV->Prop,L ⟨.new,.lst (ys.map wayD)⟩->tb U L)(hl:E.length+ys.length<=10000)(h:φ ⟨.new,.lst ((E++ys).map wayD)⟩):z1m ta tb U φ:=J _ (h2 _ ⟨zaA,zaA,by rw[zLm,zLm];exact hl,by rw[zMa]at h;exact h⟩)
def Rv{U:DE}{L:EV->Prop}(k:Str)(h:L (df (wayD [stD k]))):dLst (xv (dTup (xv (dC (.str "step")) (xv (dC (.str k)) aNil))) aNil) U L:=⟨rfl,rfl,rfl,rfl,h⟩
def So{n:Nat}(j:FD P w K mg base (n+6) "_law_ways" pD (O6 n))(X:AX P w K mg C G):FD P w K mg base (n+7) "_law_ways" pD (O6 (n+1)):=by
 obtain⟨f,fd,F,m⟩:=X.f "_law_ways" 33 aB
 have S:zv ["_law_body","_law_ahead"] pD (ze (top 33)):=by walk_at "f"
 walk_at "b";refine⟨_,(zh (wr (xn hu (zk hu (za 0) zd) zf) (y0 (y9 (Dq (aJ (yg (za 1) (zu (cq X 4) hr.d (aJ (zk hu (za 0) zd)))))))) x5)
   (zh (wr (xn hu (zk hu (za 0) zd) zf) (y0 (y9 (zu j hr.d (aK (zk hu (za 0) zd) (yg (yg (za 1) (zu (cq X 4) hr.d (aJ (zk hu (za 0) zd)))) (x9 (aJ (zg (aK zf zf))))))))) x5)
   (zh (wr (xn hu (zk hu (za 0) zd) zf) (zh (zy 1 S.nd (yg (yg (yg (za 1) (zu (cq X 4) hr.d (aJ (zk hu (za 0) zd)))) (zu (cq X 4) hr.d (aJ (zk hu (za 0) zd)))) (x9 (aJ (zg (aK zf zf))))))
    (y0 (y9 (Mo (zu j hr.d (aK (zk hu (za 0) zd) (za 1))) (zu j hr.d (aK (zk hu (za 0) zd) (za 1))))))) x5)
   (zh (zy 1 S.nd (yg (za 1) (x9 (aJ (zg (aK zf zf))))))
   (y0 (y9 (Mo (zu j hr.d (aK (zk hu (za 0) zd) (za 1))) (zu j hr.d (aK (zk hu (za 0) (Uc zd)) (za 1)))))))))),?_⟩
 obtain⟨M,w1,rfl,hd,k,l,hl1,h⟩:=hT;cases M with
 |give e =>
  have hl1:w1.length+30*(0+1)<=1000:=hl1;have:=qt l;refine kz (yf true (x:="give") aB aA) (yd ?_)
  refine zt (df (wayD (w1++e.deeds))) [] (λL g=>yj (dv (wayD w1)) (df (wayD e.deeds)) aA (λL g=>kj e aA l g) (t9 aD g)) aA ⟨⟨Xn _,zaA⟩,rfl,zaA,h⟩
 |lett x e b =>
  obtain⟨B,q⟩:=l;have hl1:w1.length+30*(b.dep+1+1)<=1000:=hl1;have hd:b.dep+1<n+1:=hd;have k:b.dep+1<=8:=k;have:=qt B;refine tm (yf false (x:="let") aB aA) ?_
  refine kz (yf true (x:="let") aB aA) (yd ?_)
  refine uf b (w1++e.deeds++[stD "let"]) .fre aA (λL g=>yj (df (wayD (w1++e.deeds))) (df (wayD [stD "let"])) (λL g=>yj (dv (wayD w1)) (df (wayD e.deeds)) aA (λL g=>kj e aA B g) (t9 aD g)) (λL g=>Rv "let" g) (t9 aI g)) aD aD q aI ⟨zaA,h⟩
 |less a c t u =>
  obtain⟨I,D,h1,r⟩:=l;have hl1:w1.length+30*(max t.dep u.dep+1+1)<=1000:=hl1;have hd:max t.dep u.dep+1<n+1:=hd;have k:max t.dep u.dep+1<=8:=k;have:=qt I;have:=qt D;have z:=zak (xw t (w1++a.deeds++c.deeds++[stD "less"])) (zaD (aB:0<2) (show t.dep<=8 by omega))
  have y:=zak (xw u (w1++a.deeds++c.deeds++[stD "less"])) (zaD (aB:0<2) (show u.dep<=8 by omega))
  refine tm (yf false (x:="less") aB aA) ?_
  refine tm (yf false (x:="less") aB aA) ?_
  refine kz (yf true (x:="less") aB aA) ?_
  refine zn (zp (yj (df (wayD (w1++a.deeds++c.deeds))) (df (wayD [stD "less"])) (λL g=>yj (df (wayD (w1++a.deeds))) (df (wayD c.deeds)) (λL g=>yj (dv (wayD w1)) (df (wayD a.deeds)) aA (λL g=>kj a aA I g) (t9 aD g)) (λL g=>kj c aA D g) (t9 (by simp only[zLa];omega) g)) (λL g=>Rv "less" g) (t9 aI ⟨zaA,?_⟩)))
  dsimp only
  exact yd (R9 (ways t (w1++a.deeds++c.deeds++[stD "less"])) (ways u (w1++a.deeds++c.deeds++[stD "less"])) (λL g=>uf t _ .own aA aA aD aD h1 aI g) (λL g=>uf u _ .own aA aA aD aD r aI g) aD ⟨zaA,h⟩)
 |list x b J t1 f1 =>
  obtain⟨q,v⟩:=l;have hl1:w1.length+30*(max b.dep f1.dep+1+1)<=1000:=hl1;have hd:max b.dep f1.dep+1<n+1:=hd;have k:max b.dep f1.dep+1<=8:=k;have z:=zak (xw b (w1++[stD "open"])) (zaD (aB:0<2) (show b.dep<=8 by omega))
  have y:=zak (xw f1 (w1++[stD "open"])) (zaD (aB:0<2) (show f1.dep<=8 by omega))
  refine tm (yf false (x:="list") aB aA) ?_
  refine tm (yf false (x:="list") aB aA) ?_
  refine tm (yf false (x:="list") aB aA) ?_
  refine zn (zp (yj (dv (wayD w1)) (df (wayD [stD "open"])) aA (λL g=>Rv "open" g) (t9 (by simp only[zbJ];omega) ⟨zaA,?_⟩)))
  dsimp only
  exact yd (R9 (ways b (w1++[stD "open"])) (ways f1 (w1++[stD "open"])) (λL g=>uf b _ .own aA aA aD aD q aI g) (λL g=>uf f1 _ .own aA aA aD aD v aI g) aD ⟨zaA,h⟩)
 |tree x b J t1 r1 f1 =>
  obtain⟨q,v⟩:=l;have hl1:w1.length+30*(max b.dep f1.dep+1+1)<=1000:=hl1;have hd:max b.dep f1.dep+1<n+1:=hd;have k:max b.dep f1.dep+1<=8:=k;have z:=zak (xw b (w1++[stD "open"])) (zaD (aB:0<2) (show b.dep<=8 by omega))
  have y:=zak (xw f1 (w1++[stD "open"])) (zaD (aB:0<2) (show f1.dep<=8 by omega))
  refine tm (yf false (x:="tree") aB aA) ?_
  refine tm (yf false (x:="tree") aB aA) ?_
  refine tm (yf false (x:="tree") aB aA) ?_
  refine zn (zp (yj (dv (wayD w1)) (df (wayD [stD "open"])) aA (λL g=>Rv "open" g) (t9 (by simp only[zbJ];omega) ⟨zaA,?_⟩)))
  dsimp only
  exact yd (R9 (ways b (w1++[stD "open"])) (ways f1 (w1++[stD "open"])) (λL g=>uf b _ .own aA aA aD aD q aI g) (λL g=>uf f1 _ .own aA aA aD aD v aI g) aD ⟨zaA,h⟩)
def Di(X:AX P w K mg C G):∀n:Nat,FD P w K mg base (n+6) "_law_ways" pD (O6 n):=by
 obtain⟨f,fd,F,m⟩:=X.f "_law_ways" 33 aB
 intro n
 induction n with
 |zero =>
  have S:zv ["_law_body","_law_ahead"] pD (ze (top 33)):=by walk_at "f"
  refine u9 F S (F.binds (by walk_at "3")) m λqZ A outer s H xs Z φ hr hl hT=>?_
  obtain⟨b,w1,_,h,_⟩:=hT;exact absurd h (zdT _)
 |succ n ih=>exact So ih X
def rf(w:List (Str×Str)):List Str:=w.filterMap λp:Str×Str=>if p.1=("step" : Str) then some p.2 else none
def su(w:List (Str×Str)):List Str:=w.filterMap λp:Str×Str=>if p.1=("call" : Str) then some p.2 else none
def w6(a b:List (Str×Str)):rf (a++b)=rf a++rf b:=zfL
def w8(a b:List (Str×Str)):su (a++b)=su a++su b:=zfL
def Xe(k:Str):rf [stD k]=[k]:=rfl
def Rh(k:Str):rf [clD k]=[]:=rfl
def Wr(k:Str):su [stD k]=[]:=rfl
def Qt(k:Str):su [clD k]=[k]:=rfl
theorem ul:∀e:Ex1,rf e.deeds=e.ks
 |.num _=>rfl
 |.var _=>rfl
 |.nil=>rfl
 |.leaf=>rfl
 |.op k a b=>by
  unfold Ex1.deeds Ex1.ks;rw[w6,w6,ul a,ul b,Xe]
 |.node a b c=>by
  unfold Ex1.deeds Ex1.ks;rw[w6,w6,w6,ul a,ul b,ul c,Xe]
 |.call1 f a=>by
  unfold Ex1.deeds Ex1.ks;rw[w6,ul a,Rh,zaK]
 |.call2 f a b=>by
  unfold Ex1.deeds Ex1.ks;rw[w6,w6,ul a,ul b,Rh,zaK]
theorem um(told Ls:List (Str×List Int))(m:Nat):∀e:Ex1,(e.cs told Ls m).map Prod.fst=su e.deeds
 |.num _=>rfl
 |.var _=>rfl
 |.nil=>rfl
 |.leaf=>rfl
 |.op k a b=>by
  unfold Ex1.deeds Ex1.cs;rw[w8,w8,zMa,um told Ls m a,um told Ls m b,Wr,zaK]
 |.node a b c=>by
  unfold Ex1.deeds Ex1.cs;rw[w8,w8,w8,zMa,zMa,um told Ls m a,um told Ls m b,um told Ls m c,Wr,zaK]
 |.call1 f a=>by
  unfold Ex1.deeds Ex1.cs;rw[w8,zMa,um told Ls m a,Qt];rfl
 |.call2 f a b=>by
  unfold Ex1.deeds Ex1.cs;rw[w8,w8,zMa,zMa,um told Ls m a,um told Ls m b,Qt];rfl
structure Rel(s:PS1)(w:List (Str×Str)):Prop where
 st:s.steps=incs [1,0,0,0,0,0] (rf w)
 ca:s.calls.map Prod.fst=su w
def Rel.eff{told:List (Str×List Int)}{s:PS1}{w:List (Str×Str)}(h:Rel s w)(e:Ex1):Rel (eff told e s) (w++e.deeds):=by
 refine⟨?_,?_⟩
 ·show incs s.steps e.ks=_;rw[h.st,w6,ul];unfold incs;rw[zdU]
 show(s.calls++e.cs told s.lines s.many).map Prod.fst=_;rw[zMa,h.ca,w8,um]
def Rel.stp{s:PS1}{w:List (Str×Str)}(h:Rel s w)(k:Str):Rel (stp k s) (w++[stD k]):=by
 refine⟨?_,?_⟩
 ·show incS x8 s.steps k=_;rw[h.st,w6,Xe];unfold incs;rw[zdU];rfl
 show s.calls.map Prod.fst=_;rw[h.ca,w8,Wr,zaK]
structure Kin(s s':PS1):Prop where
 st:s'.steps=s.steps
 ca:s'.calls.map Prod.fst=s.calls.map Prod.fst
 sh:s'.shape.length=s.shape.length
 mn:s.many<=s'.many
def Kin.refl(s:PS1):Kin s s:=⟨rfl,rfl,rfl,zaj _⟩
theorem Kin.trans{a b c:PS1}(h:Kin a b)(g:Kin b c):Kin a c:=⟨g.st.trans h.st,g.ca.trans h.ca,g.sh.trans h.sh,zak h.mn g.mn⟩
def Rel.kin{s s':PS1}{w:List (Str×Str)}(h:Rel s w)(k:Kin s s'):Rel s' w:=⟨k.st.trans h.st,k.ca.trans h.ca⟩
def Tw(f:List Int->List Int)(s:PS1){m:Nat}(a:s.many<=m):Kin s {chg f s with many:=m}:=⟨rfl,by
 show(s.calls.map λc=>(c.1,c.2.map f)).map Prod.fst=_;rw[zaZ];rfl,zLm ..,a⟩
theorem Vk(k:Nat)(l:List Int):∀(E:List Str)(i:Nat)(s:PS1),Kin s (openO k l i E s)
 |[],i,s=>Kin.refl s
 |x::E,i,s=>Kin.trans (b:=vm x (if i=k then nou s.many else l) s) ⟨rfl,rfl,rfl,zaj _⟩ (Vk k l E (i+1) (vm x (if i=k then nou s.many else l) s))
def X2(x:Str)(s:PS1):Kin s (foundE x s):=by
 unfold foundE;split
 ·rename_i p e;have h:=Tw (empL p) {s with own:=xo1 s.own x} (zaj s.many);exact⟨h.st,h.ca,h.sh,h.mn⟩
 exact Kin.refl s
def X1(k x:Str)(E:List Str)(s:PS1):Kin s (foundF k x E s):=by
 unfold foundF;split
 ·exact Vk ..
 rename_i p e;split
 ·have h:=Tw (shL p) {s with own:=xo1 s.own x} (zaj s.many);exact⟨h.st,h.ca,h.sh,h.mn⟩
 have h:=Tw (shT p) {s with own:=xo1 s.own x} (zcJ s.many);exact⟨h.st,h.ca,h.sh,h.mn⟩
def All2{α β:Type}(R:α->β->Prop):List α->List β->Prop
 |[],[]=>True
 |a::as,b::bs=>R a b/\All2 R as bs
 |_,_=>False
theorem All2.app{α β:Type}{R:α->β->Prop}:∀{as:List α}{bs:List β}{cs:List α}{Z:List β},All2 R as bs->All2 R cs Z->All2 R (as++cs) (bs++Z)
 |[],[],_,_,_,g=>g
 |_::_,_::_,_,_,h,g=>⟨h.1,All2.app h.2 g⟩
theorem All2.len{α β:Type}{R:α->β->Prop}:∀{as:List α}{bs:List β},All2 R as bs->as.length=bs.length
 |[],[],_=>rfl
 |_::_,_::_,h=>zbZ (·+1) (All2.len h.2)
theorem All2.get{α β:Type}{R:α->β->Prop}:∀{as:List α}{bs:List β}{i:Nat}{a:α}{b:β},All2 R as bs->as[i]?=some a->bs[i]?=some b->R a b
 |_::_,_::_,0,_,_,h,e1,e2=>by cases e1;cases e2;exact h.1
 |_::_,_::_,i+1,_,_,h,e1,e2=>All2.get (i:=i) h.2 e1 e2
structure EndW(sh mn B:Nat)(p:PS1×List Int)(w:List (Str×Str)):Prop where
 rel:Rel p.1 w
 sh:p.1.shape.length=sh
 mn:mn<=p.1.many
 len:w.length<=B
theorem ua(told:List (Str×List Int)):∀(b:Bo)(s:PS1)(w:List (Str×Str))(sh mn B:Nat),Rel s w->s.shape.length=sh->mn<=s.many->b.W->w.length+30*(b.dep+1)<=B->All2 (EndW sh mn B) (ends told b s) (ways b w)
 |.give e,s,w,sh,mn,B,h,J,h2,hw,d=>by
  have d:w.length+30*(0+1)<=B:=d;have:=qt hw;exact⟨⟨h.eff e,J,h2,by rw[zLa];omega⟩,zaA⟩
 |.lett x e b,s,w,sh,mn,B,h,J,h2,hw,d=>by
  have d:w.length+30*(b.dep+1+1)<=B:=d;have:=qt hw.1;exact ua told b _ _ sh mn B (((h.eff (told:=told) e).kin (s':=vm x (e.ln told s.lines s.many) (eff told e s)) ⟨rfl,rfl,rfl,zaj _⟩).stp "let") J h2 hw.2 aI
 |.less a c t u,s,w,sh,mn,B,h,J,h2,hw,d=>by
  have d:w.length+30*(max t.dep u.dep+1+1)<=B:=d;have:=qt hw.1;have:=qt hw.2.1;have m1:=zaW t.dep u.dep;have m2:=zaQ t.dep u.dep;have r:=((h.eff (told:=told) a).eff (told:=told) c).stp "less";exact All2.app (ua told t _ _ sh mn B r J h2 hw.2.2.1 aI) (ua told u _ _ sh mn B r J h2 hw.2.2.2 aI)
 |.list x b h0 t0 f,s,w,sh,mn,B,h,J,h2,hw,d=>by
  have d:w.length+30*(max b.dep f.dep+1+1)<=B:=d;have m1:=zaW b.dep f.dep;have m2:=zaQ b.dep f.dep;have r:=h.stp "open";have j:=X2 x (stp "open" s);have g:=X1 "list" x [h0,t0] (stp "open" s);exact All2.app (ua told b _ _ sh mn B (r.kin j) (j.sh.trans J) (zak h2 j.mn) hw.1 aI) (ua told f _ _ sh mn B (r.kin g) (g.sh.trans J) (zak h2 g.mn) hw.2 aI)
 |.tree x b l0 m0 r0 f,s,w,sh,mn,B,h,J,h2,hw,d=>by
  have d:w.length+30*(max b.dep f.dep+1+1)<=B:=d;have m1:=zaW b.dep f.dep;have m2:=zaQ b.dep f.dep;have r:=h.stp "open";have j:=X2 x (stp "open" s);have g:=X1 "tree" x [l0,m0,r0] (stp "open" s);exact All2.app (ua told b _ _ sh mn B (r.kin j) (j.sh.trans J) (zak h2 j.mn) hw.1 aI) (ua told f _ _ sh mn B (r.kin g) (g.sh.trans J) (zak h2 g.mn) hw.2 aI)
def Oi{ps:List (Str×Str)}(a:ps.length<=2):Rel (first ps) []:=by
 obtain⟨_,_,_,_,e1,e2⟩:=Z6 a;exact⟨e1,by rw[e2];rfl⟩
def uq:List Str->List Int->Str->Int
 |k0::ks,n::ns,k=>if k0=k then n else uq ks ns k
 |_,_,_=>0
def cntS(k:Str)(ks:List Str):Int:=(ks.filter (λz=>decide (z=k))).length
theorem Yh:∀(ks:List Str)(ns:List Int)(k k':Str),ks.length=ns.length->k'∈ks->uq ks (incS ks ns k) k'=uq ks ns k'+if k=k' then 1 else 0
 |[],_,_,_,_,h=>by cases h
 |_::_,[],_,_,h,_=>by cases h
 |k0::ks,n::ns,k,k',hl,hm=>by
  have hl:ks.length=ns.length:=Nat.succ.inj hl;rw[incS];by_cases e0:k0=k
  ·rw[zaM e0,uq,uq];by_cases e1:k0=k'
   ·rw[zaM e1,zaM e1,zaM (e0.symm.trans e1)]
   rw[zaJ e1,zaJ e1,zaJ (λz=>e1 (e0.trans z)),Int.add_zero]
  rw[zaJ e0,uq,uq];by_cases e1:k0=k'
  ·rw[zaM e1,zaM e1,zaJ (λz=>e0 (e1.trans z.symm)),Int.add_zero]
  rw[zaJ e1,zaJ e1];exact Yh ks ns k k' hl ((zam.mp hm).resolve_left λz=>e1 z.symm)
theorem cz(a:Str)(d:a∈x8):∀(ks:List Str)(st:List Int),st.length=6->uq x8 (incs st ks) a=uq x8 st a+cntS a ks
 |[],st,_=>by
  show uq x8 st a=uq x8 st a+0;rw[Int.add_zero]
 |k::ks,st,hl=>by
  show uq x8 (incs (incS x8 st k) ks) a=_;rw[cz a d ks _ ((k8 _ _ _).trans hl),Yh x8 st k a hl.symm d];unfold cntS;rw[zcE];by_cases e:k=a
  ·rw[zaM e,zaM (zaX e),zLc];omega
  rw[zaJ e,zaJ (by rw[zaP e];decide)]
  omega
theorem Yu(a:Str):∀(ks:List Str)(st:List Int),ks.length=st.length->a∈ks->wk (ks.map Sum.inr) (st.map D.int) (Sum.inr a)=some (.int (uq ks st a))
 |[],_,_,h=>by cases h
 |_::_,[],h,_=>by cases h
 |k0::ks,n::ns,hl,hm=>by
  rw[zaG,zaG,wk,uq];by_cases e:k0=a
  ·rw[zaM e,zaM (by rw[e])]
  rw[zaJ e,zaJ (λz=>e (zdM z))];exact Yu a ks ns (Nat.succ.inj hl) ((zam.mp hm).resolve_left λz=>e z.symm)
theorem Mz(k:Str):∀w:List (Str×Str),((w.filter λp=>decide (p=stD k)).length:Int)=cntS k (rf w)
 |[]=>rfl
 |p::w=>by
  have a:=Mz k w;unfold cntS rf at a ⊢;rw[zcE,zbL];by_cases e:p.1=("step" : Str)
  ·rw[zaM e]
   dsimp only
   rw[zcE];by_cases e2:p.2=k
   ·rw[zaM (zaX (show p=stD k from Prod.ext e e2)),zaM (zaX e2),zLc,zLc];omega
   rw[zaJ (by rw[zaP (λz=>e2 (zbZ Prod.snd z))];decide),zaJ (by rw[zaP e2];decide)]
   exact a
  rw[zaJ e,zaJ (by rw[zaP (λz=>e (zbZ Prod.fst z))];decide)]
  exact a
def Hi1:FT:=λZ φ=>∃a:Int,Z=[.int a]/\φ (dv (.bl true))
def F9:FT:=λZ φ=>∃(p:PS1×List Int)(w:List (Str×Str))(many:Nat),Z=[endD p,wayD w,.int (many:Nat)]/\EndW many many 1000 p w/\φ (dv (.bl true))
def c6{t u:TDb}{U:DE}{φ:Bool->Prop}(h:∀ L:Bool->Prop,L false->t U L)(hu:u U φ):bOr t u U φ:=h _ ⟨nofun,λ_=>hu⟩
def Xa{ta tb:TD}{U:DE}{φ:EV->Prop}(h:∀ L:EV->Prop,L (dv (.bl true))->ta U L)(a:tb U φ):vAnd ta tb U φ:=h _ ⟨λ_=>a,nofun⟩
def T7{tc:TDb}{t:TDS}{U:DE}{ds:DZ}(h:∀ L:Bool->Prop,L false->tc U L)(hu:ds.nx U):sIf tc t sNil U ds:=h _ ⟨nofun,λ_=>hu⟩
def z1a(p q:Str×Str):eqD (prD1 p) (prD1 q)=decide (p=q):=by
 obtain⟨a,b⟩:=p;obtain⟨c,d⟩:=q;show((a==c)&&((b==d)&&true))=_;rw[Bool.and_true];by_cases J:a=c
 ·by_cases h2:b=d
  ·rw[J,h2,zbC,zbC,zaX rfl];rfl
  rw[zaS.mpr h2,Bool.and_false,zaP (λz=>h2 (zbZ Prod.snd z))]
 rw[zaS.mpr J,zaP (λz=>J (zbZ Prod.fst z))];rfl
def Am(p:Str×Str):okD 40 (prD1 p):=λx a=>by
 simp only[zam,zaH,zbM]at a;rcases a with rfl|rfl <;> exact zaA
def E6(q:Str×Str):D->Option D:=λd=>if eqD d (prD1 q) then some d else none
theorem Rt(q:Str×Str):∀w:List (Str×Str),(dsD w).filterMap (E6 q)=dsD (w.filter λp=>decide (p=q))
 |[]=>rfl
 |p::w=>by
  have a:=Rt q w;unfold dsD at a ⊢;rw[zaG,zbL,zcE,a];unfold E6;rw[z1a];by_cases e:p=q
  ·rw[zaX e];rfl
  rw[zaP e];rfl
def L8:D->Option D
 |.tup [.str a,b]=>if a = "call" then some b else none
 |_=>none
theorem Qu:∀w:List (Str×Str),(dsD w).filterMap L8=(su w).map D.str
 |[]=>rfl
 |p::w=>by
  have a:=Qu w;unfold dsD su at a ⊢;rw[zaG,zbL,zbL,a];have d:L8 (prD1 p)=if p.1=("call" : Str) then some (D.str p.2) else none:=rfl
  rw[d];by_cases e:p.1=("call" : Str)
  ·rw[zaM e,zaM e];rfl
  rw[zaJ e,zaJ e]
def Dm{tc:TD}{U:DE}{x y:Str}(b:Bool)(d:decide (x=y)=b)(h:∀ L:EV->Prop,L (dv (.str x))->tc U L):∀L:EV->Prop,L (dv (.bl b))->d2 sEq tc (dC (.str y)) U L:=λL a=>h _ ⟨zaA,zaA,by
 subst d;have e:eqD (.str x) (.str y)=decide (x=y):=by
  rw[ql];by_cases e:x=y
  ·rw[e,zbC,zaX rfl]
  rw[zaS.mpr e,zaP e]
 rw[<- e]at a;exact a⟩
def zipC{cs:List (Str×List (List Int))}{i:Nat}{d:D}(h:(zipD (cs.map vq) ((cs.map Prod.fst).map D.str))[i]?=some d):∃c:Str×List (List Int),d=.tup [vq c,.str c.1]:=by
 unfold zipD at h;rw[zdL,zai,zai,zai]at h;cases e:cs[i]? with
 |none=>rw[e]at h;cases h
 |some c =>
  rw[e]at h;exact⟨c,(zaT h).symm⟩
def dy(X:AX P w K mg C G):FD P w K mg base 1 "_law_whole" ["_law_found"] Hi1:=by
 obtain⟨f,fd,F,m⟩:=X.f "_law_whole" 17 aB
 have S:zv ["_law_found"] ["_law_found"] (ze (top 17)):=by walk_at "f"
 walk_at "b";refine⟨_,(y0 (y9 (Ud (wz X.T.isinstance (aK (za 0) (Wi X.T.int Uu))) (Mn (z1d (wz X.T.isinstance (aK (za 0) (Wi X.T.bool Pu)))))))),?_⟩;obtain⟨a,rfl,h⟩:=hT;walk_at "dl";exact h
def Y8(X:AX P w K mg C G):FD P w K mg base 2 "_law_is_path" ["_law_path","_law_way","_law_many"] F9:=by
 obtain⟨f,fd,F,m⟩:=X.f "_law_is_path" 35 aB
 have S:zv ["_law_path","_law_way","_law_many","_law_kind","_law_due","_law_names","_law_call","_law_name_here"] ["_law_path","_law_way","_law_many"] (ze (top 35)):=by walk_at "f"
 walk_at "b";refine⟨_,(zh (tu (wr (EW.et (jk (c4 (jl (wz X.T.isinstance (aK (za 0) (Wi X.T.tuple vz))))) (jk (Wg hu (ue X.T.len (aJ (za 0))) zd) (jk (c4 (jl (wz X.T.isinstance (aK (zk hu (za 0) zd) (Wi X.T.dict fq))))) (dz (Wg hu (Dr X.T.len (aJ (zk hu (za 0) zd))) zd)))))) (y0 (y9 Wn)) x5))
   (zh (tu (rj (xu (x9 (z9 zf (aO zf zf zf zf zf)))) (zw (i:=3) S.nd rfl aG) (x3 3) (zh (zy 4 S.nd (yg (ue X.T.len (aJ (sr (T:=["_law_deed"]) (F:=["_law_kind"]) (js:=[3]) (xu (za 1)) (show zx (ze (top 35)) _ _ _ from by walk_at "c") (.cons rfl .nil) aB (by walk_at "t") (yi aB) (x3 0) (λcl C fp s H=>(Zg (xn hu (za 0) (zg (aK zf (za 1)))))) (λcl C fp s H=>(za 0))))) (Wj X.T.int (aJ (Dt hu (za 3) zf)))))
    (y0 (wr (EW.et (jk (Jp hu (za 3) (zk hu (za 0) zd)) (jk (c4 (jl (zu (dy X) (hr.e rfl) (aJ (zk hu (zk hu (za 0) zd) (za 3)))))) (dz (Wg hu (zk hu (zk hu (za 0) zd) (za 3)) (za 4)))))) (y0 (y9 Wn)) x5)))))
   (zh (tu (vn (T:=["_law_word","_law_name_here"]) (F:=[]) (js:=[]) 5 S.nd (xu (za 1)) (show zx (ze (top 35)) _ _ _ from by walk_at "c") .nil aB (by walk_at "t") (dh (xy yv (qe yv uj) (yi aB) (xy yv uj (yi aB) dj))) (uz 0 1) (λcl C fp s H=>(Zg (xn hu (za 0) zf))) (λcl C fp s H=>(za 1))))
   (zh (tu (wr (EW.et (jk (c4 (jl (wz X.T.isinstance (aK (zk hu (za 0) zd) (Wi X.T.list fm))))) (dz (Wg hu (ue X.T.len (aJ (zk hu (za 0) zd))) (ue X.T.len (aJ (za 5))))))) (y0 (y9 Wn)) x5))
   (zh (tu (Oe 5 (rj (Qg X.T.zip (aK (zk hu (za 0) zd) (za 5))) (ww (K0:=K) (n:=2) (by rfl) (by rfl) (y7 (zw (i:=6) S.nd rfl aG) (y7 (zw (i:=7) S.nd rfl aG) wj))) (uz 6 7) (y0 (wr (EW.et (jk (c4 (jl (wz X.T.isinstance (aK (za 6) (Wi X.T.tuple vz))))) (jk (Wg hu (ue X.T.len (aJ (za 6))) zd) (jk (Wg hu (zk hu (za 6) zd) (za 7)) (dz (c4 (jl (wz X.T.isinstance (aK (zk hu (za 6) zd) (Wi X.T.tuple vz)))))))))) (y0 (y9 Wn)) x5)))))
   (y0 (y9 (Ud (wz X.T.isinstance (aK (zk hu (za 0) zd) (Wi X.T.tuple vz))) (Ud (Dt hu (ue X.T.len (aJ (zk hu (za 0) zd))) (za 2)) (Ud (zu (dy X) (hr.e rfl) (aJ (zk hu (za 0) zd))) (Mn (z3n (zk hu (za 0) zd) (za 2))))))))))))),?_⟩
 obtain⟨p,w1,many,rfl,r,h⟩:=hT;have B:p.1.steps.length=6:=by rw[r.rel.st];exact rh _ _
 refine z_g [q_ (endD p),q_ (wayD w1),q_ (.int (many:Nat)),none,none,none,none,none] ?_ ?_
 ·unfold endD F4;walk_at "dl";exact⟨λz=>absurd rfl z,λ_ z=>absurd rfl z⟩
 refine v8 (λU=>∃j g,U=[q_ (endD p),q_ (wayD w1),q_ (.int (many:Nat)),j,g,none,none,none]) ?_ ?_
 ·refine ug (x8.map D.str) (λL a=>⟨rfl,rfl,zaA,a⟩) (λi U=>∃j g,U=[q_ (endD p),q_ (wayD w1),q_ (.int (many:Nat)),j,g,none,none,none]) ⟨none,none,rfl⟩ ?_ ?_
  ·rintro i d _ hd ⟨j,g,rfl⟩;rw[zai]at hd;obtain⟨k,e1,rfl⟩:=zar.mp hd;have u:k∈x8:=zan e1;have y:uq x8 p.1.steps k=((w1.filter λq=>decide (q=stD k)).length:Nat)+(if decide (k = "call") then 1 else 0):=by
    rw[r.rel.st,cz k u _ _ rfl,Mz,Int.add_comm]
    congr 1
    simp only[x8,zam,zaH,zbM]at u;rcases u with rfl|rfl|rfl|rfl|rfl|rfl <;> decide
   have l:=Yu k x8 p.1.steps (B.symm) u;rw[y]at l;refine Z8 (zn (zp (yj (dv (.int ((w1.filter λq=>decide (q=stD k)).length:Nat))) (dv (.int (if decide (k = "call") then 1 else 0))) (λL a=>?_) (λL a=>?_) ⟨zaA,?_⟩)))
   ·refine zt (df (.lst (dsD (w1.filter λq=>decide (q=stD k))))) [] (λL a=>xa (dsD w1) (λL a=>⟨zaA,a⟩) (E6 (stD k)) (by unfold dsD;rw[zLm];have:=r.len;omega) (λd hd=>?_) (by rw[Rt];exact a)) aA (by
     unfold dsD;show L (dv (.int ((List.map prD1 _).length:Nat)));rw[zLm];exact a)
    obtain⟨q,h1,rfl⟩:=zah.mp hd;refine Z8 (yj (dv (prD1 q)) (dv (prD1 (stD k))) aA (λL a=>⟨rfl,rfl,a⟩) ⟨Am _,Am _,?_⟩);exact⟨λe=>⟨zaA,zaM e⟩,λe=>zaJ (by rw[e];decide)⟩
   ·exact zt (dv (.bl (decide (k = "call")))) [] (λL a=>Dm _ rfl aA _ a) aA a
   dsimp only
   generalize ((w1.filter λq=>decide (q=stD k)).length:Int)+(if decide (k = "call") then 1 else 0)=n at l ⊢
   have I:∀L:EV->Prop,L (dv (.int n))->d2 sIxx (d2 sIxx (v7 0) (dC (.int 2))) (v7 3) [q_ (endD p),q_ (wayD w1),q_ (.int (many:Nat)),q_ (.str k),q_ (.int n),none,none,none] L:=λL a=>yj (dv (.dk (x8.map Sum.inr) (p.1.steps.map D.int))) (dv (.str k)) aA aA (Ui rfl l a);refine T7 (λL a=>c6 (λL a=>yj (dv (.str k)) (dv (.dk (x8.map Sum.inr) (p.1.steps.map D.int))) aA aA ?_) (c6 (λL a=>yb [dv (.int n)] (λL a=>zt _ [] I aA a) rfl ⟨n,rfl,a⟩) (yj (dv (.int n)) (dv (.int n)) I aA ⟨zaA,zaA,?_⟩))) ⟨_,_,rfl⟩
   ·show L (if true then !decide ((Sum.inr k:Key)∈x8.map Sum.inr) else decide ((Sum.inr k:Key)∈x8.map Sum.inr))
    rw[zaM rfl,zaX (zcB u)];exact a
   show L (!eqD (.int n) (.int n));rw[qm,zbC];exact a
  exact λ_ h=>h
 rintro _ ⟨j,g,rfl⟩;refine z_g [q_ (endD p),q_ (wayD w1),q_ (.int (many:Nat)),j,g,Q_ (.lst ((p.1.calls.map Prod.fst).map D.str)),none,none] ?_ ?_
 ·refine zp (xa (dsD w1) (λL a=>⟨zaA,a⟩) L8 (by unfold dsD;rw[zLm];have:=r.len;omega) (λd hd=>?_) ?_)
  ·obtain⟨q,h1,rfl⟩:=zah.mp hd;refine qf (yf (decide (q.1 = "call")) rfl aA _ ?_);exact⟨λe=>⟨zaA,zaM (zbU e)⟩,λe=>zaJ (zeD e)⟩
  rw[Qu,<- r.rel.ca];exact⟨zaA,rfl⟩
 refine z_g [q_ (endD p),q_ (wayD w1),q_ (.int (many:Nat)),j,g,Q_ (.lst ((p.1.calls.map Prod.fst).map D.str)),none,none] ?_ ?_
 ·refine T7 (λL a=>c6 aA (yj (dv (.int ((p.1.calls.map vq).length:Nat))) (dv (.int (((p.1.calls.map Prod.fst).map D.str).length:Nat))) aA aA ⟨zaA,zaA,?_⟩)) rfl;show L (!eqD (.int _) (.int _));rw[qm,zLm,zLm,zLm,zbC];exact a
 refine v8 (λU=>∃x v,U=[q_ (endD p),q_ (wayD w1),q_ (.int (many:Nat)),j,g,q_ (.lst ((p.1.calls.map Prod.fst).map D.str)),x,v]) ?_ ?_
 ·refine(show sFor _ _ _ [q_ (endD p),q_ (wayD w1),q_ (.int (many:Nat)),j,g,q_ (.lst ((p.1.calls.map Prod.fst).map D.str)),none,none] _ from ug (zipD (p.1.calls.map vq) ((p.1.calls.map Prod.fst).map D.str)) (λL a=>⟨zaA,zaA,a⟩) (λi U=>∃x v,U=[q_ (endD p),q_ (wayD w1),q_ (.int (many:Nat)),j,g,q_ (.lst ((p.1.calls.map Prod.fst).map D.str)),x,v]) ⟨none,none,rfl⟩ ?_ ?_)
  ·rintro i d _ hd ⟨x,v,rfl⟩;obtain⟨c,rfl⟩:=zipC hd;refine qf (T7 (λL a=>c6 aA (c6 (λL a=>yj (dv (.int 2)) (dv (.int 2)) aA aA ⟨zaA,zaA,?_⟩) (c6 (λL a=>yj (dv (.str c.1)) (dv (.str c.1)) aA aA ⟨zaA,zaA,?_⟩) a))) ⟨_,_,rfl⟩)
   ·show L (!eqD (.int 2) (.int 2));rw[qm,zbC];exact a
   show L (!eqD (.str _) (.str _));rw[ql,zbC];exact a
  exact λ_ h=>h
 rintro _ ⟨x,v,rfl⟩;refine(show sRet _ _ _ from yd ?_);refine(Xa aA (Xa (λL a=>yj (dv (.int ((p.1.shape.map lnD).length:Nat))) (dv (.int (many:Nat))) aA aA ⟨zaA,zaA,?_⟩) (Xa (λL a=>yb [dv (.int (p.1.many:Nat))] (λL a=>zt _ [] aA aA a) rfl ⟨_,rfl,a⟩) (yj (dv (.int (p.1.many:Nat))) (dv (.int (many:Nat))) aA aA ?_))))
 ·show L (dv (.bl (eqD (.int _) (.int _))));rw[qm,zLm,r.sh,zbC];exact a
 show xx (dv (.bl (decide ((many:Int)<=(p.1.many:Int)))))/\φ (dv (.bl (decide ((many:Int)<=(p.1.many:Int)))));rw[zaX (by have:=r.mn;omega)]
 exact⟨zaA,h⟩
def fu1{α:Type}{l:List α}{i:Nat}(h:i<l.length):atI l (i:Int)=l[i]?:=by
 unfold atI ixN;rw[zaM aD,zaM aD]
 simp
def O7:FT:=λZ φ=>match Z with
 |[.scr _,.int k]=>0<=k/\∀c:Int,φ (dv (.int c))
 |_=>False
def Jz{Z:List D}{φ:EV->Prop}(h:O7 Z φ):∃ns k,Z=[.scr ns,.int k]/\0<=k/\∀c:Int,φ (dv (.int c)):=by
 unfold O7 at h;split at h
 ·exact⟨_,_,rfl,h⟩
 exact h.elim
def Hk:FT:=λZ φ=>match Z with
 |[.fd m]=>0<m/\∀c:Int,0<=c->c<m->φ (dv (.int c))
 |_=>False
def abc:Str:="abcdefghijklmnopqrstuvwxyz"
def Ra:abc.cps.toList.length=26:=by decide +kernel
def Lc:abc.cps.toList.Nodup:=by decide +kernel
def T1(i:Int):Nat:=abc.cps.toList.getD (i.fmod 26).toNat 0
def z1q(i:Int):atI abc.cps.toList (i.fmod 26)=some (T1 i):=by
 have m:=uw i 26 aB
 have h:(i.fmod 26).toNat<abc.cps.toList.length:=by rw[Ra];omega
 refine Uz m.1 ?_;unfold T1;rw[zaq,zaf h];rfl
def Gu{i j:Int}(h:i.fmod 26≠j.fmod 26):T1 i≠T1 j:=by
 have m:=uw i 26 aB
 have n:=uw j 26 aB
 have J:(i.fmod 26).toNat<abc.cps.toList.length:=by rw[Ra];omega
 have h2:(j.fmod 26).toNat<abc.cps.toList.length:=by rw[Ra];omega
 unfold T1;rw[zaq,zaq,zaf J,zaf h2];intro e;have:=(zeN Lc).mp (show abc.cps.toList[(i.fmod 26).toNat]=abc.cps.toList[(j.fmod 26).toNat] from e);omega
def nmS(a b:Str)(i:Int):Str:=a++(⟨#[T1 i]⟩:Str)++b
def gn(c:Nat):(⟨#[c]⟩:Str).length=1:=rfl
def Re:FT:=g2 λm k φ=>∃(a b:Str)(i:Int),m=.tup [.str a,.str b]/\k=.int i/\a.length<=3/\b.length<=3/\φ (dv (.str (nmS a b i)))
def Cr:FT:=w1 λ_ φ=>∀a b:Str,a.length<=3->b.length<=3->φ (dv (.tup [.str a,.str b]))
def tNum:FT:=w1 λ_ φ=>∀n:Int,n.natAbs<=10 ^ 24->φ (dv (.int n))
def pq:Str:="pqrstuvw"
def Bt:pq.cps.toList.length=8:=by decide +kernel
def Bu(i:Int):∃c,atI pq.cps.toList (i.fmod 8)=some c:=by
 have m:=uw i 8 aB
 have h:(i.fmod 8).toNat<pq.cps.toList.length:=by rw[Bt];omega
 exact⟨_,Uz m.1 (by rw[zaf h])⟩
def Yb(X:AX P w K mg C G):FD P w K mg base 1 "_law_cell_at" ["_law_script","_law_k"] O7:=by
 obtain⟨f,fd,F,m⟩:=X.f "_law_cell_at" 16 aB
 have S:zv ["_law_script","_law_k"] ["_law_script","_law_k"] (ze (top 16)):=by walk_at "f"
 walk_at "b";refine⟨_,(zh (wr (z0z (za 1) (ue X.T.len (aJ (za 0)))) (y0 (y9 (zk hu (za 0) (za 1)))) x5)
   (y0 (y9 zd))),?_⟩
 obtain⟨ns,k,rfl,a,h⟩:=Jz hT;walk_at "dl";refine⟨λz=>?_,λ_=>h 0⟩;obtain⟨j,rfl⟩:∃j:Nat,k=j:=⟨k.toNat,by omega⟩
 rw[fu1 aD,zaf aD]
 exact h _
def t8(X:AX P w K mg C G):FD P w K mg base 1 "_law_next" ["_law_feed"] Hk:=by
 obtain⟨f,fd,F,m⟩:=X.f "_law_next" 18 aB
 have S:zv ["_law_feed"] ["_law_feed"] (ze (top 18)):=by walk_at "f"
 walk_at "b";refine⟨_,(Fd 0 hu),?_⟩;unfold Hk at hT;split at hT
 ·rename_i m;obtain⟨a,h⟩:=hT;walk_at "dl";exact⟨a,λc e d=>⟨zaA,h c e d⟩⟩
 exact hT.elim
def wm(X:AX P w K mg C G):FD P w K mg base 1 "_law_name" ["_law_mark_here","_law_k"] Re:=by
 obtain⟨f,fd,F,m⟩:=X.f "_law_name" 19 aB
 have S:zv ["_law_mark_here","_law_k"] ["_law_mark_here","_law_k"] (ze (top 19)):=by walk_at "f"
 walk_at "b";refine⟨_,(y0 (y9 (yg (yg (zk hu (za 0) zd) (zk hu zf (xg (za 1) zd))) (zk hu (za 0) zd)))),?_⟩;obtain⟨d,g,rfl,a,b,i,rfl,rfl,k,j,h⟩:=z3i hT;have e:=z1q i;unfold abc at e;walk_at "dl";rw[e];refine⟨by rw[zaV];decide +kernel,by rw[gn,zaV];omega,by rw[R7,gn,zaV];omega,h⟩
def We(X:AX P w K mg C G):FD P w K mg base 1 "_law_number" ["_law_cell"] tNum:=by
 obtain⟨f,fd,F,m⟩:=X.f "_law_number" 21 aB
 have S:zv ["_law_cell"] ["_law_cell"] (ze (top 21)):=by walk_at "f"
 walk_at "b";refine⟨_,(zh (wr (xn hu (xg (za 0) zd) zd) (y0 (y9 (ud (xg (rb (za 0) zd) (jq zd (Qi zd zd))) (Qi zd zd)))) x5)
   (y0 (y9 (ud (xg (rb (za 0) zd) zd) zd)))),?_⟩
 obtain⟨c,rfl,h⟩:=Gy hT;have m1:=uw (c.fdiv 3) (2*10 ^ 24) aB
 have m2:=uw (c.fdiv 3) 9 aB
 walk_at "dl";exact⟨λ_=>⟨zcO (uk aB aB),zeO aB,by decide,h _ aD⟩,λ_=>⟨zcO (uk aB aB),h _ aD⟩⟩
def Zc(X:AX P w K mg C G):FD P w K mg base 1 "_law_mark" ["_law_cell"] Cr:=by
 obtain⟨f,fd,F,m⟩:=X.f "_law_mark" 20 aB
 have S:zv ["_law_cell","_law_letters","_law_head","_law_k","_law_tail"] ["_law_cell"] (ze (top 20)):=by walk_at "f"
 walk_at "b";refine⟨_,(zh (tu (zy 1 S.nd zf))
   (zh (tu (zy 2 S.nd zf))
   (zh (tu (rj (ub X.T.range (aJ (xg (za 0) zd))) (zw (i:=3) S.nd rfl aG) (x3 3) (y0 (zy 2 S.nd (yg (za 2) (zk hu (za 1) (xg (rb (za 0) (yg (jq zd (za 3)) zd)) zd)))))))
   (zh (tu (zy 4 S.nd zf))
   (zh (tu (rj (ub X.T.range (aJ (xg (rb (za 0) zd) zd))) (zw (i:=3) S.nd rfl aG) (x3 3) (y0 (zy 4 S.nd (yg (za 4) (zk hu (za 1) (xg (rb (za 0) (yg (jq zd (za 3)) zd)) zd)))))))
   (y0 (y9 (zg (aK (za 2) (za 4)))))))))),?_⟩
 obtain⟨c,rfl,h⟩:=Gy hT;have m1:=uw c 4 aB
 have m2:=uw (c.fdiv 4) 4 aB
 have u:pq.length<=sizeLine:=by rw[zaV];decide +kernel
 refine z_g [q_ (.int c),q_ (.str pq),none,none,none] ?_ ?_
 ·walk_at "dl";rfl
 refine v8 (λU=>∃a:Str,a.length<=0/\U=[q_ (.int c),q_ (.str pq),q_ (.str a),none,none]) ?_ ?_
 ·walk_at "dl";exact⟨_,(by decide +kernel:("" : Str).length<=0),rfl⟩
 rintro _ ⟨x,r,rfl⟩;refine v8 (λU=>∃(a:Str)(e:Option EV),a.length<=3/\U=[q_ (.int c),q_ (.str pq),q_ (.str a),e,none]) ?_ ?_
 ·refine ug (rngD 0 (c.fmod 4).toNat) (λL j=>?_) (λi U=>∃(a:Str)(e:Option EV),a.length<=i/\U=[q_ (.int c),q_ (.str pq),q_ (.str a),e,none]) ⟨x,none,r,rfl⟩ ?_ ?_
  ·walk_at "dl";exact⟨by omega,by omega,j⟩
  ·rintro i d U hd ⟨a,e,l,rfl⟩;obtain⟨hi,rfl⟩:=rq hd;obtain⟨ch,g⟩:=Bu (c.fdiv (5*(0+(i:Int))+7));rw[show(0:Int)+(i:Int)=(i:Int) by omega]at g
   walk_at "dl";simp only[g];refine⟨zeO aB,fdOk (m:=64) aD (jx aD),u,by rw[gn,zaV];omega,_,_,?_,rfl⟩
   rw[R7,gn];omega
  rintro U ⟨a,e,l,rfl⟩;rw[g9]at l;exact⟨a,e,by omega,rfl⟩
 rintro _ ⟨a,e,l,rfl⟩;refine v8 (λU=>∃b:Str,b.length<=0/\U=[q_ (.int c),q_ (.str pq),q_ (.str a),e,q_ (.str b)]) ?_ ?_
 ·walk_at "dl";exact⟨_,(by decide +kernel:("" : Str).length<=0),rfl⟩
 rintro _ ⟨v,q,rfl⟩;refine v8 (λU=>∃(b:Str)(e:Option EV),b.length<=3/\U=[q_ (.int c),q_ (.str pq),q_ (.str a),e,q_ (.str b)]) ?_ ?_
 ·refine ug (rngD 0 ((c.fdiv 4).fmod 4).toNat) (λL j=>?_) (λi U=>∃(b:Str)(e:Option EV),b.length<=i/\U=[q_ (.int c),q_ (.str pq),q_ (.str a),e,q_ (.str b)]) ⟨v,e,q,rfl⟩ ?_ ?_
  ·walk_at "dl";exact⟨zcO (uk aB aB),by omega,by omega,j⟩
  ·rintro i d U hd ⟨b,e,k,rfl⟩;obtain⟨hi,rfl⟩:=rq hd;obtain⟨ch,g⟩:=Bu (c.fdiv (9*(0+(i:Int))+11));rw[show(0:Int)+(i:Int)=(i:Int) by omega]at g
   walk_at "dl";simp only[g];refine⟨zeO aB,fdOk (m:=64) aD (jx aD),u,by rw[gn,zaV];omega,_,_,?_,rfl⟩
   rw[R7,gn];omega
  rintro U ⟨b,e,k,rfl⟩;rw[g9]at k;exact⟨b,e,by omega,rfl⟩
 rintro _ ⟨b,y,k,rfl⟩;walk_at "dl";exact h a b l k
def Ww(prog:Str->Str->Str->Str->Str->Str->List Fn):FT:=λZ φ=>∃f g x y h t:Str,Z=[.str f,.str g,.str x,.str y,.str h,.str t]/\φ (dv (.tup ((prog f g x y h t).map Fn.d)))
def Xg(f g x y h t:Str):List Fn:=[⟨f,[(x,"num"),(y,"list")],"list",[1,0,1],(.list y (.give (.op "cons" (.var x) .nil)) h t (.less (.var x) (.var h) (.give (.op "cons" (.var x) (.var y))) (.give (.op "cons" (.var h) (.call2 f (.var x) (.var t))))))⟩,⟨g,[(y,"list")],"list",[0,1],(.list y (.give .nil) h t (.give (.call2 f (.var h) (.call1 g (.var t)))))⟩]
def Xb(f g x y h t:Str):List Fn:=[⟨f,[(x,"list"),(y,"list")],"list",[0,1,1],(.list x (.give (.var y)) h t (.give (.call2 f (.var t) (.op "cons" (.var h) (.var y)))))⟩,⟨g,[(x,"list")],"list",[0,1],(.give (.call2 f (.var x) .nil))⟩]
def Xd(f g x y h t:Str):List Fn:=[⟨f,[(x,"list"),(y,"list")],"list",[0,1,1],(.list x (.give (.var y)) h t (.give (.op "cons" (.var h) (.call2 f (.var t) (.var y)))))⟩,⟨g,[(x,"tree")],"list",[0,1],(.tree x (.give .nil) h y t (.give (.call2 f (.call1 g (.var h)) (.op "cons" (.var y) (.call1 g (.var t))))))⟩]
def Xp(f g x y h t:Str):List Fn:=[⟨f,[(x,"num"),(y,"list")],"num",[0,0,0],(.list y (.give (.num 0)) h t (.give (.op "add" (.op "sub" (.var x) (.var h)) (.call2 f (.var x) (.var t)))))⟩,⟨g,[(y,"list")],"num",[0,0],(.list y (.give (.num 1)) h t (.give (.op "add" (.call2 f (.var h) (.var t)) (.call1 g (.var t)))))⟩]
def Y6(X:AX P w K mg C G):FD P w K mg base 1 "_law_sorting" pB (Ww Xg):=by
 obtain⟨f,fd,F,m⟩:=X.f "_law_sorting" 28 aB
 have S:zv ["_law_f","_law_g","_law_x","_law_y","_law_h","_law_t","_law_less","_law_more","_law_body","_law_put","_law_full"] pB (ze (top 28)):=by walk_at "f"
 walk_at "b";refine⟨_,(zh (zy 6 S.nd (zg (aN zf (zg (aK zf (za 2))) (zg (aK zf (za 4))) (zg (aK zf (zg (aM zf (zg (aK zf (za 2))) (zg (aK zf (za 3))))))))))
   (zh (zy 7 S.nd (zg (aK zf (zg (aM zf (zg (aK zf (za 4))) (zg (aM zf (za 0) (zg (aK (zg (aK zf (za 2))) (zg (aK zf (za 5))))))))))))
   (zh (zy 8 S.nd (zg (z9 zf (aO (za 3) (zg (aK zf (zg (aM zf (zg (aK zf (za 2))) (zg (aJ zf)))))) (za 4) (za 5) (yg (za 6) (zg (aJ (za 7))))))))
   (zh (zy 9 S.nd (zg (aN (za 0) (zg (aK (zg (aK (za 2) zf)) (zg (aK (za 3) zf)))) (zg (aK zf (zg (aM zd zd zd)))) (za 8))))
   (zh (zy 10 S.nd (zg (aK zf (zg (aM zf (za 0) (zg (aK (zg (aK zf (za 4))) (zg (aM zf (za 1) (zg (aJ (zg (aK zf (za 5))))))))))))))
   (y0 (y9 (zg (aK (za 9) (zg (aN (za 1) (zg (aJ (zg (aK (za 3) zf)))) (zg (aK zf (zg (aK zd zd)))) (zg (z9 zf (aO (za 3) (zg (aK zf (zg (aJ zf)))) (za 4) (za 5) (za 10))))))))))))))),?_⟩
 obtain⟨e,g1,d,a,J,t1,rfl,h⟩:=hT;walk_at "2"
 dsimp only
 walk_at "2"
 dsimp only
 refine zn (zp ⟨rfl,rfl,rfl,rfl,rfl,rfl,rfl,rfl,rfl,rfl,(zbS _ _),(zbS _ _),(by rw[zaV];exact zaB rfl),rfl,rfl,zaA,?_⟩)
 dsimp only
 walk_at "2"
 dsimp only
 walk_at "2"
 dsimp only
 exact yd ⟨rfl,rfl,rfl,rfl,rfl,rfl,rfl,rfl,rfl,rfl,rfl,rfl,rfl,rfl,rfl,rfl,rfl,rfl,qz (Xg e g1 d a J t1),h⟩
def Y4(X:AX P w K mg C G):FD P w K mg base 1 "_law_turning" pB (Ww Xb):=by
 obtain⟨f,fd,F,m⟩:=X.f "_law_turning" 29 aB
 have S:zv ["_law_f","_law_g","_law_x","_law_y","_law_h","_law_t","_law_full","_law_turn","_law_body"] pB (ze (top 29)):=by walk_at "f"
 walk_at "b";refine⟨_,(zh (zy 6 S.nd (zg (aK zf (zg (aM zf (za 0) (zg (aK (zg (aK zf (za 5))) (zg (aM zf (zg (aK zf (za 4))) (zg (aK zf (za 3))))))))))))
   (zh (zy 7 S.nd (zg (aN (za 0) (zg (aK (zg (aK (za 2) zf)) (zg (aK (za 3) zf)))) (zg (aK zf (zg (aM zd zd zd)))) (zg (z9 zf (aO (za 2) (zg (aK zf (zg (aK zf (za 3))))) (za 4) (za 5) (za 6)))))))
   (zh (zy 8 S.nd (zg (aK zf (zg (aM zf (za 0) (zg (aK (zg (aK zf (za 2))) (zg (aJ zf)))))))))
   (y0 (y9 (zg (aK (za 7) (zg (aN (za 1) (zg (aJ (zg (aK (za 2) zf)))) (zg (aK zf (zg (aK zd zd)))) (za 8)))))))))),?_⟩
 obtain⟨e,g1,d,a,J,t1,rfl,h⟩:=hT;walk_at "2"
 dsimp only
 walk_at "2"
 dsimp only
 walk_at "2"
 dsimp only
 exact yd ⟨rfl,rfl,rfl,rfl,rfl,rfl,rfl,rfl,rfl,rfl,rfl,rfl,qz (Xb e g1 d a J t1),h⟩
def Y5(X:AX P w K mg C G):FD P w K mg base 1 "_law_telling" pB (Ww Xd):=by
 obtain⟨f,fd,F,m⟩:=X.f "_law_telling" 30 aB
 have S:zv ["_law_f","_law_g","_law_x","_law_y","_law_h","_law_t","_law_full","_law_onto","_law_rest","_law_body"] pB (ze (top 30)):=by walk_at "f"
 walk_at "b";refine⟨_,(zh (zy 6 S.nd (zg (aK zf (zg (aM zf (zg (aK zf (za 4))) (zg (aM zf (za 0) (zg (aK (zg (aK zf (za 5))) (zg (aK zf (za 3))))))))))))
   (zh (zy 7 S.nd (zg (aN (za 0) (zg (aK (zg (aK (za 2) zf)) (zg (aK (za 3) zf)))) (zg (aK zf (zg (aM zd zd zd)))) (zg (z9 zf (aO (za 2) (zg (aK zf (zg (aK zf (za 3))))) (za 4) (za 5) (za 6)))))))
   (zh (zy 8 S.nd (zg (aM zf (zg (aK zf (za 3))) (zg (aM zf (za 1) (zg (aJ (zg (aK zf (za 5))))))))))
   (zh (zy 9 S.nd (zg (aK zf (zg (aM zf (za 0) (zg (aK (zg (aM zf (za 1) (zg (aJ (zg (aK zf (za 4))))))) (za 8))))))))
   (y0 (y9 (zg (aK (za 7) (zg (aN (za 1) (zg (aJ (zg (aK (za 2) zf)))) (zg (aK zf (zg (aK zd zd)))) (zg (z9 zf (z9 (za 2) (aO (zg (aK zf (zg (aJ zf)))) (za 4) (za 3) (za 5) (za 9))))))))))))))),?_⟩
 obtain⟨e,g1,d,a,J,t1,rfl,h⟩:=hT;walk_at "2"
 dsimp only
 walk_at "2"
 dsimp only
 walk_at "2"
 dsimp only
 walk_at "2"
 dsimp only
 exact yd ⟨rfl,rfl,rfl,rfl,rfl,rfl,rfl,rfl,rfl,rfl,rfl,rfl,rfl,rfl,rfl,rfl,rfl,rfl,qz (Xd e g1 d a J t1),h⟩
def Y7(X:AX P w K mg C G):FD P w K mg base 1 "_law_pairing" pB (Ww Xp):=by
 obtain⟨f,fd,F,m⟩:=X.f "_law_pairing" 31 aB
 have S:zv ["_law_f","_law_g","_law_x","_law_y","_law_h","_law_t","_law_full","_law_one"] pB (ze (top 31)):=by walk_at "f"
 walk_at "b";refine⟨_,(zh (zy 6 S.nd (zg (aK zf (zg (aM zf (zg (aM zf (zg (aK zf (za 2))) (zg (aK zf (za 4))))) (zg (aM zf (za 0) (zg (aK (zg (aK zf (za 2))) (zg (aK zf (za 5))))))))))))
   (zh (zy 7 S.nd (zg (aN (za 0) (zg (aK (zg (aK (za 2) zf)) (zg (aK (za 3) zf)))) (zg (aK zf (zg (aM zd zd zd)))) (zg (z9 zf (aO (za 3) (zg (aK zf (zg (aK zf zd)))) (za 4) (za 5) (za 6)))))))
   (zh (zy 6 S.nd (zg (aK zf (zg (aM zf (zg (aM zf (za 0) (zg (aK (zg (aK zf (za 4))) (zg (aK zf (za 5))))))) (zg (aM zf (za 1) (zg (aJ (zg (aK zf (za 5))))))))))))
   (y0 (y9 (zg (aK (za 7) (zg (aN (za 1) (zg (aJ (zg (aK (za 3) zf)))) (zg (aK zf (zg (aK zd zd)))) (zg (z9 zf (aO (za 3) (zg (aK zf (zg (aK zf zd)))) (za 4) (za 5) (za 6))))))))))))),?_⟩
 obtain⟨e,g1,d,a,J,t1,rfl,h⟩:=hT;walk_at "2"
 dsimp only
 walk_at "2"
 dsimp only
 walk_at "2"
 dsimp only
 exact yd ⟨rfl,rfl,rfl,rfl,rfl,rfl,rfl,rfl,rfl,rfl,rfl,rfl,rfl,rfl,rfl,rfl,rfl,rfl,qz (Xp e g1 d a J t1),h⟩
def Wy(a:Str)(c:Nat)(b:Str):(a++(⟨#[c]⟩:Str)++b).cps.toList=a.cps.toList++[c]++b.cps.toList:=by
 show(a.cps++#[c]++b.cps).toList=_;simp
def Aq{a b:Str}{i j:Int}(h:T1 i≠T1 j):nmS a b i≠nmS a b j:=λe=>by
 have e2:=zbZ (λs:Str=>s.cps.toList) e;unfold nmS at e2;rw[Wy,Wy]at e2;have e3:=List.append_cancel_right e2;have d:=List.append_cancel_left e3;exact h (by simpa using d)
def Dj(c m:Int)(a:0<=m)(J:m<20):c.fmod 26≠(c+1+m).fmod 26:=by
 rw[Int.fmod_eq_emod_of_nonneg _ aB,Int.fmod_eq_emod_of_nonneg _ aB]
 omega
def nmF(a b:Str)(c:Int):D->Option D
 |.int k=>some (.str (nmS a b (c+k)))
 |_=>none
def nm4(a b:Str)(c:Int):(rngD 0 4).filterMap (nmF a b c)=[.str (nmS a b (c+(0+(0:Nat)))),.str (nmS a b (c+(0+(1:Nat)))),.str (nmS a b (c+(0+(2:Nat)))),.str (nmS a b (c+(0+(3:Nat))))]:=rfl
structure Good(fns:List Fn):Prop where
 nd:(fns.map Fn.name).Nodup
 len:fns.length<=2
 ok:∀f∈fns,FnV (vg fns) f
def tj(l:List Int)(h:l.all (λz=>decide (z.natAbs<=3))=true):rk l:=λz a=>zbU (List.all_eq_true.mp h z a)
abbrev C9(told:List (Str×List Int))(f:Str):Prop:=∃t,getA told f=some t/\t≠[]/\rk t
def Jg{a b:Fn}(d:a.name≠b.name)(j:rk a.size)(l:a.size≠[])(g:rk b.size)(k:b.size≠[])(e:∀ told,C9 told a.name->C9 told b.name->FnV told a/\FnV told b):Good [a,b]:=by
 obtain⟨r,q⟩:=e (vg [a,b]) ⟨a.size,zaM rfl,l,j⟩ ⟨b.size,(zaJ d).trans (zaM rfl),k,g⟩;refine⟨by simp[d],zaj 2,λf e=>?_⟩
 simp only[zam,zaH,zbM]at e;rcases e with rfl|rfl
 ·exact r
 exact q
def U3{f g x y h t:Str}(a:f≠g):Good (Xg f g x y h t):=by
 refine Jg a (tj _ rfl) (zbS _ _) (tj _ rfl) (zbS _ _) λtold kf d=>⟨⟨zaB rfl,zaB rfl,?_⟩,⟨zaB rfl,zaB rfl,?_⟩⟩
 ·repeat' (first|exact kf|exact d|exact zaA|exact zaB rfl|exact zeJ rfl|exact zdJ (zeJ rfl)|exact zdJ (zdJ rfl)|exact zao|exact zal _ zao|exact zal _ (zal _ zao)|exact zal _ (zal _ (zal _ zao))|apply zfW)
 repeat' (first|exact kf|exact d|exact zaA|exact zaB rfl|exact zeJ rfl|exact zdJ (zeJ rfl)|exact zdJ (zdJ rfl)|exact zao|exact zal _ zao|exact zal _ (zal _ zao)|exact zal _ (zal _ (zal _ zao))|apply zfW)
def U1{f g x y h t:Str}(a:f≠g):Good (Xb f g x y h t):=by
 refine Jg a (tj _ rfl) (zbS _ _) (tj _ rfl) (zbS _ _) λtold kf d=>⟨⟨zaB rfl,zaB rfl,?_⟩,⟨zaB rfl,zaB rfl,?_⟩⟩
 ·repeat' (first|exact kf|exact d|exact zaA|exact zaB rfl|exact zeJ rfl|exact zdJ (zeJ rfl)|exact zdJ (zdJ rfl)|exact zao|exact zal _ zao|exact zal _ (zal _ zao)|exact zal _ (zal _ (zal _ zao))|apply zfW)
 repeat' (first|exact kf|exact d|exact zaA|exact zaB rfl|exact zeJ rfl|exact zdJ (zeJ rfl)|exact zdJ (zdJ rfl)|exact zao|exact zal _ zao|exact zal _ (zal _ zao)|exact zal _ (zal _ (zal _ zao))|apply zfW)
def U2{f g x y h t:Str}(a:f≠g):Good (Xd f g x y h t):=by
 refine Jg a (tj _ rfl) (zbS _ _) (tj _ rfl) (zbS _ _) λtold kf d=>⟨⟨zaB rfl,zaB rfl,?_⟩,⟨zaB rfl,zaB rfl,?_⟩⟩
 ·repeat' (first|exact kf|exact d|exact zaA|exact zaB rfl|exact zeJ rfl|exact zdJ (zeJ rfl)|exact zdJ (zdJ rfl)|exact zao|exact zal _ zao|exact zal _ (zal _ zao)|exact zal _ (zal _ (zal _ zao))|apply zfW)
 repeat' (first|exact kf|exact d|exact zaA|exact zaB rfl|exact zeJ rfl|exact zdJ (zeJ rfl)|exact zdJ (zdJ rfl)|exact zao|exact zal _ zao|exact zal _ (zal _ zao)|exact zal _ (zal _ (zal _ zao))|apply zfW)
def U4{f g x y h t:Str}(a:f≠g):Good (Xp f g x y h t):=by
 refine Jg a (tj _ rfl) (zbS _ _) (tj _ rfl) (zbS _ _) λtold kf d=>⟨⟨zaB rfl,zaB rfl,?_⟩,⟨zaB rfl,zaB rfl,?_⟩⟩
 ·repeat' (first|exact kf|exact d|exact zaA|exact zaB rfl|exact zeJ rfl|exact zdJ (zeJ rfl)|exact zdJ (zdJ rfl)|exact zao|exact zal _ zao|exact zal _ (zal _ zao)|exact zal _ (zal _ (zal _ zao))|apply zfW)
 repeat' (first|exact kf|exact d|exact zaA|exact zaB rfl|exact zeJ rfl|exact zdJ (zeJ rfl)|exact zdJ (zdJ rfl)|exact zao|exact zal _ zao|exact zal _ (zal _ zao)|exact zal _ (zal _ (zal _ zao))|apply zfW)
def Ck:FT:=w1 λ_ φ=>∀fns,Good fns->φ (dv (.tup (fns.map Fn.d)))
def U8(X:AX P w K mg C G):FD P w K mg base 2 "_law_piece" ["_law_cell"] Ck:=by
 obtain⟨f,fd,F,m⟩:=X.f "_law_piece" 32 aB
 have S:zv ["_law_cell","_law_mark_here","_law_f","_law_g","_law_x","_law_y","_law_h","_law_t"] ["_law_cell"] (ze (top 32)):=by walk_at "f"
 walk_at "b";refine⟨_,(zh (tu (zy 1 S.nd (zu (Zc X) (hr.e rfl) (aJ (rb (za 0) zd)))))
   (zh (tu (zy 2 S.nd (zu (wm X) (hr.e rfl) (aK (zg (aK (zk hu (za 1) zd) (zk hu (za 1) zd))) (rb (za 0) zd)))))
   (zh (tu (zy 3 S.nd (zu (wm X) (hr.e rfl) (aK (zg (aK (zk hu (za 1) zd) (zk hu (za 1) zd))) (yg (yg (rb (za 0) zd) zd) (xg (rb (za 0) zd) zd))))))
   (zh (tu (B6 (sr (T:=["_law_k"]) (F:=["_law_mark_here","_law_cell"]) (js:=[1,0]) (ub X.T.range (aJ zd)) (show zx (ze (top 32)) _ _ _ from by walk_at "c") (.cons rfl (.cons rfl .nil)) aB (by walk_at "t") (yi aB) (x3 0) (λcl C fp s H=>w5) (λcl C fp s H=>(zu (wm X) (hr.e rfl) (aK (za 1) (yg (rb (za 2) zd) (za 0)))))) (E7 (K0:=K) (n:=4) (by rfl) (by rfl) (y7 (zw (i:=4) S.nd rfl aG) (y7 (zw (i:=5) S.nd rfl aG) (y7 (zw (i:=6) S.nd rfl aG) (y7 (zw (i:=7) S.nd rfl aG) wj))))) (Dc 4 5 6 7)))
   (zh (wr (xn hu (xg (za 0) zd) zd) (y0 (y9 (zu (Y6 X) (hr.e rfl) (z9 (za 2) (aO (za 3) (za 4) (za 5) (za 6) (za 7)))))) x5)
   (zh (wr (xn hu (xg (za 0) zd) zd) (y0 (y9 (zu (Y4 X) (hr.e rfl) (z9 (za 2) (aO (za 3) (za 4) (za 5) (za 6) (za 7)))))) x5)
   (zh (wr (xn hu (xg (za 0) zd) zd) (y0 (y9 (zu (Y5 X) (hr.e rfl) (z9 (za 2) (aO (za 3) (za 4) (za 5) (za 6) (za 7)))))) x5)
   (y0 (y9 (zu (Y7 X) (hr.e rfl) (z9 (za 2) (aO (za 3) (za 4) (za 5) (za 6) (za 7))))))))))))),?_⟩
 obtain⟨c,rfl,h⟩:=Gy hT;refine v8 (λU=>∃a b:Str,a.length<=3/\b.length<=3/\U=[q_ (.int c),q_ (.tup [.str a,.str b]),none,none,none,none,none,none]) ?_ ?_
 ·walk_at "dl";simp only[Cr,w1];exact⟨zcO (uk aB aB),λa b q l=>⟨zaA,a,b,q,l,rfl⟩⟩
 rintro _ ⟨a,b,q,l,rfl⟩;refine z_g [q_ (.int c),q_ (.tup [.str a,.str b]),q_ (.str (nmS b a (c.fdiv 8))),none,none,none,none,none] ?_ ?_
 ·walk_at "dl";simp only[Re,g2];exact⟨zcO (uk aB aB),b,a,_,rfl,rfl,l,q,zaA,rfl⟩
 refine z_g [q_ (.int c),q_ (.tup [.str a,.str b]),q_ (.str (nmS b a (c.fdiv 8))),q_ (.str (nmS b a (c.fdiv 8+1+(c.fdiv 4).fmod 20))),none,none,none,none] ?_ ?_
 ·walk_at "dl";simp only[Re,g2];exact⟨zcO (uk aB aB),zcO (uk aB aB),b,a,_,rfl,rfl,l,q,zaA,rfl⟩
 have m:=uw (c.fdiv 4) 20 aB
 have k:=Aq (a:=b) (b:=a) (Gu (Dj (c.fdiv 8) ((c.fdiv 4).fmod 20) m.1 m.2));generalize nmS b a (c.fdiv 8)=f at *;generalize nmS b a (c.fdiv 8+1+(c.fdiv 4).fmod 20)=g at *;refine v8 (λU=>∃x y h t:Str,U=[q_ (.int c),q_ (.tup [.str a,.str b]),q_ (.str f),q_ (.str g),q_ (.str x),q_ (.str y),q_ (.str h),q_ (.str t)]) ?_ ?_
 ·walk_at "dl";refine xa (rngD 0 4) (λL r=>?_) (nmF a b (c.fdiv 16)) aB ?_ ?_
  ·walk_at "dl";exact⟨by decide,by decide,r⟩
  ·intro d hd;obtain⟨i,hi⟩:=zdO hd;obtain⟨u,rfl⟩:=rq hi;walk_at "p";walk_at "dl";simp only[Re,g2];exact⟨zcO (uk aB aB),a,b,_,rfl,rfl,q,l,zaA,rfl⟩
  rw[nm4];walk_at "dl";exact⟨_,_,_,_,rfl⟩
 rintro _ ⟨x,y,v,t,rfl⟩;walk_at "dl";have go:∀j,Good j->yz (.tup (j.map Fn.d))/\φ (dv (.tup (j.map Fn.d))):=λj hd=>⟨qz j,h j hd⟩;simp only[Ww];exact⟨λ_=>⟨_,_,_,_,_,_,rfl,go _ (U3 k)⟩,λ_=>⟨λ_=>⟨_,_,_,_,_,_,rfl,go _ (U1 k)⟩,λ_=>⟨λ_=>⟨_,_,_,_,_,_,rfl,go _ (U2 k)⟩,λ_=>⟨_,_,_,_,_,_,rfl,go _ (U4 k)⟩⟩⟩⟩
structure Hd where
 name:Str
 ps:List (Str×Str)
 gives:Str
 size:List Int
def hdD(h:Hd):D:=.tup [.str h.name,.tup (h.ps.map prD1),.tup [.str h.gives,lnD h.size]]
def Xc(a:List Hd):List (Str×List Int):=a.map λh=>(h.name,h.size)
structure OkHs(hs:List Hd):Prop where
 len:hs.length<=2
 nd:(hs.map Hd.name).Nodup
 ok:∀h∈hs,1<=h.ps.length/\h.ps.length<=2/\h.size≠[]/\rk h.size
theorem Q3:∀{hs:List Hd}{h:Hd},(hs.map Hd.name).Nodup->h∈hs->getA (Xc hs) h.name=some h.size
 |[],_,_,hm=>by cases hm
 |a::hs,h,nd,hm=>by
  obtain⟨e,d⟩:=zaR.mp nd;show(if a.name=h.name then some a.size else getA (Xc hs) h.name)=_
  rcases zam.mp hm with rfl|hm
  ·exact zaM rfl
  rw[zaJ (λz:a.name=h.name=>e (z▸zcB hm))];exact Q3 d hm
def OkHs.knows{a:List Hd}(o:OkHs a){h:Hd}(d:h∈a):C9 (Xc a) h.name:=⟨h.size,Q3 o.nd d,(o.ok h d).2.2.1,(o.ok h d).2.2.2⟩
def stsD(st:List (Str×Str)):D:=.lst (dsD st)
def hdsD(a:List Hd):D:=.lst (a.map hdD)
def Wu(a:List Hd)(st:List (Str×Str))(k:Nat)(e:Ex1):Prop:=e.vv (Xc a) (st.map Prod.fst)/\e.dep<=k
def tGE(n:Nat):FT:=λZ φ=>∃(m:Int)(st:List (Str×Str))(hs:List Hd)(sh:Str)(k:Nat),Z=[.fd m,stsD st,hdsD hs,.str sh,.int (k:Nat)]/\0<m/\st.length<=100/\OkHs hs/\k<n/\∀e,Wu hs st k e->φ (dv e.d)
def tGC(n:Nat):FT:=λZ φ=>∃(m:Int)(st:List (Str×Str))(hs:List Hd)(sh:Str)(k:Nat)(c:Int),Z=[.fd m,stsD st,hdsD hs,.str sh,.int ((k+1:Nat):Int),.int c]/\0<m/\st.length<=100/\OkHs hs/\k<n/\∀e,Wu hs st (k+1) e->φ (dv e.d)
def vd{n:Nat}{u t1 t2 r q:TD}{U:DE}{φ:EV->Prop}(m:Int)(st:List (Str×Str))(g:List Hd)(j:Str)(k:Nat)(x v:Kd)(z:Int)(h1:∀ L:EV->Prop,L (dv (.fd m))->u U L)(J:∀ L:EV->Prop,L ⟨x,stsD st⟩->t1 U L)(h2:∀ L:EV->Prop,L ⟨v,hdsD g⟩->t2 U L)(I:∀ L:EV->Prop,L (dv (.str j))->r U L)(G:∀ L:EV->Prop,L (dv (.int z))->q U L)(B:z=(k:Nat))(y:0<m)(hl:st.length<=100)(o:OkHs g)(D:k<n)(l:∀ e,Wu g st k e->φ (dv e.d)):Ye 5 (tGE n) (xv u (xv t1 (xv t2 (xv r (xv q aNil))))) U φ :=
 yb [dv (.fd m),⟨x,stsD st⟩,⟨v,hdsD g⟩,dv (.str j),dv (.int z)] (λL a=>zt _ _ h1 (λL a=>zt _ _ J (λL a=>zt _ _ h2 (λL a=>zt _ _ I (λL a=>zt _ [] G aA a) a) a) a) a) rfl ⟨m,st,g,j,k,by subst B;rfl,y,hl,o,D,l⟩
def Ml{ta tb:TD}{U:DE}{x y:Str}(J:∀ L:EV->Prop,L (dv (.str x))->ta U L)(h2:∀ L:EV->Prop,L (dv (.str y))->tb U L):∀L:Bool->Prop,L (decide (x=y))->tBo (d2 sEq ta tb) U L:=λL a=>J _ (h2 _ ⟨zaA,zaA,by
 show L (eqD (.str x) (.str y));have e:eqD (.str x) (.str y)=decide (x=y):=by
  rw[ql];by_cases e:x=y
  ·rw[e,zbC,zaX rfl]
  rw[zaS.mpr e,zaP e]
 rw[e];exact a⟩)
def z2v(h:Hd):okD 39 (hdD h):=λx e=>by
 simp only[zam,zaH,zbM]at e;rcases e with rfl|rfl|rfl
 ·exact zaA
 ·intro y d;obtain⟨q,_,rfl⟩:=zah.mp d;intro z a;simp only[zam,zaH,zbM]at a;rcases a with rfl|rfl <;> exact zaA
 intro y d;simp only[zam,zaH,zbM]at d;rcases d with rfl|rfl
 ·exact zaA
 intro z a;obtain⟨q,_,rfl⟩:=zah.mp a;exact zaA
def Ao(d:List Hd):okD 40 (hdsD d):=λx a=>by
 obtain⟨h,_,rfl⟩:=zah.mp a;exact z2v h
def Eg(l:List Str):okD 40 (.lst (l.map D.str)):=λx a=>by
 obtain⟨h,_,rfl⟩:=zah.mp a;exact zaA
def Rw:okD 40 (.lst []):=λx a=>by cases a
def Gj(l:List D):eqD (.lst l) (.lst [])=l.isEmpty:=by cases l <;> rfl
def Qe{ta:TD}{U:DE}{kd:Kd}(l:List D)(J:∀ L:EV->Prop,L ⟨kd,.lst l⟩->ta U L)(ok:okD 40 (.lst l)):∀L:Bool->Prop,L l.isEmpty->tBo (d2 sEq ta (dLst aNil)) U L:=λL a=>J _ ⟨rfl,rfl,ok,Rw,by
 show L (eqD (.lst l) (.lst []));rw[Gj];exact a⟩
def As{ta:TD}{U:DE}{kd:Kd}(l:List D)(J:∀ L:EV->Prop,L ⟨kd,.lst l⟩->ta U L)(ok:okD 40 (.lst l)):∀L:Bool->Prop,L (!l.isEmpty)->tBo (d2 sNe ta (dLst aNil)) U L:=λL a=>J _ ⟨rfl,rfl,ok,Rw,by
 show L (!eqD (.lst l) (.lst []));rw[Gj];exact a⟩
def Pc{α:Type}{l:List α}(d:l≠[])(c:Int):∃a,a∈l/\atI l (c.fmod (l.length:Int))=some a:=by
 have hl:0<l.length:=zeQ.mpr d;have m:=uw c (l.length:Int) aD
 have h:(c.fmod (l.length:Int)).toNat<l.length:=by omega
 exact⟨l[(c.fmod (l.length:Int)).toNat],zdZ h,Uz m.1 (by rw[zaf h])⟩
def tw{Z:List D}{i:Int}{d:D}{φ:EV->Prop}(e:atI Z i=some d)(h:φ (dv d)):sIxx (.lst Z) (.int i) φ:=by
 show match atI Z i with|some d=>φ (dv d)|none=>False
 rw[e];exact h
def selF(d:Str):D->Option D
 |.tup [a,b,.tup [.str g,s]]=>if g=d then some (.tup [a,b,.tup [.str g,s]]) else none
 |_=>none
theorem Od(a:Str):∀hs:List Hd,(hs.map hdD).filterMap (selF a)=(hs.filter λh=>decide (h.gives=a)).map hdD
 |[]=>rfl
 |h::hs=>by
  rw[zaG,zbL,zcE,Od a hs];have d:selF a (hdD h)=if h.gives=a then some (hdD h) else none:=rfl
  rw[d];by_cases e:h.gives=a
  ·rw[zaM e,zaX e];rfl
  rw[zaJ e,zaP e];rfl
def Wu.call{g:List Hd}{st:List (Str×Str)}{k:Nat}{h:Hd}{E:List Ex1}(o:OkHs g)(l:h∈g)(hl:E.length=h.ps.length)(j:∀ e∈E,Wu g st k e):∃e,Wu g st (k+1) e/\e.d=.tup [.str "call",.str h.name,.tup (E.map Ex1.d)]:=by
 obtain⟨l1,l2,_⟩:=o.ok h l
 match E,hl with
 |[a],_ =>
  obtain⟨v,d⟩:=j a zao;exact⟨.call1 h.name a,⟨⟨o.knows l,v⟩,zbK d⟩,rfl⟩
 |[a,b],_ =>
  obtain⟨v,d⟩:=j a zao;obtain⟨v2,d2⟩:=j b (zal _ zao);exact⟨.call2 h.name a b,⟨⟨o.knows l,v,v2⟩,zbK (zfJ.mpr ⟨d,d2⟩)⟩,rfl⟩
 |[],e=>rw[<- e]at l1;cases l1
 |_::_::_::_,e=>rw[<- e]at l2;simp at l2
def f9{n:Nat}(r:FD P w K mg base (2*n+2) "_law_grown_e" pC (tGE n))(X:AX P w K mg C G):FD P w K mg base (2*n+3) "_law_grown_call" pE (tGC n):=by
 obtain⟨f,fd,F,m⟩:=X.f "_law_grown_call" 22 aB
 have S:zv ["_law_feed","_law_stands","_law_told","_law_shape","_law_deep","_law_cell","_law_some","_law_one","_law_args"] pE (ze (top 22)):=by walk_at "f"
 walk_at "b";refine⟨_,(zh (vn (T:=["_law_one"]) (F:=["_law_shape"]) (js:=[3]) 6 S.nd (xu (za 2)) (show zx (ze (top 22)) _ _ _ from by walk_at "c") (.cons rfl .nil) aB (by walk_at "t") (yi aB) (x3 0) (λcl C fp s H=>(Zg (xn hu (zk hu (zk hu (za 0) zd) zd) (za 1)))) (λcl C fp s H=>(za 0)))
   (zh (wr (xn hu (za 6) (x9 zb)) (y0 (y9 (zu r hr.d (aO (za 0) (za 1) (za 2) (za 3) zd)))) x5)
   (zh (zy 7 S.nd (zk hu (za 6) (xg (za 5) (ue X.T.len (aJ (za 6))))))
   (zh (b3 (T:=["_law_name_here","_law_word"]) (F:=["_law_feed","_law_stands","_law_told","_law_deep"]) (js:=[0,1,2,4]) 8 S.nd (xu (zk hu (za 7) zd)) (show zx (ze (top 22)) _ _ _ from by walk_at "c") (.cons rfl (.cons rfl (.cons rfl (.cons rfl .nil)))) aB (by walk_at "t") (dh (xy yv (qe yv uj) (yi aB) (xy yv uj (yi aB) dj))) (uz 0 1) (λcl C fp s H=>w5) (λcl C fp s H=>(zu r hr.d (aO (za 2) (za 3) (za 4) (za 1) (ud (za 5) zd)))))
   (y0 (y9 (zg (aM zf (zk hu (za 7) zd) (uc X.T.tuple (aJ (za 8))))))))))),?_⟩
 obtain⟨m1,st,hs,u,k,c,rfl,Q,v,o,W,h⟩:=hT;refine zn (zp (xa (hs.map hdD) (λL a=>⟨zaA,a⟩) (selF u) (by rw[zLm];have:=o.len;omega) (λd hd=>?_) ?_))
 ·obtain⟨q,R,rfl⟩:=zah.mp hd;refine Z8 (Ml (x:=q.gives) (y:=u) aA aA _ ?_);exact⟨λe=>⟨zaA,zaM (zbU e)⟩,λe=>zaJ (zeD e)⟩
 rw[Od];refine⟨zaA,?_⟩
 dsimp only
 have g:∀q∈hs.filter (λh=>decide (h.gives=u)),q∈hs:=λq R=>(zcA.mp R).1;generalize hs.filter (λh=>decide (h.gives=u))=l at g ⊢;cases l with
 |nil =>
  refine kz (Qe (kd:=.own) [] aA Rw) (yd ?_);exact vd m1 st hs u 0 .val .val 0 aA aA aA aA aA rfl Q v o aD λe j=>⟨e.pure,h e ⟨j.1,zak j.2 (zbG _)⟩⟩
 |cons q l =>
  refine tm (Qe (kd:=.own) ((q::l).map hdD) aA (Ao (q::l))) ?_;obtain⟨d0,N,ds⟩:=Pc (l:=(q::l).map hdD) aE c
  obtain⟨I,h1,rfl⟩:=zah.mp N;have B:=g I h1;refine zn (zp (yj (dO (.lst ((q::l).map hdD))) (dv (.int (c.fmod ((((q::l).map hdD).length:Nat):Int)))) aA (λL a=>⟨by simp;omega,a⟩) (tw ds ⟨zaA,?_⟩)))
  dsimp only
  refine zn (zp (Uo (I.ps.map prD1) (λL a=>⟨zaA,a⟩) (λi es=>∃E:List Ex1,es=E.map Ex1.d/\E.length=i/\∀e∈E,Wu hs st k e) (by rw[zLm];have:=(o.ok I B).2.1;omega) ⟨[],rfl,rfl,λ_ h=>(by cases h)⟩ ?_ ?_))
  ·rintro i d es hd _ ⟨E,rfl,D,M⟩;rw[zai]at hd;obtain⟨p,_,rfl⟩:=zar.mp hd;refine qf ⟨λ_=>vd m1 st hs p.2 k .val .val (((k+1:Nat):Int)-1) aA aA aA aA aA aD Q v o W λe j=>⟨zaA,E++[e],by rw[zMa];rfl,by rw[zLa,D];rfl,λe2 h2=>?_⟩,λz=>nomatch z⟩
   rcases zas.mp h2 with h2|h2
   ·exact M e2 h2
   rw[zaN.mp h2];exact j
  rintro es ⟨E,rfl,D,M⟩;rw[zLm]at D;obtain⟨e,j,Y⟩:=Wu.call o B D M;refine⟨zaA,?_⟩
  dsimp only
  have O:=e.pure;have V:=h e j;rw[Y]at O V;exact yd ⟨rfl,rfl,O,V⟩
def Zq{t u:TDb}{U:DE}(a b:Bool)(j:∀ L:Bool->Prop,L a->t U L)(g:∀ L:Bool->Prop,L b->u U L):∀L:Bool->Prop,L (a&&b)->bAnd t u U L:=λL d=>j _ ⟨λe=>by subst e;exact g L d,λe=>by subst e;exact d⟩
def Eb{t u:TDb}{U:DE}(a b:Bool)(j:∀ L:Bool->Prop,L a->t U L)(g:∀ L:Bool->Prop,L b->u U L):∀L:Bool->Prop,L (a || b)->bOr t u U L:=λL d=>j _ ⟨λe=>by subst e;exact d,λe=>by subst e;exact g L d⟩
def c8{tc:TDb}{t u:TDS}{U:DE}{ds:DZ}(b:Bool)(h:∀ L:Bool->Prop,L b->tc U L)(J:b=true->t U {ds with nx:=λρ'=>u ρ' ds})(h2:b=false->u U ds):sSeq (sIf tc t sNil) u U ds:=h _ ⟨J,h2⟩
def c5{ta tb:TD}{U:DE}{x y:Int}(J:∀ L:EV->Prop,L (dv (.int x))->ta U L)(h2:∀ L:EV->Prop,L (dv (.int y))->tb U L):∀L:Bool->Prop,L (decide (x=y))->tBo (d2 sEq ta tb) U L:=λL a=>J _ (h2 _ ⟨zaA,zaA,by
 show L (eqD (.int x) (.int y));have e:eqD (.int x) (.int y)=decide (x=y):=by
  rw[qm];by_cases e:x=y
  ·rw[e,zbC,zaX rfl]
  rw[zaS.mpr e,zaP e]
 rw[e];exact a⟩)
def ve{te:TD}{t:TDs}{U:DE}{φ:List EV->Prop}(h:te U λr=>t U λa=>φ (r::a)):xv te t U φ:=h
def Zk{t:TDs}{U:DE}{φ:EV->Prop}(h:t U λa=>d6 a=true/\Nat.ble a.length 1000=true/\φ (dv (.tup (a.map EV.d)))):dTup t U φ:=h
def qq{te:TD}{U:DE}{φ:EV->Prop}(r:EV)(h:∀ L:EV->Prop,L r->te U L)(a:φ r):te U φ:=h _ a
def D8(d:Str):D->Option D
 |.tup [a,.str g]=>if g=d then some a else none
 |_=>none
theorem Q7(a:Str):∀st:List (Str×Str),(dsD st).filterMap (D8 a)=((st.filter λp=>decide (p.2=a)).map Prod.fst).map D.str
 |[]=>rfl
 |p::st=>by
  have d:=Q7 a st;unfold dsD at d ⊢;rw[zaG,zbL,zcE,d];have g:D8 a (prD1 p)=if p.2=a then some (D.str p.1) else none:=rfl
  rw[g];by_cases e:p.2=a
  ·rw[zaM e,zaX e];rfl
  rw[zaJ e,zaP e];rfl
def z2p(c:Int):∃s:Str,(s = "add"\/s = "sub")/\atI [D.str "add",D.str "sub"] (c.fmod 2)=some (.str s):=by
 obtain⟨d,hd,e⟩:=Pc (l:=[D.str "add",D.str "sub"]) aE c
 simp only[zam,zaH,zbM]at hd;rcases hd with rfl|rfl
 ·exact⟨_,.inl rfl,e⟩
 exact⟨_,.inr rfl,e⟩
def Y9{n:Nat}(O:FD P w K mg base (2*n+3) "_law_grown_call" pE (tGC n))(u:FD P w K mg base (2*n+2) "_law_grown_e" pC (tGE n))(X:AX P w K mg C G):FD P w K mg base (2*n+4) "_law_grown_e" pC (tGE (n+1)):=by
 obtain⟨f,fd,F,m⟩:=X.f "_law_grown_e" 23 aB
 have S:zv ["_law_feed","_law_stands","_law_told","_law_shape","_law_deep","_law_cell","_law_here","_law_way","_law_one","_law_other"] pC (ze (top 23)):=by walk_at "f"
 walk_at "b";refine⟨_,(zh (zy 5 S.nd (zu (t8 X) hr.d (aJ (za 0))))
   (zh (vn (T:=["_law_name_here","_law_word"]) (F:=["_law_shape"]) (js:=[3]) 6 S.nd (xu (za 1)) (show zx (ze (top 23)) _ _ _ from by walk_at "c") (.cons rfl .nil) aB (by walk_at "t") (dh (xy yv (qe yv uj) (yi aB) (xy yv uj (yi aB) dj))) (uz 0 1) (λcl C fp s H=>(Zg (xn hu (za 1) (za 2)))) (λcl C fp s H=>(za 0)))
   (zh (zy 7 S.nd (xg (za 5) zd))
   (zh (zy 5 S.nd (rb (za 5) zd))
   (zh (wr (EW.et (Ze (Wg hu (za 6) (x9 zb)) (Zd (EW.et (jk (z0z (za 7) zd) (dz (xn hu (za 4) zd))))))) (y0 (y9 (zg (aK zf (zk hu (za 6) (xg (za 5) (ue X.T.len (aJ (za 6))))))))) x5)
   (zh (wr (EW.et (Ze (Sq (za 4) zd) (Zd (Sq (za 7) zd)))) (y0 (y9 (zu O hr.d (z9 (za 0) (aO (za 1) (za 2) (za 3) (za 4) (za 5)))))) x5)
   (zh (wr (EW.et (Ze (xn hu (za 3) zf) (Ze (Sq (za 4) zd) (Zd (xn hu (za 7) zd))))) (zh (zy 8 S.nd (zu u hr.d (aO (za 0) (za 1) (za 2) zf (ud (za 4) zd))))
    (y0 (y9 (zg (aM (zk hu (x9 (aK zf zf)) (xg (za 5) zd)) (za 8) (zu u hr.d (aO (za 0) (za 1) (za 2) zf (ud (za 4) zd)))))))) x5)
   (zh (wr (xn hu (za 3) zf) (y0 (y9 (zg (aK zf (zu (We X) hr.d (aJ (za 5))))))) x5)
   (zh (wr (EW.et (Ze (xn hu (za 3) zf) (Ze (Sq (za 4) zd) (Zd (Sq (za 7) zd))))) (zh (zy 8 S.nd (zu u hr.d (aO (za 0) (za 1) (za 2) zf (ud (za 4) zd))))
    (y0 (y9 (zg (aM zf (za 8) (zu u hr.d (aO (za 0) (za 1) (za 2) zf (ud (za 4) zd)))))))) x5)
   (zh (wr (xn hu (za 3) zf) (y0 (y9 (zg (aJ zf)))) x5)
   (zh (wr (EW.et (Ze (Sq (za 4) zd) (Zd (Sq (za 7) zd)))) (zh (zy 8 S.nd (zu u hr.d (aO (za 0) (za 1) (za 2) zf (ud (za 4) zd))))
    (zh (zy 9 S.nd (zu u hr.d (aO (za 0) (za 1) (za 2) zf (ud (za 4) zd))))
    (y0 (y9 (zg (aN zf (za 8) (za 9) (zu u hr.d (aO (za 0) (za 1) (za 2) zf (ud (za 4) zd))))))))) x5)
   (y0 (y9 (zg (aJ zf))))))))))))))),?_⟩
 obtain⟨m1,st,B,v,k,rfl,I,g,o,hk,h⟩:=hT;refine zn (zp (yb [dv (.fd m1)] (λL a=>zt _ [] aA aA a) rfl ⟨I,λc c0 c1=>⟨zaA,?_⟩⟩))
 dsimp only
 refine zn (zp (xa (dsD st) (λL a=>⟨zaA,a⟩) (D8 v) (by unfold dsD;rw[zLm];omega) (λd hd=>?_) ?_))
 ·obtain⟨q,hq,rfl⟩:=zah.mp hd;refine qf (Ml (x:=q.2) (y:=v) aA aA _ ?_);exact⟨λe=>⟨zaA,zaM (zbU e)⟩,λe=>zaJ (zeD e)⟩
 rw[Q7];refine⟨zaA,?_⟩
 dsimp only
 have h1:∀x∈(st.filter λp=>decide (p.2=v)).map Prod.fst,x∈st.map Prod.fst:=λx Q=>by
  obtain⟨p,Y,rfl⟩:=zah.mp Q;exact zcB (zcA.mp Y).1
 generalize (st.filter λp=>decide (p.2=v)).map Prod.fst=l at h1 ⊢;refine zn (zp (show d2 sMod _ _ _ _ from⟨(aB:(6:Int)≠0),zaA,?_⟩))
 dsimp only
 refine zn (zp (show d2 sFd _ _ _ _ from⟨zcO (uk aB aB),zaA,?_⟩))
 dsimp only
 generalize c.fmod 6=w1;generalize c.fdiv 6=M;have go:∀e,Wu B st k e->yz e.d/\φ (dv e.d):=λe ds=>⟨e.pure,h e ds⟩;refine(show sSeq _ _ ([q_ (.fd m1),q_ (stsD st),q_ (hdsD B),q_ (.str v),q_ (.int (k:Nat)),q_ (.int M),Q_ (.lst (l.map D.str)),q_ (.int w1),none,none]) _ from ?_);refine c8 (!(l.map D.str).isEmpty&&(decide (w1<2) || decide ((k:Int)=0))) (Zq _ _ (As (kd:=.own) (l.map D.str) aA (Eg l)) (Eb _ _ aA (c5 aA aA))) (λr=>?_) (λr=>?_)
 ·have hl:l.map D.str≠[]:=λz=>by
   rw[z]at r;cases r
  obtain⟨d0,V,W⟩:=Pc hl M;obtain⟨x,Q,rfl⟩:=zah.mp V;refine yd (zt (dv (.str "var")) [dv (.str x)] aA (λL a=>zt _ [] (λL a=>yj (dO (.lst (l.map D.str))) (dv (.int (M.fmod (((l.map D.str).length:Nat):Int)))) aA (λL a=>⟨?_,a⟩) (tw W a)) aA a) ⟨rfl,rfl,go (.var x) ⟨h1 x Q,zbG _⟩⟩);have:=zeQ.mpr hl;show(((l.map D.str).length:Nat):Int)≠0;omega
 refine c8 (decide (0<(k:Int))&&decide (3<w1)) (Zq _ _ aA aA) (λr=>?_) (λa8=>?_)
 ·have N:0<k:=by
   rw[zbI]at r;have:=zbU r.1;omega
  obtain⟨k,rfl⟩:∃j,k=j+1:=⟨k-1,by omega⟩
  refine yd (yb [dv (.fd m1),dv (stsD st),dv (hdsD B),dv (.str v),dv (.int ((k+1:Nat):Int)),dv (.int M)] aA rfl ⟨m1,st,B,v,k,M,rfl,I,g,o,by omega,go⟩)
 refine c8 (decide (v = "num")&&(decide (0<(k:Int))&&decide (w1=3))) (Zq _ _ (yf _ rfl aA) (Zq _ _ aA (c5 aA aA))) (λr=>?_) (λa7=>?_)
 ·have N:0<k:=by
   rw[zbI,zbI]at r;have:=zbU r.2.1;omega
  obtain⟨k,rfl⟩:∃j,k=j+1:=⟨k-1,by omega⟩
  refine zn (zp (vd m1 st B "num" k .val .val (((k+1:Nat):Int)-1) aA aA aA aA aA aD I g o aD λe1 g1=>⟨zaA,?_⟩))
  dsimp only
  obtain⟨s,R,W⟩:=z2p M;refine yd (Zk (ve (yj (df (.lst [.str "add",.str "sub"])) (dv (.int (M.fmod 2))) (λL a=>⟨rfl,rfl,a⟩) (λL a=>⟨(aB:(2:Int)≠0),a⟩) (tw W (ve (qq (dv e1.d) aA (ve (vd m1 st B "num" k .val .val (((k+1:Nat):Int)-1) aA aA aA aA aA aD I g o aD λe2 g2=>⟨rfl,rfl,go (.op s e1 e2) ⟨⟨.inr R,g1.1,g2.1⟩,zbK (zfJ.mpr ⟨g1.2,g2.2⟩)⟩⟩))))))))
 refine c8 (decide (v = "num")) (yf _ rfl aA) (λr=>?_) (λa6=>?_)
 ·refine yd (Zk (ve (qq (dv (.str "num")) aA (ve (yb [dv (.int M)] aA rfl (λi _=>⟨rfl,rfl,go (.num i) ⟨zaA,zbG _⟩⟩))))))
 refine c8 (decide (v = "list")&&(decide (0<(k:Int))&&decide (0<w1))) (Zq _ _ (yf _ rfl aA) (Zq _ _ aA aA)) (λr=>?_) (λa4=>?_)
 ·have N:0<k:=by
   rw[zbI,zbI]at r;have:=zbU r.2.1;omega
  obtain⟨k,rfl⟩:∃j,k=j+1:=⟨k-1,by omega⟩
  refine zn (zp (vd m1 st B "num" k .val .val (((k+1:Nat):Int)-1) aA aA aA aA aA aD I g o aD λe1 g1=>⟨zaA,?_⟩))
  dsimp only
  exact yd (Zk (ve (qq (dv (.str "cons")) aA (ve (qq (dv e1.d) aA (ve (vd m1 st B "list" k .val .val (((k+1:Nat):Int)-1) aA aA aA aA aA aD I g o aD λe2 g2=>⟨rfl,rfl,go (.op "cons" e1 e2) ⟨⟨.inl rfl,g1.1,g2.1⟩,zbK (zfJ.mpr ⟨g1.2,g2.2⟩)⟩⟩)))))))
 refine c8 (decide (v = "list")) (yf _ rfl aA) (λr=>?_) (λa3=>?_)
 ·exact yd ⟨rfl,rfl,go .nil ⟨zaA,zbG _⟩⟩
 refine c8 (decide (0<(k:Int))&&decide (0<w1)) (Zq _ _ aA aA) (λr=>?_) (λa0=>?_)
 ·have N:0<k:=by
   rw[zbI]at r;have:=zbU r.1;omega
  obtain⟨k,rfl⟩:∃j,k=j+1:=⟨k-1,by omega⟩
  refine zn (zp (vd m1 st B "tree" k .val .val (((k+1:Nat):Int)-1) aA aA aA aA aA aD I g o aD λe1 g1=>⟨zaA,?_⟩))
  dsimp only
  refine zn (zp (vd m1 st B "num" k .val .val (((k+1:Nat):Int)-1) aA aA aA aA aA aD I g o aD λe2 g2=>⟨zaA,?_⟩))
  dsimp only
  exact yd (Zk (ve (qq (dv (.str "node")) aA (ve (qq (dv e1.d) aA (ve (qq (dv e2.d) aA (ve (vd m1 st B "tree" k .val .val (((k+1:Nat):Int)-1) aA aA aA aA aA aD I g o aD λe3 g3=>⟨rfl,rfl,go (.node e1 e2 e3) ⟨⟨g1.1,g2.1,g3.1⟩,zbK (zfJ.mpr ⟨g1.2,zfJ.mpr ⟨g2.2,g3.2⟩⟩)⟩⟩)))))))))
 exact yd ⟨rfl,rfl,go .leaf ⟨zaA,zbG _⟩⟩
def qk(X:AX P w K mg C G):∀n:Nat,FD P w K mg base (2*n+2) "_law_grown_e" pC (tGE n):=by
 obtain⟨f,fd,F,m⟩:=X.f "_law_grown_e" 23 aB
 intro n
 induction n with
 |zero =>
  have S:zv ["_law_feed","_law_stands","_law_told","_law_shape","_law_deep","_law_cell","_law_here","_law_way","_law_one","_law_other"] pC (ze (top 23)):=by walk_at "f"
  refine u9 F S (F.binds (by walk_at "3")) m λqZ A outer s H xs Z φ hr hl hT=>?_
  obtain⟨_,_,_,_,_,_,_,_,_,h,_⟩:=hT;exact absurd h (zdT _)
 |succ n ih=>exact Y9 (f9 ih X) ih X
def Ex1.vv.sub{told:List (Str×List Int)}{ns g:List Str}(d:∀ x∈ns,x∈g):∀{e:Ex1},e.vv told ns->e.vv told g
 |.num _,_=>trivial
 |.var _,h=>d _ h
 |.nil,_=>trivial
 |.leaf,_=>trivial
 |.op _ _ _,⟨h,a,b⟩=>⟨h,a.sub d,b.sub d⟩
 |.node _ _ _,⟨a,b,c⟩=>⟨a.sub d,b.sub d,c.sub d⟩
 |.call1 _ _,⟨h,a⟩=>⟨h,a.sub d⟩
 |.call2 _ _ _,⟨h,a,b⟩=>⟨h,a.sub d,b.sub d⟩
def ki{ns ns':List Str}(d:∀ x∈ns,x∈ns')(y:Str):∀x∈y::ns,x∈y::ns':=λx a=>(zam.mp a).elim (λe=>e▸zao) λh=>zal _ (d x h)
theorem Bo.vv.sub{told:List (Str×List Int)}:∀{b:Bo}{ns ns':List Str},(∀x∈ns,x∈ns')->b.vv told ns->b.vv told ns'
 |.give _,_,_,hs,h=>⟨h.1.sub hs,h.2⟩
 |.lett x _ _,_,_,hs,h=>⟨⟨h.1.1.sub hs,h.1.2⟩,h.2.sub (ki hs x)⟩
 |.less _ _ _ _,_,_,hs,h=>⟨⟨h.1.1.sub hs,h.1.2⟩,⟨h.2.1.1.sub hs,h.2.1.2⟩,h.2.2.1.sub hs,h.2.2.2.sub hs⟩
 |.list _ _ a b _,_,_,hs,h=>⟨hs _ h.1,h.2.1.sub hs,h.2.2.sub (ki (ki hs b) a)⟩
 |.tree _ _ a b c _,_,_,hs,h=>⟨hs _ h.1,h.2.1.sub hs,h.2.2.sub (ki (ki (ki hs c) b) a)⟩
def Pw(a:List Hd)(st:List (Str×Str))(k:Nat)(b:Bo):Prop:=b.vv (Xc a) (st.map Prod.fst)/\b.dep<=k
def Xv{st a:List (Str×Str)}:∀x∈(st++a).map Prod.fst,x∈a.map Prod.fst++st.map Prod.fst:=λx d=>by
 rw[zMa]at d;rcases zas.mp d with d|d
 ·exact zaE _ d
 exact zaI _ d
def mkD(a b:Str):D:=.tup [.str a,.str b]
def gvD(g:Str)(sz:List Int):D:=.tup [.str g,lnD sz]
def tGB(n:Nat):FT:=λZ φ=>∃(m:Int)(st:List (Str×Str))(hs:List Hd)(gv:Str)(sz:List Int)(k:Nat)(a b:Str),Z=[.fd m,stsD st,hdsD hs,gvD gv sz,.int (k:Nat),mkD a b]/\0<m/\st.length+3*k<=90/\OkHs hs/\a.length<=3/\b.length<=3/\k<n/\∀bd,Pw hs st k bd->φ (dv bd.d)
def tGO(n:Nat):FT:=λZ φ=>∃(m:Int)(st:List (Str×Str))(hs:List Hd)(gv:Str)(sz:List Int)(k:Nat)(a b:Str),Z=[.fd m,stsD st,hdsD hs,gvD gv sz,.int ((k+1:Nat):Int),mkD a b]/\0<m/\st.length+3*(k+1)<=90/\OkHs hs/\a.length<=3/\b.length<=3/\k<n/\∀bd,Pw hs st (k+1) bd->φ (dv bd.d)
def j6{n:Nat}{v t1 t2 u r q:TD}{U:DE}{φ:EV->Prop}(m:Int)(st:List (Str×Str))(g:List Hd)(l:Str)(sz:List Int)(k:Nat)(a b:Str)(y x:Kd)(z:Int)(Q:∀ L:EV->Prop,L (dv (.fd m))->v U L)(J:∀ L:EV->Prop,L ⟨y,stsD st⟩->t1 U L)(h2:∀ L:EV->Prop,L ⟨x,hdsD g⟩->t2 U L)(O:∀ L:EV->Prop,L (dv (gvD l sz))->u U L)(N:∀ L:EV->Prop,L (dv (.int z))->r U L)(M:∀ L:EV->Prop,L (dv (mkD a b))->q U L)(D:z=(k:Nat))(B:0<m)(hl:st.length+3*k<=90)(o:OkHs g)(h1:a.length<=3)(I:b.length<=3)(G:k<n)(j:∀ bd,Pw g st k bd->φ (dv bd.d)):Ye 6 (tGB n) (xv v (xv t1 (xv t2 (xv u (xv r (xv q aNil)))))) U φ :=
 yb [dv (.fd m),⟨y,stsD st⟩,⟨x,hdsD g⟩,dv (gvD l sz),dv (.int z),dv (mkD a b)] (λL e=>zt _ _ Q (λL e=>zt _ _ J (λL e=>zt _ _ h2 (λL e=>zt _ _ O (λL e=>zt _ _ N (λL e=>zt _ [] M aA e) e) e) e) e) e) rfl ⟨m,st,g,l,sz,k,a,b,by subst D;rfl,B,hl,o,h1,I,G,j⟩
def opF:D->Option D
 |.tup [a,.str g]=>if g = "num" then none else some (.tup [a,.str g])
 |_=>none
theorem G2:∀st:List (Str×Str),(dsD st).filterMap opF=dsD (st.filter λp:Str×Str=>!decide (p.2=("num" : Str)))
 |[]=>rfl
 |p::st=>by
  have a:=G2 st;unfold dsD at a ⊢;rw[zaG,zbL,zcE,a];have d:opF (prD1 p)=if p.2=("num" : Str) then none else some (prD1 p):=rfl
  rw[d];by_cases e:p.2=("num" : Str)
  ·rw[zaM e,zaX e];rfl
  rw[zaJ e,zaP e];rfl
def Ak(l:List (Str×Str)):okD 40 (.lst (dsD l)):=λx d=>by
 obtain⟨p,_,rfl⟩:=zah.mp d;intro y a;simp only[zam,zaH,zbM]at a;rcases a with rfl|rfl <;> exact zaA
def nm3(a b:Str)(c:Int):(rngD 0 3).filterMap (nmF a b c)=[.str (nmS a b (c+(0+(0:Nat)))),.str (nmS a b (c+(0+(1:Nat)))),.str (nmS a b (c+(0+(2:Nat))))]:=rfl
def En{ta:TD}{U:DE}{x y:Str}(J:∀ L:EV->Prop,L (dv (.str x))->ta U L):∀L:Bool->Prop,L (!decide (x=y))->tBo (d2 sNe ta (dC (.str y))) U L:=λL a=>J _ ⟨zaA,zaA,by
 show L (!eqD (.str x) (.str y));have e:eqD (.str x) (.str y)=decide (x=y):=by
  rw[ql];by_cases e:x=y
  ·rw[e,zbC,zaX rfl]
  rw[zaS.mpr e,zaP e]
 rw[e];exact a⟩
def f6{n:Nat}(v:FD P w K mg base (2*n+9) "_law_grown_body" pA (tGB n))(X:AX P w K mg C G):FD P w K mg base (2*n+10) "_law_grown_open" pA (tGO n):=by
 obtain⟨f,fd,F,m⟩:=X.f "_law_grown_open" 24 aB
 have S:zv ["_law_feed","_law_stands","_law_told","_law_gives","_law_deep","_law_mark_here","_law_cell","_law_some","_law_name_here","_law_word","_law_fresh","_law_empty","_law_more","_law_full"] pA (ze (top 24)):=by walk_at "f"
 walk_at "b";refine⟨_,(zh (zy 6 S.nd (zu (t8 X) hr.d (aJ (za 0))))
   (zh (vn (T:=["_law_name_here","_law_word"]) (F:=[]) (js:=[]) 7 S.nd (xu (za 1)) (show zx (ze (top 24)) _ _ _ from by walk_at "c") .nil aB (by walk_at "t") (dh (xy yv (qe yv uj) (yi aB) (xy yv uj (yi aB) dj))) (uz 0 1) (λcl C fp s H=>(Zg (Wg hu (za 1) zf))) (λcl C fp s H=>(zg (aK (za 0) (za 1)))))
   (zh (wr (xn hu (za 7) (x9 zb)) (y0 (y9 (zg (aK zf (zu (qk X 3) hr.d (aO (za 0) (za 1) (za 2) (zk hu (za 3) zd) zd)))))) x5)
   (zh (B6 (zk hu (za 7) (xg (za 6) (ue X.T.len (aJ (za 7))))) (ww (K0:=K) (n:=2) (by rfl) (by rfl) (y7 (zw (i:=8) S.nd rfl aG) (y7 (zw (i:=9) S.nd rfl aG) wj))) (uz 8 9))
   (zh (vn (T:=["_law_k"]) (F:=["_law_mark_here","_law_stands"]) (js:=[5,1]) 10 S.nd (ub X.T.range (aJ zd)) (show zx (ze (top 24)) _ _ _ from by walk_at "c") (.cons rfl (.cons rfl .nil)) aB (by walk_at "t") (yi aB) (x3 0) (λcl C fp s H=>w5) (λcl C fp s H=>(zu (wm X) hr.d (aK (za 1) (yg (ue X.T.len (aJ (za 2))) (za 0))))))
   (zh (zy 11 S.nd (zu v hr.d (z9 (za 0) (aO (za 1) (za 2) (za 3) (ud (za 4) zd) (za 5)))))
   (zh (wr (xn hu (za 9) zf) (zh (zy 12 S.nd (yg (za 1) (x9 (aK (zg (aK (zk hu (za 10) zd) zf)) (zg (aK (zk hu (za 10) zd) zf))))))
    (zh (zy 13 S.nd (zu v hr.d (z9 (za 0) (aO (za 12) (za 2) (za 3) (ud (za 4) zd) (za 5)))))
    (y0 (y9 (zg (z9 zf (aO (za 8) (za 11) (zk hu (za 10) zd) (zk hu (za 10) zd) (za 13)))))))) x5)
   (zh (zy 12 S.nd (yg (za 1) (x9 (aM (zg (aK (zk hu (za 10) zd) zf)) (zg (aK (zk hu (za 10) zd) zf)) (zg (aK (zk hu (za 10) zd) zf))))))
   (zh (zy 13 S.nd (zu v hr.d (z9 (za 0) (aO (za 12) (za 2) (za 3) (ud (za 4) zd) (za 5)))))
   (y0 (y9 (zg (z9 zf (z9 (za 8) (aO (za 11) (zk hu (za 10) zd) (zk hu (za 10) zd) (zk hu (za 10) zd) (za 13)))))))))))))))),?_⟩
 obtain⟨m1,st,D,Q,sz,k,a,b,rfl,B,a0,o,O,N,hk,h⟩:=hT;have go:∀y,Pw D st (k+1) y->yz y.d/\φ (dv y.d):=λy hd=>⟨y.pure,h y hd⟩;refine zn (zp (yb [dv (.fd m1)] (λL g=>zt _ [] aA aA g) rfl ⟨B,λc c0 c1=>⟨zaA,?_⟩⟩))
 dsimp only
 refine zn (zp (xa (dsD st) (λL g=>⟨zaA,g⟩) opF (by unfold dsD;rw[zLm];omega) (λd hd=>?_) ?_))
 ·obtain⟨q,hq,rfl⟩:=zah.mp hd;refine qf (En (x:=q.2) aA _ ?_);refine⟨λe=>⟨rfl,rfl,zaA,?_⟩,λe=>?_⟩
  ·exact zaJ λz=>by rw[zaX z]at e;cases e
  exact zaM (Decidable.byContradiction λz=>by rw[zaP z]at e;cases e)
 rw[G2];refine⟨zaA,?_⟩
 dsimp only
 have u:∀p∈st.filter (λp:Str×Str=>!decide (p.2=("num" : Str))),p.1∈st.map Prod.fst:=λp hp=>zcB (zcA.mp hp).1;generalize st.filter (λp:Str×Str=>!decide (p.2=("num" : Str)))=l at u ⊢;by_cases hl:l=[]
 ·subst hl;refine kz (Qe (kd:=.own) [] aA Rw) (yd (Zk (ve (qq (dv (.str "give")) aA (ve (vd m1 st D Q 2 .val .val 2 aA aA aA aA aA rfl B aD o aB λe he=>⟨rfl,rfl,go (.give e) ⟨⟨he.1,zbA he.2 aB⟩,zbG _⟩⟩))))))
 have W:dsD l≠[]:=λz=>hl (List.map_eq_nil_iff.mp z);have ie:(dsD l).isEmpty=false:=by
  cases e:dsD l with
  |nil=>exact absurd e W
  |cons _ _=>rfl
 refine tm (λL g=>Qe (kd:=.own) (dsD l) aA (Ak l) L (by rw[ie];exact g)) ?_
 obtain⟨d0,Y,ea⟩:=Pc W c;obtain⟨h1,V,rfl⟩:=zah.mp Y;have hx:=u h1 V;refine zn (show sUn _ _ _ _ from yj (dO (.lst (dsD l))) (dv (.int (c.fmod (((dsD l).length:Nat):Int)))) aA (λL g=>⟨?_,g⟩) (tw ea ⟨zaA,qf ?_⟩))
 ·have:=zeQ.mpr W;show(((dsD l).length:Nat):Int)≠0;omega
 dsimp only
 refine zn (zp (xa (rngD 0 3) (λL g=>⟨by decide,by decide,g⟩) (nmF a b (((dsD st).length:Nat):Int)) aB (λd hd=>?_) ?_))
 ·obtain⟨i,hi⟩:=zdO hd;obtain⟨a3,rfl⟩:=rq hi;refine Z8 ⟨λ_=>yb [dv (mkD a b),dv (.int ((((dsD st).length:Nat):Int)+(0+(i:Int))))] aA rfl ⟨a,b,_,rfl,rfl,O,N,zaA,rfl⟩,λz=>nomatch z⟩
 rw[nm3];generalize nmS a b ((((dsD st).length:Nat):Int)+(0+(0:Nat)))=r;generalize nmS a b ((((dsD st).length:Nat):Int)+(0+(1:Nat)))=j;generalize nmS a b ((((dsD st).length:Nat):Int)+(0+(2:Nat)))=M;refine⟨zaA,?_⟩
 dsimp only
 refine zn (zp (j6 m1 st D Q sz k a b .val .val (((k+1:Nat):Int)-1) aA aA aA aA aA aA aD B aD o O N aD λbe R=>⟨zaA,?_⟩))
 dsimp only
 refine c8 (decide (h1.2 = "list")) (yf _ rfl aA) (λhw=>?_) (λhw=>?_)
 ·refine zn (zp (yj (dv (stsD st)) (df (wayD [(r,"num"),(j,"list")])) aA (λL g=>⟨rfl,rfl,rfl,rfl,rfl,rfl,g⟩) (t9 (a:=st) (b:=[(r,"num"),(j,"list")]) (by simp only[zLc,zLn];omega) ⟨zaA,?_⟩)))
  dsimp only
  refine zn (zp (j6 m1 (st++([(r,"num"),(j,"list")]:List (Str×Str))) D Q sz k a b .own .val (((k+1:Nat):Int)-1) aA aA aA aA aA aA aD B (by simp only[zLa,zLc,zLn];omega) o O N aD λds I=>⟨zaA,?_⟩))
  dsimp only
  exact yd ⟨rfl,rfl,go (.list h1.1 be r j ds) ⟨⟨hx,R.1,I.1.sub Xv⟩,zbK (zfJ.mpr ⟨R.2,I.2⟩)⟩⟩
 refine zn (zp (yj (dv (stsD st)) (df (wayD [(r,"tree"),(j,"num"),(M,"tree")])) aA (λL g=>⟨rfl,rfl,rfl,rfl,rfl,rfl,rfl,rfl,g⟩) (t9 (a:=st) (b:=[(r,"tree"),(j,"num"),(M,"tree")]) (by simp only[zLc,zLn];omega) ⟨zaA,?_⟩)))
 dsimp only
 refine zn (zp (j6 m1 (st++([(r,"tree"),(j,"num"),(M,"tree")]:List (Str×Str))) D Q sz k a b .own .val (((k+1:Nat):Int)-1) aA aA aA aA aA aA aD B (by simp only[zLa,zLc,zLn];omega) o O N aD λds I=>⟨zaA,?_⟩))
 dsimp only
 exact yd ⟨rfl,rfl,go (.tree h1.1 be r j M ds) ⟨⟨hx,R.1,I.1.sub Xv⟩,zbK (zfJ.mpr ⟨R.2,I.2⟩)⟩⟩
def Bw(c:Int):∃s:Str,atI [D.str "num",D.str "list",D.str "tree"] (c.fmod 3)=some (.str s):=by
 obtain⟨d,hd,e⟩:=Pc (l:=[D.str "num",D.str "list",D.str "tree"]) aE c
 simp only[zam,zaH,zbM]at hd;rcases hd with rfl|rfl|rfl
 ·exact⟨_,e⟩
 ·exact⟨_,e⟩
 exact⟨_,e⟩
def fg{n:Nat}(I:FD P w K mg base (2*n+10) "_law_grown_open" pA (tGO n))(r:FD P w K mg base (2*n+9) "_law_grown_body" pA (tGB n))(X:AX P w K mg C G):FD P w K mg base (2*n+11) "_law_grown_body" pA (tGB (n+1)):=by
 obtain⟨f,fd,F,m⟩:=X.f "_law_grown_body" 25 aB
 have S:zv ["_law_feed","_law_stands","_law_told","_law_gives","_law_deep","_law_mark_here","_law_cell","_law_way","_law_one","_law_other","_law_body","_law_word","_law_name_here","_law_more"] pA (ze (top 25)):=by walk_at "f"
 walk_at "b";refine⟨_,(zh (zy 6 S.nd (zu (t8 X) hr.d (aJ (za 0))))
   (zh (zy 7 S.nd (xg (za 6) zd))
   (zh (wr (EW.et (jk (xn hu (za 4) zd) (jk (xn hu (za 7) zd) (dz (xn hu (za 7) zd))))) (y0 (y9 (zg (aK zf (zu (qk X 3) hr.d (aO (za 0) (za 1) (za 2) (zk hu (za 3) zd) zd)))))) x5)
   (zh (wr (xn hu (za 7) zd) (zh (zy 8 S.nd (zu (qk X 3) hr.d (aO (za 0) (za 1) (za 2) zf zd)))
    (zh (zy 9 S.nd (zu (qk X 3) hr.d (aO (za 0) (za 1) (za 2) zf zd)))
    (zh (zy 10 S.nd (zu r hr.d (z9 (za 0) (aO (za 1) (za 2) (za 3) (ud (za 4) zd) (za 5)))))
    (y0 (y9 (zg (aO zf (za 8) (za 9) (za 10) (zu r hr.d (z9 (za 0) (aO (za 1) (za 2) (za 3) (ud (za 4) zd) (za 5))))))))))) x5)
   (zh (wr (xn hu (za 7) zd) (zh (zy 11 S.nd (zk hu (x9 (aM zf zf zf)) (xg (rb (za 6) zd) zd)))
    (zh (zy 12 S.nd (zu (wm X) hr.d (aK (za 5) (ue X.T.len (aJ (za 1))))))
    (zh (zy 8 S.nd (zu (qk X 3) hr.d (aO (za 0) (za 1) (za 2) (za 11) zd)))
    (zh (zy 13 S.nd (yg (za 1) (x9 (aJ (zg (aK (za 12) (za 11)))))))
    (y0 (y9 (zg (aN zf (za 12) (za 8) (zu r hr.d (z9 (za 0) (aO (za 13) (za 2) (za 3) (ud (za 4) zd) (za 5)))))))))))) x5)
   (y0 (y9 (zu I hr.d (z9 (za 0) (aO (za 1) (za 2) (za 3) (za 4) (za 5))))))))))),?_⟩
 obtain⟨m1,st,l,u,sz,k,a,b,rfl,q,h1,o,B,z,V,h⟩:=hT;have go:∀v,Pw l st k v->yz v.d/\φ (dv v.d):=λv hd=>⟨v.pure,h v hd⟩;refine zn (zp (yb [dv (.fd m1)] (λL g=>zt _ [] aA aA g) rfl ⟨q,λc Y W=>⟨zaA,?_⟩⟩))
 dsimp only
 refine zn (zp (show d2 sMod _ _ _ _ from⟨(aB:(8:Int)≠0),zaA,?_⟩))
 dsimp only
 generalize c.fmod 8=w1;refine(show sSeq _ _ [q_ (.fd m1),q_ (stsD st),q_ (hdsD l),q_ (gvD u sz),q_ (.int (k:Nat)),q_ (mkD a b),q_ (.int c),q_ (.int w1),none,none,none,none,none,none] _ from ?_);refine c8 (decide ((k:Int)=0) || (decide (w1=0) || decide (w1=7))) (Eb _ _ (c5 aA aA) (Eb _ _ (c5 aA aA) (c5 aA aA))) (λ_=>?_) (λy=>?_)
 ·exact yd (Zk (ve (qq (dv (.str "give")) aA (ve (vd m1 st l u 2 .val .val 2 aA aA aA aA aA rfl q aD o aB λe M=>⟨rfl,rfl,go (.give e) ⟨⟨M.1,zbA M.2 aB⟩,zbG _⟩⟩)))))
 have O:0<k:=by
  rw[Bool.or_eq_false_iff]at y;have:=zeD y.1;omega
 obtain⟨k,rfl⟩:∃j,k=j+1:=⟨k-1,by omega⟩
 refine c8 (decide (w1=6)) (c5 aA aA) (λ_=>?_) (λ_=>?_)
 ·refine zn (zp (vd m1 st l "num" 1 .val .val 1 aA aA aA aA aA rfl q aD o aB λe1 g1=>⟨zaA,?_⟩))
  dsimp only
  refine zn (zp (vd m1 st l "num" 1 .val .val 1 aA aA aA aA aA rfl q aD o aB λe2 g2=>⟨zaA,?_⟩))
  dsimp only
  refine zn (zp (j6 m1 st l u sz k a b .val .val (((k+1:Nat):Int)-1) aA aA aA aA aA aA aD q aD o B z aD λD gt=>⟨zaA,?_⟩))
  dsimp only
  exact yd (Zk (ve (qq (dv (.str "less")) aA (ve (qq (dv e1.d) aA (ve (qq (dv e2.d) aA (ve (qq (dv D.d) aA (ve (j6 m1 st l u sz k a b .val .val (((k+1:Nat):Int)-1) aA aA aA aA aA aA aD q aD o B z aD λR N=>⟨rfl,rfl,go (.less e1 e2 D R) ⟨⟨⟨g1.1,zbA g1.2 aB⟩,⟨g2.1,zbA g2.2 aB⟩,gt.1,N.1⟩,zbK (zfJ.mpr ⟨gt.2,N.2⟩)⟩⟩)))))))))))
 refine c8 (decide (w1=1)) (c5 aA aA) (λ_=>?_) (λ_=>?_)
 ·obtain⟨s,Q⟩:=Bw (c.fdiv 8);refine zn (zp (yj (df (.lst [.str "num",.str "list",.str "tree"])) (dv (.int ((c.fdiv 8).fmod 3))) (λL g=>⟨rfl,rfl,g⟩) (λL g=>yj (dv (.int (c.fdiv 8))) (dv (.int 3)) (λL g=>⟨zcO (uk aB aB),g⟩) aA ⟨(aB:(3:Int)≠0),g⟩) (tw Q ⟨zaA,?_⟩)))
  dsimp only
  refine zn (zp (yb [dv (mkD a b),dv (.int (((dsD st).length:Nat):Int))] aA rfl ⟨a,b,_,rfl,rfl,B,z,zaA,?_⟩))
  dsimp only
  generalize nmS a b (((dsD st).length:Nat):Int)=x;refine zn (zp (vd m1 st l s 2 .val .val 2 aA aA aA aA aA rfl q aD o aB λe1 g1=>⟨zaA,?_⟩))
  dsimp only
  refine zn (zp (yj (dv (stsD st)) (df (wayD [(x,s)])) aA (λL g=>⟨rfl,rfl,rfl,rfl,g⟩) (t9 (a:=st) (b:=[(x,s)]) (by simp only[zLc,zLn];omega) ⟨zaA,?_⟩)))
  dsimp only
  exact yd (Zk (ve (qq (dv (.str "let")) aA (ve (qq (dv (.str x)) aA (ve (qq (dv e1.d) aA (ve (j6 m1 (st++([(x,s)]:List (Str×Str))) l u sz k a b .own .val (((k+1:Nat):Int)-1) aA aA aA aA aA aA aD q (by simp only[zLa,zLc,zLn];omega) o B z aD λD gt=>⟨rfl,rfl,go (.lett x e1 D) ⟨⟨⟨g1.1,zbA g1.2 aB⟩,gt.1.sub Xv⟩,zbK gt.2⟩⟩)))))))))
 exact yd (yb [dv (.fd m1),dv (stsD st),dv (hdsD l),dv (gvD u sz),dv (.int ((k+1:Nat):Int)),dv (mkD a b)] aA rfl ⟨m1,st,l,u,sz,k,a,b,rfl,q,h1,o,B,z,by omega,go⟩)
def Mf(X:AX P w K mg C G):∀n:Nat,FD P w K mg base (2*n+9) "_law_grown_body" pA (tGB n):=by
 obtain⟨f,fd,F,m⟩:=X.f "_law_grown_body" 25 aB
 intro n
 induction n with
 |zero =>
  have S:zv ["_law_feed","_law_stands","_law_told","_law_gives","_law_deep","_law_mark_here","_law_cell","_law_way","_law_one","_law_other","_law_body","_law_word","_law_name_here","_law_more"] pA (ze (top 25)):=by walk_at "f"
  refine u9 F S (F.binds (by walk_at "3")) m λqZ A outer s H xs Z φ hr hl hT=>?_
  obtain⟨_,_,_,_,_,_,_,_,_,_,_,_,_,_,h,_⟩:=hT;exact absurd h (zdT _)
 |succ n ih=>exact fg (f6 ih X) ih X
def z2b:FT:=λZ φ=>∃(m k:Int)(a b:Str),Z=[.fd m,.int k,mkD a b]/\0<m/\a.length<=3/\b.length<=3/\∀h:Hd,h.name=nmS b a k->1<=h.ps.length->h.ps.length<=2->h.size≠[]->rk h.size->φ (dv (hdD h))
def z2o(c:Int):∃s:Str,atI [D.str "list",D.str "tree",D.str "list",D.str "num",D.str "list"] (c.fmod 5)=some (.str s):=by
 obtain⟨d,hd,e⟩:=Pc (l:=[D.str "list",D.str "tree",D.str "list",D.str "num",D.str "list"]) aE c
 simp only[zam,zaH,zbM]at hd;rcases hd with rfl|rfl|rfl|rfl|rfl <;> exact⟨_,e⟩
def Gs{i:Nat}{te:TD}{U:DE}{ds:DZ}(Z:List D)(r:EV)(e:slot U i=Q_ (.lst Z))(h:∀ L:EV->Prop,L r->te U L)(g:match r.k with|.own=>False|_=>True)(hl:Z.length<=100000)(a:ds.nx (setS U i (dO (.lst (Z++[r.d]))))):sApp i te U ds:=by
 unfold sApp;rw[e];exact h _ ⟨g,hl,a⟩
def Ry{ta tb:TD}{U:DE}{φ:EV->Prop}(x y:Int)(J:∀ L:EV->Prop,L (dv (.int x))->ta U L)(h2:∀ L:EV->Prop,L (dv (.int y))->tb U L)(ok:IntMulOk x y)(h:φ (dv (.int (x*y)))):d2 sMul ta tb U φ:=J _ (h2 _ ⟨ok,h⟩)
def Rz{ta tb:TD}{U:DE}{φ:EV->Prop}(x y:Int)(J:∀ L:EV->Prop,L (dv (.int x))->ta U L)(h2:∀ L:EV->Prop,L (dv (.int y))->tb U L)(ok:y≠0)(h:φ (dv (.int (x.fmod y)))):d2 sMod ta tb U φ:=J _ (h2 _ ⟨ok,h⟩)
def du{ta tb:TD}{U:DE}{φ:EV->Prop}(x y:Int)(J:∀ L:EV->Prop,L (dv (.int x))->ta U L)(h2:∀ L:EV->Prop,L (dv (.int y))->tb U L)(ok:FdOk x y)(h:φ (dv (.int (x.fdiv y)))):d2 sFd ta tb U φ:=J _ (h2 _ ⟨ok,h⟩)
def Na{ta:TD}{U:DE}{x y:Str}(J:∀ L:EV->Prop,L (dv (.str x))->ta U L):∀L:EV->Prop,L (dv (.bl (!decide (x=y))))->d2 sNe ta (dC (.str y)) U L:=λL a=>J _ ⟨zaA,zaA,by
 have e:eqD (.str x) (.str y)=decide (x=y):=by
  rw[ql];by_cases e:x=y
  ·rw[e,zbC,zaX rfl]
  rw[zaS.mpr e,zaP e]
 rw[<- e]at a;exact a⟩
def Ce{ta tb:TD}{U:DE}(g d:Bool)(J:∀ L:EV->Prop,L (dv (.bl g))->ta U L)(h2:∀ L:EV->Prop,L (dv (.bl d))->tb U L):∀L:EV->Prop,L (dv (.bl (g&&d)))->vAnd ta tb U L:=λL a=>J _ ⟨λe=>by subst e;exact h2 L a,λe=>by subst e;exact a⟩
def b01(b:Bool):(if b then(1:Int) else 0).natAbs<=1:=by cases b <;> decide
def m01{x y:Int}{n:Nat}(h:x.natAbs<=n)(a:y.natAbs<=1):(x*y).natAbs<=n:=by
 rw[Int.natAbs_mul];exact zak (Nat.mul_le_mul h a) (Nat.le_of_eq (Nat.mul_one n))
def f7(X:AX P w K mg C G):FD P w K mg base 2 "_law_grown_head" ["_law_feed","_law_k","_law_mark_here"] z2b:=by
 obtain⟨f,fd,F,m⟩:=X.f "_law_grown_head" 26 aB
 have S:zv ["_law_feed","_law_k","_law_mark_here","_law_cell","_law_params","_law_j","_law_word","_law_gives","_law_size","_law_one"] ["_law_feed","_law_k","_law_mark_here"] (ze (top 26)):=by walk_at "f"
 walk_at "b";refine⟨_,(zh (zy 3 S.nd (zu (t8 X) (hr.e rfl) (aJ (za 0))))
   (zh (zy 4 S.nd (x9 zb))
   (zh (rj (ub X.T.range (aJ (yg zd (xg (za 3) zd)))) (zw (i:=5) S.nd rfl aG) (x3 5) (zh (zy 6 S.nd (zk hu (x9 (aO zf zf zf zf zf)) (xg (rb (rb (za 3) zd) (yg (jq zd (za 5)) zd)) zd)))
    (y0 (b4 4 (zg (aK (zu (wm X) (hr.e rfl) (aK (za 2) (za 5))) (za 6)))))))
   (zh (zy 7 S.nd (zk hu (x9 (aM zf zf zf)) (xg (rb (za 3) zd) zd)))
   (zh (zy 8 S.nd (x9 (aJ (jq (xg (rb (za 3) zd) zd) (Wj X.T.int (aJ (Dp hu (za 7) zf)))))))
   (zh (rj (ub X.T.range (aJ (ue X.T.len (aJ (za 4))))) (zw (i:=5) S.nd rfl aG) (x3 5) (zh (zy 9 S.nd (xg (rb (rb (za 3) zd) (yg (jq zd (za 5)) zd)) zd))
    (y0 (b4 8 (jq (za 9) (Wj X.T.int (aJ (Ud (Dp hu (za 7) zf) (Mn (Dp hu (zk hu (zk hu (za 4) (za 5)) zd) zf))))))))))
   (y0 (y9 (zg (aM (zu (wm X) (hr.e rfl) (aK (zg (aK (zk hu (za 2) zd) (zk hu (za 2) zd))) (za 1))) (uc X.T.tuple (aJ (za 4))) (zg (aK (za 7) (uc X.T.tuple (aJ (za 8))))))))))))))),?_⟩
 obtain⟨m1,k,a,b,rfl,m0,W,V,h⟩:=hT;refine zn (zp (yb [dv (.fd m1)] (λL g=>zt _ [] aA aA g) rfl ⟨m0,λc c0 c1=>⟨zaA,?_⟩⟩))
 dsimp only
 refine zn (zp (show dLst aNil _ _ from⟨rfl,rfl,zaA,?_⟩))
 dsimp only
 have mc:=uw c 2 aB
 refine zn (ug (rngD 0 (1+c.fmod 2).toNat) (λL g=>?_) (λi U=>∃(ps:List (Str×Str))(a5 r:Option EV),ps.length=i/\U=[q_ (.fd m1),q_ (.int k),q_ (mkD a b),q_ (.int c),Q_ (.lst (dsD ps)),a5,r,none,none,none]) ⟨[],none,none,rfl,rfl⟩ ?_ ?_)
 ·exact zt (dv (.int (1+c.fmod 2))) [] (λL g=>yj (dv (.int 1)) (dv (.int (c.fmod 2))) aA (λL g=>⟨(aB:(2:Int)≠0),g⟩) g) aA ⟨by omega,by omega,g⟩
 ·rintro i d _ hd ⟨ps,a5,r,B,rfl⟩;obtain⟨hi,rfl⟩:=rq hd;have a0:i<2:=by omega
  obtain⟨s,O⟩:=z2o ((c.fdiv 2).fdiv (4*(0+(i:Int))+1));refine Z8 (zn (zp (yj (df (.lst [.str "list",.str "tree",.str "list",.str "num",.str "list"])) (dv (.int (((c.fdiv 2).fdiv (4*(0+(i:Int))+1)).fmod 5))) (λL g=>⟨rfl,rfl,g⟩) (λL g=>Rz _ 5 (λL g=>du (c.fdiv 2) (4*(0+(i:Int))+1) (λL g=>du c 2 aA aA (zcO (uk aB aB)) g) (λL g=>yj (dv (.int (4*(0+(i:Int))))) (dv (.int 1)) (λL g=>Ry 4 (0+(i:Int)) aA aA (zeO aB) g) aA g) (fdOk (m:=64) aD (jx aD)) g) aA aB g) (tw O ⟨zaA,?_⟩))))
  dsimp only
  refine Gs (dsD ps) (dv (prD1 (nmS a b (0+(i:Int)),s))) rfl (λL g=>Zk (ve (yb [dv (mkD a b),dv (.int (0+(i:Int)))] aA rfl ⟨a,b,_,rfl,rfl,W,V,rfl,rfl,g⟩))) trivial (by unfold dsD;rw[zLm];omega) ⟨ps++[(nmS a b (0+(i:Int)),s)],q_ (.int (0+(i:Int))),q_ (.str s),by rw[zLa,B];rfl,?_⟩
  unfold dsD;rw[zMa];rfl
 rintro _ ⟨ps,a5,r,B,rfl⟩;rw[g9]at B;have y:1<=ps.length:=by omega
 have x:ps.length<=2:=by omega
 dsimp only
 obtain⟨j,O⟩:=Bw (c.fdiv 30);refine zn (zp (yj (df (.lst [.str "num",.str "list",.str "tree"])) (dv (.int ((c.fdiv 30).fmod 3))) (λL g=>⟨rfl,rfl,g⟩) (λL g=>Rz _ 3 (λL g=>du c 30 aA aA (zcO (uk aB aB)) g) aA aB g) (tw O ⟨zaA,?_⟩)))
 dsimp only
 have mz:=uw (c.fdiv 90) 4 aB
 refine zn (zp (zt (dv (.int ((c.fdiv 90).fmod 4*(if (!decide (j = "num")) then 1 else 0)))) [] (λL g=>Ry ((c.fdiv 90).fmod 4) (if (!decide (j = "num")) then 1 else 0) (λL g=>Rz _ 4 (λL g=>du c 90 aA aA (zcO (uk aB aB)) g) aA aB g) (λL g=>zt (dv (.bl (!decide (j = "num")))) [] (Na aA) aA g) (Ks (jx aD) (jx (zbA (b01 _) aB))) g) aA ⟨rfl,rfl,zaA,?_⟩))
 dsimp only
 have Q:rk [(c.fdiv 90).fmod 4*(if (!decide (j = "num")) then 1 else 0)]:=λz l=>by
  rw[zaN.mp l];exact m01 aD (b01 _)
 generalize (c.fdiv 90).fmod 4*(if (!decide (j = "num")) then 1 else 0)=Y at Q ⊢
 refine zn (ug (rngD 0 ps.length) (λL g=>?_) (λi U=>∃(sz:List Int)(a5 u:Option EV),sz.length<=i+1/\sz≠[]/\rk sz/\U=[q_ (.fd m1),q_ (.int k),q_ (mkD a b),q_ (.int c),Q_ (.lst (dsD ps)),a5,r,q_ (.str j),Q_ (.lst (sz.map D.int)),u]) ⟨[Y],a5,none,zaj _,by simp,Q,rfl⟩ ?_ ?_)
 ·exact Gg ps.length (λL g=>by
   show L (dv (.int (((dsD ps).length:Nat):Int)));unfold dsD;rw[zLm];exact g) aD g
 ·rintro i d _ hd ⟨sz,a5,u,hl1,R,v,rfl⟩;obtain⟨hi,rfl⟩:=rq hd;have ds:=uw ((c.fdiv 360).fdiv (3*(0+(i:Int))+1)) 3 aB
  refine Z8 (zn (zp (Rz _ 3 (λL g=>du (c.fdiv 360) (3*(0+(i:Int))+1) (λL g=>du c 360 aA aA (zcO (uk aB aB)) g) (λL g=>yj (dv (.int (3*(0+(i:Int))))) (dv (.int 1)) (λL g=>Ry 3 (0+(i:Int)) aA aA (zeO aB) g) aA g) (fdOk (m:=64) aD (jx aD)) g) aA aB ⟨zaA,?_⟩)))
  dsimp only
  generalize ((c.fdiv 360).fdiv (3*(0+(i:Int))+1)).fmod 3=q at ds ⊢;have N:atI (dsD ps) (0+(i:Int))=some (prD1 ps[i]):=by
   rw[Int.zero_add];refine Uz aD ?_
   unfold dsD;rw[zdQ,zai,zaf hi];rfl
  have M:∀t:Bool,∃(sz':List Int)(a5 u:Option EV),sz'.length<=i+1+1/\sz'≠[]/\rk sz'/\[q_ (.fd m1),q_ (.int k),q_ (mkD a b),q_ (.int c),Q_ (.lst (dsD ps)),q_ (.int (0+(i:Int))),r,q_ (.str j),Q_ (.lst (sz.map D.int++[.int (q*(if t then 1 else 0))])),q_ (.int q)]=[q_ (.fd m1),q_ (.int k),q_ (mkD a b),q_ (.int c),Q_ (.lst (dsD ps)),a5,r,q_ (.str j),Q_ (.lst (sz'.map D.int)),u]:=λt=>⟨sz++[q*(if t then 1 else 0)],_,_,by rw[zLa];exact zbK hl1,by simp,λz l=>by
    rcases zas.mp l with l|l
    ·exact v z l
    rw[zaN.mp l];exact m01 aD (b01 _),by rw[zMa];rfl⟩
  have h1:intBits q<=3000:=jx aD
  have I:∀t:Bool,intBits (if t then(1:Int) else 0)<=3000:=λt=>jx (zbA (b01 _) aB)
  refine Gs (sz.map D.int) (dv (.int (q*(if (!decide (j = "num")&&!decide (ps[i].2 = "num")) then 1 else 0)))) rfl (λL g=>Ry q (if (!decide (j = "num")&&!decide (ps[i].2 = "num")) then 1 else 0) aA (λL g=>zt (dv (.bl (!decide (j = "num")&&!decide (ps[i].2 = "num")))) [] (Ce _ _ (Na aA) (Na (λL g=>yj (dv (prD1 ps[i])) (dv (.int 1)) (λL g=>yj (dO (.lst (dsD ps))) (dv (.int (0+(i:Int)))) aA aA (tw N g)) aA g))) aA g) (Ks h1 (I _)) g) trivial (by rw[zLm];omega) (M _)
 rintro _ ⟨sz,a5,u,hl1,R,v,rfl⟩
 dsimp only
 have hh:=h ⟨nmS b a k,ps,j,sz⟩ rfl y x R v;exact yd (Zk (ve (yb [dv (mkD b a),dv (.int k)] (λL g=>⟨rfl,rfl,g⟩) rfl ⟨b,a,_,rfl,rfl,V,W,rfl,rfl,rfl,rfl,⟨zaA,Xm ps,⟨zaA,y8 sz,zaA⟩,zaA⟩,hh⟩)))
def C5{i:Nat}{te:TD}{U:DE}{ds:DZ}(Z:List D)(a:slot U i=Q_ (.lst Z))(h:te U λr=>(match r.k with|.own=>False|_=>True)/\Z.length<=100000/\ds.nx (setS U i (dO (.lst (Z++[r.d]))))):sApp i te U ds:=by
 unfold sApp;rw[a];exact h
def Qq{op:D->D->(EV->Prop)->Prop}{ta tb:TD}{U:DE}{φ:EV->Prop}(h:ta U λx=>tb U λy=>op x.d y.d φ):d2 op ta tb U φ:=h
def Fn.hd(f:Fn):Hd:=⟨f.name,f.ps,f.gives,f.size⟩
def F2(a:List Fn):vg a=Xc (a.map Fn.hd):=by
 unfold vg Xc;rw[zaZ];rfl
def Ct:FT:=λZ φ=>∃m:Int,Z=[.fd m]/\0<m/\∀fns,Good fns->φ (dv (.tup (fns.map Fn.d)))
def Ca(a b:Str)(i:Nat)(es:List D):Prop:=∃hs:List Hd,es=hs.map hdD/\hs.map Hd.name=(List.range i).map (λj:Nat=>nmS b a (0+(j:Int)))/\∀h∈hs,1<=h.ps.length/\h.ps.length<=2/\h.size≠[]/\rk h.size
def M2{a b:Str}{i:Nat}{es:List D}{h:Hd}(g:Ca a b i es)(e:h.name=nmS b a (0+(i:Int)))(o:1<=h.ps.length/\h.ps.length<=2/\h.size≠[]/\rk h.size):Ca a b (i+1) (es++[hdD h]):=by
 obtain⟨j,rfl,e1,o1⟩:=g;refine⟨j++[h],by rw[zMa];rfl,?_,λq d=>?_⟩
 ·rw[zMa,e1,List.range_succ,zMa,zaG,zeV,e];rfl
 rcases zas.mp d with d|d
 ·exact o1 q d
 rw[zaN.mp d];exact o
def Jf{a b:Str}{i:Nat}{hs:List Hd}(hi:i<=2)(e:hs.map Hd.name=(List.range i).map (λj:Nat=>nmS b a (0+(j:Int))))(o:∀ h∈hs,1<=h.ps.length/\h.ps.length<=2/\h.size≠[]/\rk h.size):OkHs hs:=by
 refine⟨?_,?_,o⟩
 ·have:=zbZ List.length e;rw[zLm,zLm,zfH]at this;omega
 rw[e];have d:nmS b a (0+((0:Nat):Int))≠nmS b a (0+((1:Nat):Int)):=Aq (Gu aB)
 match i,hi with
 |0,_=>exact zcD
 |1,_=>exact zaR.mpr ⟨(λz=>by cases z),zcD⟩
 |2,_=>exact zaR.mpr ⟨λz=>d (zaN.mp z),zaR.mpr ⟨(λz=>by cases z),zcD⟩⟩
def U9(X:AX P w K mg C G):FD P w K mg base 18 "_law_grown" ["_law_feed"] Ct:=by
 obtain⟨f,fd,F,m⟩:=X.f "_law_grown" 27 aB
 have S:zv ["_law_feed","_law_cell","_law_mark_here","_law_told","_law_program","_law_one"] ["_law_feed"] (ze (top 27)):=by walk_at "f"
 walk_at "b";refine⟨_,(zh (zy 1 S.nd (zu (t8 X) (hr.e rfl) (aJ (za 0))))
   (zh (zy 2 S.nd (zu (Zc X) (hr.e rfl) (aJ (rb (za 1) zd))))
   (zh (b3 (T:=["_law_k"]) (F:=["_law_feed","_law_mark_here"]) (js:=[0,2]) 3 S.nd (ub X.T.range (aJ (yg zd (xg (za 1) zd)))) (show zx (ze (top 27)) _ _ _ from by walk_at "c") (.cons rfl (.cons rfl .nil)) aB (by walk_at "t") (yi aB) (x3 0) (λcl C fp s H=>w5) (λcl C fp s H=>(zu (f7 X) (hr.e rfl) (aM (za 1) (za 0) (za 2)))))
   (zh (zy 4 S.nd (x9 zb))
   (zh (Oe 3 (rj (xu (za 3)) (zw (i:=5) S.nd rfl aG) (x3 5) (y0 (b4 4 (yg (za 5) (zg (aJ (zu (Mf X 4) (hr.e rfl) (z9 (za 0) (aO (cu X.T.list (aJ (zk hu (za 5) zd))) (za 3) (zk hu (za 5) zd) zd (za 2)))))))))))
   (y0 (y9 (uc X.T.tuple (aJ (za 4)))))))))),?_⟩
 obtain⟨m1,rfl,v,h⟩:=hT;refine zn (zp (yb [dv (.fd m1)] (λL g=>zt _ [] aA aA g) rfl ⟨v,λc Y W=>⟨zaA,?_⟩⟩))
 dsimp only
 refine zn (zp (yb [dv (.int (c.fdiv 2))] (λL g=>zt _ [] (λL g=>du c 2 aA aA (zcO (uk aB aB)) g) aA g) rfl (λa b B y=>⟨zaA,?_⟩)))
 dsimp only
 have V:=uw c 2 aB
 refine zn (zp (Uo (rngD 0 (1+c.fmod 2).toNat) (λL g=>?_) (λi es=>Ca a b i es) (by rw[g9];omega) ⟨[],rfl,rfl,λ_ h=>(by cases h)⟩ ?_ ?_))
 ·exact zt (dv (.int (1+c.fmod 2))) [] (λL g=>yj (dv (.int 1)) (dv (.int (c.fmod 2))) aA (λL g=>⟨(aB:(2:Int)≠0),g⟩) g) aA ⟨by omega,by omega,g⟩
 ·intro i d es hd _ M;obtain⟨hi,rfl⟩:=rq hd;exact Z8 ⟨λ_=>yb [dv (.fd m1),dv (.int (0+(i:Int))),dv (mkD a b)] aA rfl ⟨m1,_,a,b,rfl,v,B,y,λq e1 e2 e3 R Q=>⟨zaA,M2 M e1 ⟨e2,e3,R,Q⟩⟩⟩,λz=>nomatch z⟩
 rintro _ ⟨j,rfl,e1,o1⟩;rw[g9]at e1;have o:=Jf aD e1 o1
 refine⟨zaA,?_⟩
 dsimp only
 refine zn (zp (show dLst aNil _ _ from⟨rfl,rfl,zaA,?_⟩))
 dsimp only
 refine zn (show sFor _ _ _ ([q_ (.fd m1),q_ (.int c),q_ (mkD a b),q_ (hdsD j),Q_ (.lst []),none]) _ from ug (j.map hdD) (λL g=>⟨zaA,g⟩) (λi U=>∃(fns:List Fn)(a5:Option EV),fns.map Fn.hd=j.take i/\(∀f∈fns,FnV (Xc j) f)/\U=[q_ (.fd m1),q_ (.int c),q_ (mkD a b),q_ (hdsD j),Q_ (.lst (fns.map Fn.d)),a5]) ⟨[],none,rfl,(λ_ h=>by cases h),rfl⟩ ?_ ?_)
 ·rintro i d _ hd ⟨fns,a5,l,of,rfl⟩;rw[zai]at hd;obtain⟨q,D,rfl⟩:=zar.mp hd;have x:=zan D;have et:j.take (i+1)=j.take i++[q]:=by rw[zeI,D];rfl
  have h1:fns.length<=2:=by
   have:=zbZ List.length l;rw[zLm,zcC]at this;have:=o.len;omega
  have go:∀r,Pw j q.ps 3 r->∃(fns':List Fn)(a5:Option EV),fns'.map Fn.hd=j.take (i+1)/\(∀f∈fns',FnV (Xc j) f)/\[q_ (.fd m1),q_ (.int c),q_ (mkD a b),q_ (hdsD j),Q_ (.lst (fns.map Fn.d++[Fn.d ⟨q.name,q.ps,q.gives,q.size,r⟩])),q_ (hdD q)]=[q_ (.fd m1),q_ (.int c),q_ (mkD a b),q_ (hdsD j),Q_ (.lst (fns'.map Fn.d)),a5]:=λr u=>⟨fns++[⟨q.name,q.ps,q.gives,q.size,r⟩],q_ (hdD q),by rw[zMa,l,et];rfl,λf k=>by
    rcases zas.mp k with k|k
    ·exact of f k
    rw[zaN.mp k];exact⟨(o.ok q x).2.1,Nat.lt_succ_of_le u.2,u.1⟩,by rw[zMa];rfl⟩
  have I:=(o.ok q x).2.1;exact Z8 (C5 (fns.map Fn.d) rfl (Qq (qq (dv (hdD q)) aA (Zk (ve (j6 m1 q.ps j q.gives q.size 3 a b .fre .val 3 aA aA aA aA aA aA rfl v aD o B y aB λr u=>⟨rfl,rfl,zbS _ _,zbS _ _,by rw[zaV];exact zaB rfl,zaA,by rw[zLm];omega,go r u⟩))))))
 rintro _ ⟨fns,a5,l,of,rfl⟩;rw[zLm,zeA]at l;have N:Good fns:=by
  refine⟨?_,?_,λf k=>?_⟩
  ·have O:fns.map Fn.name=(fns.map Fn.hd).map Hd.name:=by rw[zaZ];rfl
   rw[O,l];exact o.nd
  ·have:=zbZ List.length l;rw[zLm]at this;have:=o.len;omega
  rw[F2,l];exact of f k
 dsimp only
 exact yd ⟨qz fns,h fns N⟩
def fdF:D->Option D
 |.int n=>some (.int (n.fmod (10 ^ 30)))
 |_=>none
def z0x(E:List Int):(E.map D.int).filterMap fdF=(E.map λn=>n.fmod (10 ^ 30)).map D.int:=by
 rw[zcF,zaZ];exact congrFun (zcN (f:=λn:Int=>D.int (n.fmod (10 ^ 30)))) E
theorem jo(told:List (Str×List Int)):∀(b:Bo)(s:PS1),ends told b s≠[]
 |.give e,s=>zbS _ _
 |.lett x e b,s=>jo told b _
 |.less a c t u,s=>λz=>jo told t _ (zfF.mp z).1
 |.list x b h t f,s=>λz=>jo told b _ (zfF.mp z).1
 |.tree x b l m r f,s=>λz=>jo told b _ (zfF.mp z).1
def Ei(p:PS1×List Int):okT (endD p):=⟨_,rfl,λe g=>by
 simp only[zam,zaH,zbM]at g;rcases g with rfl|rfl|rfl|rfl|rfl
 ·refine .inl λx a=>?_;obtain⟨l,_,rfl⟩:=zah.mp a;intro y d;obtain⟨z,_,rfl⟩:=zah.mp d;exact zaA
 ·exact .inl trivial
 ·exact .inr ⟨_,_,rfl⟩
 ·refine .inl λx a=>?_;obtain⟨c,_,rfl⟩:=zah.mp a;intro y d;simp only[zam,zaH,zbM]at d;rcases d with rfl|rfl
  ·exact zaA
  intro z j;obtain⟨l,_,rfl⟩:=zah.mp j;intro u hu;obtain⟨w,_,rfl⟩:=zah.mp hu;exact zaA
 refine .inl λx a=>?_;obtain⟨z,_,rfl⟩:=zah.mp a;exact zaA⟩
def K7{l j:Nat}{te:TD}{U:DE}{ds:QZ}(h:te (hid l U) λr=>(match r.k with|.own=>False|_=>True)/\ds.nx (setS U j r.sto)):qSet l j te U ds:=h
def atL{Z:List D}{n j:Nat}{E:List D}(h:Z[n]?=some (.tup E)):atQ [n,j] (.lst Z)=E[j]?:=by
 show(match Z[n]? with|some x=>atQ [j] x|none=>none)=_
 rw[h];show(match E[j]? with|some x=>some x|none=>none)=_
 cases E[j]? <;> rfl
def atL1{Z:List D}{n:Nat}{x:D}(h:Z[n]?=some x):atQ [n] (.lst Z)=some x:=by
 show(match Z[n]? with|some x=>some x|none=>none)=_
 rw[h]
def putL{Z:List D}{n j:Nat}{E:List D}{e:D}(h:Z[n]?=some (.tup E))(a:j<E.length):putQ [n,j] (.lst Z) e=.lst (Z.set n (.tup (E.set j e))):=by
 show(match Z[n]? with|some x=>D.lst (Z.set n (putQ [j] x e))|none=>.lst Z)=_
 rw[h];show D.lst (Z.set n (match E[j]? with|some x=>D.tup (E.set j e)|none=>.tup E))=_
 rw[zaf a]
def Ez{es:List (PS1×List Int)}{ws:List (List (Str×Str))}{R:PS1×List Int->List (Str×Str)->Prop}(h:All2 R es ws)(d:es≠[]):∃n p w,(es.map endD)[n]?=some (endD p)/\ixN (es.map endD).length (-1)=some n/\R p w:=by
 have e:=zeQ.mpr d;have hl:es.length-1<es.length:=by omega
 have a:es.length-1<ws.length:=by rw[<- h.len];exact hl
 refine⟨es.length-1,es[es.length-1],ws[es.length-1],?_,?_,All2.get h (zaf hl) (zaf a)⟩
 ·rw[zai,zaf hl];rfl
 unfold ixN;rw[zLm,zaJ aB,zaM aD]
 congr 1
 omega
def Xs(es:List (PS1×List Int)):∃Z,D.lst (es.map endD)=.lst Z/\∀e∈Z,okT e:=⟨_,rfl,λe a=>by
 obtain⟨p,_,rfl⟩:=zah.mp a;exact Ei p⟩
def zipE{es:List (PS1×List Int)}{ws:List (List (Str×Str))}{R:PS1×List Int->List (Str×Str)->Prop}(h:All2 R es ws){d:D}(hd:d∈zipD (es.map endD) (ws.map wayD)):∃p w,d=.tup [endD p,wayD w]/\R p w:=by
 obtain⟨i,hi⟩:=zdO hd;unfold zipD at hi;rw[zdL,zai,zai]at hi;cases e1:es[i]? with
 |none=>rw[e1]at hi;cases hi
 |some p =>
  cases e2:ws[i]? with
  |none=>rw[e1,e2]at hi;cases hi
  |some w =>
   rw[e1,e2]at hi;exact⟨p,w,(zaT hi).symm,All2.get h e1 e2⟩
abbrev MM:Int:=10 ^ 30
def An{f:Addr}{fd:FuncData}(F:Fun K "law" "law" (top 36) f fd)(qZ:Value)(A:Around)(outer:List Env)(s:Shared)(H:Hp)(xs:XK)(hr:Room 59 (A.deeper (envOfC "law" (ze (top 36)) s.heap.objs.size f qZ)))(ns:List Int)(b0:ns.length<=63)(φ:EV->Prop)(h:φ (dv (.bl true)))(X:AX P w K mg C G):∃t,SDs G (cxOf CX0 P w K mg base ["_law_script","_law_cell","_law_feed","_law_program","_law_function","_law_found","_law_ways_here","_law_path","_law_way","_law_kept"] "law" (ze (top 36)) f qZ A outer s H xs).nox (yu (top 36)) t/\t (yx 10 [.scr ns]) {nx:=λ_=>φ (dv .non),rt:=λr=>xx r/\φ r}:=by
 have S:zv ["_law_script","_law_cell","_law_feed","_law_program","_law_function","_law_found","_law_ways_here","_law_path","_law_way","_law_kept"] ["_law_script"] (ze (top 36)):=by walk_at "f"
 have hu:=hr.units;refine⟨_,(zh (zy 1 S.nd (xg (zu (Yb X) (hr.e rfl) (aK (za 0) zd)) (Qi zd zd)))
   (zh (vn (T:=["_law_number_here"]) (F:=[]) (js:=[]) 2 S.nd (xu (u4 (za 0) qo (uh zd))) (show zx (ze (top 36)) _ _ _ from by walk_at "c") .nil aB (by walk_at "t") (yi aB) (x3 0) (λcl C fp s H=>w5) (λcl C fp s H=>(xg (za 0) (Qi zd zd))))
   (zh (Fk 2 MM (zy 3 S.nd (zu (U9 X) (hr.e rfl) (aJ (za 2)))))
   (zh (wr (xn hu (xg (za 1) zd) zd) (y0 (zy 3 S.nd (zu (U8 X) (hr.e rfl) (aJ (rb (za 1) zd))))) x5)
   (zh (rj (xu (za 3)) (zw (i:=4) S.nd rfl aG) (x3 4) (Fe (l:=5) X.mG S.nd (Wf X.mG (qg X) (hr.e rfl) (aK (za 3) (zk hu (za 4) zd)))
    (yc (V4 6 aB S.nd (zu (Di X 4) (hr.e rfl) (aK (zk hu (za 4) zd) (x9 zb))))
    (yc (Zv (gc (EW.et (jk (c4 (jl (wz X.T.isinstance (aK (za 5) (Wi X.T.list fm))))) (dz (Wg hu (ue X.T.len (aJ (za 5))) (ue X.T.len (aJ (za 6)))))))) (xc (b9 (fh Wn))) ba)
    (yc (Bh (j1:=7) (j2:=8) (Qg X.T.zip (aK (za 5) (za 6))) (ww (K0:=K) (n:=2) (by rfl) (by rfl) (y7 (zw (i:=7) S.nd rfl aG) (y7 (zw (i:=8) S.nd rfl aG) wj))) aB aB aB (c4 (jl (zu (Y8 X) (hr.e rfl) (aM (za 7) (za 8) (ue X.T.len (aJ (zk hu (za 4) zd))))))) Wn)
    (yc (Tc (T:=["_law_path"]) (F:=[]) (js:=[]) 9 aB S.nd (xu (za 5)) (show zx (ze (top 36)) _ _ _ from by walk_at "c") .nil aB (by walk_at "t") (yi aB) (x3 0) (λcl C fp s H=>w5) (λcl C fp s H=>(Dn (aO (zk hu (za 0) zd) (zk hu (za 0) zd) (cv X.T.dict (aJ (zk hu (za 0) zd))) (cu X.T.list (aJ (zk hu (za 0) zd))) (zk hu (za 0) zd)))))
    (yc (Zv (gc (EW.et (jk (Mh hu (z1e (Wf X.mG (qg X) (hr.e rfl) (aK (za 3) (zk hu (za 4) zd)))) (za 9)) (dz (Mh hu (za 5) (za 9)))))) (xc (b9 (fh Wn))) ba)
    (yc (ck hu (Kc (Kc yn (Uc zd)) zd) zf zd)
    (yc (On (Kc (Kc yn (Uc zd)) zd) (wy zd))
    (yc (Fo yn)
    (xc (Zv (gc (Mh hu (z1e (Wf X.mG (qg X) (hr.e rfl) (aK (za 3) (zk hu (za 4) zd)))) (za 9))) (xc (b9 (fh Wn))) ba))))))))))))
   (y0 (y9 Wn))))))),?_⟩
 refine zn (zp (Qq (yb [dv (.scr ns),dv (.int 0)] aA rfl ⟨by decide,λc=>⟨zcO (cp10 aB aB),(aB:(10:Int) ^ Int.toNat 30≠0),zaA,?_⟩⟩)))
 dsimp only
 refine zn (zp (xa ((ns.take 60).map D.int) (λL a=>?_) fdF (by rw[zLm,zcC];omega) (λd hd=>?_) ?_))
 ·refine Sm (Um ?_);show(True/\match Vo (.lst (cutD (ns.map D.int) none (some ((60:Nat):Int)))) with|some Z=>L Z|none=>False)
  rw[Uq,<- List.map_take];exact⟨zaA,a⟩
 ·obtain⟨n,_,rfl⟩:=zah.mp hd;exact⟨λ_=>⟨zcO (cp10 aB aB),(aB:(10:Int) ^ Int.toNat 30≠0),zaA,rfl⟩,λz=>nomatch z⟩
 rw[z0x];refine⟨zaA,?_⟩
 dsimp only
 generalize c.fmod _=Q;refine zn ⟨(ns.take 60).map λn=>n.fmod MM,rfl,⟨by rw[zLm,zcC];omega,(λz=>absurd z aB),λn hn _=>?_⟩,yb [dv (.fd MM)] aA rfl ⟨MM,rfl,by decide,λg j=>⟨zaA,?_⟩⟩⟩
 ·obtain⟨m,_,rfl⟩:=zah.mp hn;exact uw m MM aB
 dsimp only
 refine c8 (decide (Q.fmod 4=3)) (c5 (λL a=>⟨(aB:(4:Int)≠0),a⟩) aA) (λ_=>?_) (λ_=>?_)
 refine zp (yb [dv (.int (Q.fdiv 4))] (λL a=>du Q 4 aA aA (zcO (uk aB aB)) a) rfl (λg j=>⟨zaA,?_⟩))
 all_goals
  try dsimp only
  refine zn (show sFor _ _ _ [q_ (.scr ns),q_ (.int Q),q_ (.fd MM),q_ (.tup (g.map Fn.d)),none,none,none,none,none,none] _ from ug (g.map Fn.d) (λL a=>⟨zaA,a⟩) (λi U=>∃a4 a6 a7 a8 a9:Option EV,U=[q_ (.scr ns),q_ (.int Q),q_ (.fd MM),q_ (.tup (g.map Fn.d)),a4,none,a6,a7,a8,a9]) ⟨none,none,none,none,none,rfl⟩ ?_ ?_)
  ·rintro i d _ hd ⟨a4,a6,a7,a8,a9,rfl⟩;rw[zai]at hd;obtain⟨fn,e1,rfl⟩:=zar.mp hd;have hm:=zan e1;have y:=j.ok fn hm;obtain⟨Y,W⟩:=y.ok;obtain⟨_,_,im,ds,_,_⟩:=Z6 y.ps;have hw:=y.v.wd;have N:=y.dep;have R:=ua (vg g) fn.body (first fn.ps) [] fn.ps.length fn.ps.length 1000 (Oi y.ps) ds aD hw (by show 0+30*(fn.body.dep+1)<=1000;omega)
   have I:=jo (vg g) fn.body (first fn.ps)
   have few:=zak (xr (vg g) fn.body (first fn.ps)) (zaD (aB:0<2) (show fn.body.dep<=3 by omega))
   have hT:∀L:D->Prop,L (.lst ((ends (vg g) fn.body (first fn.ps)).map endD))->Hj [.tup (g.map Fn.d),.str fn.name] L:=λL a=>⟨g,fn,rfl,by have:=j.len;omega,j.nd,hm,y.ps,Y,N,W,a⟩
   have cw:∀(U:DE)(φ:EV->Prop)(ta tb:TD),(∀L:EV->Prop,L (dv fn.body.d)->ta U L)->(∀L:EV->Prop,L (df (wayD []))->tb U L)->φ ⟨.new,.lst ((ways fn.body []).map wayD)⟩->Ye 2 (O6 4) (xv ta (xv tb aNil)) U φ:=λU φ ta tb J h2 a0=>uf fn.body [] .fre J h2 N aD hw (by show 0+30*(fn.body.dep+1)<=1000;omega) a0
   generalize ends (vg g) fn.body (first fn.ps)=es at R I few hT
   generalize ways fn.body []=ws at R cw;have h1:=R.len;refine Z8 ⟨zaB rfl,rfl,hT _ ?_⟩
   dsimp only
   refine yh (K7 (cw _ _ _ _ aA (λL a=>⟨rfl,rfl,a⟩) ⟨zaA,?_⟩))
   dsimp only
   refine d8 (λL a=>c6 aA (yj (dv (.int ((es.map endD).length:Nat))) (dv (.int ((ws.map wayD).length:Nat))) aA aA ⟨zaA,zaA,?_⟩)) ?_
   ·show L (!eqD (.int _) (.int _));rw[qm,zLm,zLm,h1,zbC];exact a
   refine yh (show iZ _ _ _ from⟨zaA,zaA,λd hd=>?_,?_⟩)
   ·obtain⟨p,w,rfl,O⟩:=zipE R hd;refine qf (yb [dv (endD p),dv (wayD w),dv (.int ((fn.ps.map prD1).length:Nat))] aA rfl ⟨p,w,fn.ps.length,?_,O,rfl⟩);show[endD p,wayD w,D.int ((fn.ps.map prD1).length:Nat)]=_;rw[zLm]
   dsimp only
   refine yh (Mv (es.map endD) (λL a=>⟨zaA,a⟩) (λi u=>u=(es.take i).map endD) (by rw[zLm];omega) rfl (λi d u hd _ V=>?_) (λu V=>⟨zaA,?_⟩))
   ·rw[zai]at hd;obtain⟨p,ep,rfl⟩:=zar.mp hd;refine Z8 ⟨λ_=>⟨⟨tx _,zaA,ut _,gj _,y8 _,zaA⟩,rfl,zaA,?_⟩,λz=>nomatch z⟩;rw[V,zeI,ep,zMa];rfl
   rw[zLm,zeA]at V;subst V
   dsimp only
   refine d8 (λL a=>c6 (λL a=>Qq ⟨rfl,hT _ ⟨rfl,Xs es,a⟩⟩) (yj (dv (.lst (es.map endD))) (dv (.lst (es.map endD))) aA aA ⟨rfl,Xs es,a⟩)) ?_;obtain⟨n,p,w,M,x,O⟩:=Ez R I;have h6:p.1.steps.length=6:=by rw[O.rel.st];exact rh _ _
   have b1:p.1.calls.length<=1000:=by
    have e9:=zbZ List.length O.rel.ca;rw[zLm]at e9;have:=List.length_filterMap_le (λp:Str×Str=>if p.1=("call" : Str) then some p.2 else none) w
    have:=O.len;unfold su at e9;omega
   have B:=Xs es;generalize es.map endD=Z at M x hT B ⊢;have a3:n<Z.length:=(zag.mp M).1;refine yh ⟨zaA,_,_,Z,-1,n,rfl,rfl,rfl,rfl,x,.lst Z,endD p,_,2,2,rfl,atL1 M,rfl,rfl,rfl,.lst Z,_,_,Sum.inr "call",rfl,atL M,ut _,by rw[zLm];omega,rfl,?_⟩
   dsimp only
   rw[show([]:List Nat)++[n]++[2]=[n,2] from rfl,putL M (zaB rfl)];generalize D.dk (kput (List.map Sum.inr x8) (Sum.inr ("call" : Str))) (dput (List.map Sum.inr x8) (List.map D.int p.1.steps) (Sum.inr ("call" : Str)) (D.int 7))=X;have k:(Z.set n (.tup ([D.tup (p.1.shape.map lnD),.int (p.1.many:Nat),D.dk (x8.map Sum.inr) (p.1.steps.map D.int),.lst (p.1.calls.map vq),lnD p.2].set 2 X)))[n]?=some (.tup [D.tup (p.1.shape.map lnD),.int (p.1.many:Nat),X,.lst (p.1.calls.map vq),lnD p.2]):=zaL a3;have q:ixN (Z.set n (.tup ([D.tup (p.1.shape.map lnD),.int (p.1.many:Nat),D.dk (x8.map Sum.inr) (p.1.steps.map D.int),.lst (p.1.calls.map vq),lnD p.2].set 2 X))).length (-1)=some n:=by rw[zaF];exact x
   generalize Z.set n (.tup ([D.tup (p.1.shape.map lnD),.int (p.1.many:Nat),D.dk (x8.map Sum.inr) (p.1.steps.map D.int),.lst (p.1.calls.map vq),lnD p.2].set 2 X))=d2 at k q ⊢;refine yh ⟨_,_,d2,-1,n,rfl,rfl,rfl,rfl,q,.lst d2,_,_,3,3,rfl,atL1 k,rfl,rfl,rfl,.lst d2,_,rfl,atL k,by rw[zLm];omega,zaA,?_⟩
   dsimp only
   rw[show([]:List Nat)++[n]++[3]=[n,3] from rfl,putL k (zaB rfl)];refine yh ⟨_,_,rfl,rfl,?_⟩
   dsimp only
   exact(show tBo _ _ _ from Qq ⟨rfl,hT _ ⟨rfl,B,nofun,λ_=>⟨_,_,_,_,_,rfl⟩⟩⟩)
  rintro _ ⟨a4,a6,a7,a8,a9,rfl⟩
  dsimp only
  exact yd ⟨zaA,h⟩
mutual
def chk(K:W.Frag):Cst->Value->Bool
 |.tup l,u=>match u with
  |.ref a=>match K.lookup a with
   |some ⟨.type "tuple",_,.seq its _,_⟩=>Nat.ble its.size 100&&chks K l its.toList
   |_=>false
  |_=>false
 |.int i,u=>match u with
  |.int j _=>i==j
  |_=>false
 |.str x,u=>match u with
  |.str y _=>x==y
  |_=>false
def chks(K:W.Frag):List Cst->List Value->Bool
 |[],us=>us.isEmpty
 |c::l,us=>match us with
  |u::us=>chk K c u&&chks K l us
  |[]=>false
end
mutual
theorem L4{K:W.Frag}:∀(c:Cst)(u:Value),chk K c u=true->∃v,RelV v u/\CRep K c v
 |.tup l,u,h=>by
  unfold chk at h;split at h
  ·rename_i a;split at h
   ·rename_i o its k j e;obtain⟨J,h2⟩:=zeL.mp h;obtain⟨E,g,d⟩:=L1 l its.toList h2;exact⟨.ref a,rfl,a,_,its,k,E,rfl,e,rfl,rfl,zak (zaB J) (by rw[zaV];decide),g,d⟩
   cases h
  cases h
 |.int i,u,h=>by
  unfold chk at h;split at h
  ·cases zfT h;exact⟨.int i,⟨_,rfl⟩,rfl⟩
  cases h
 |.str x,u,h=>by
  unfold chk at h;split at h
  ·cases zfT h;exact⟨.str x,⟨_,rfl⟩,rfl⟩
  cases h
theorem L1{K:W.Frag}:∀(l:List Cst)(us:List Value),chks K l us=true->∃E,Vals E us/\Lg K l E
 |[],us,h=>by
  unfold chks at h;cases us with
  |nil=>exact⟨[],.nil,rfl⟩
  |cons _ _=>cases h
 |c::l,us,h=>by
  unfold chks at h;cases us with
  |nil=>cases h
  |cons u us =>
   obtain⟨J,h2⟩:=zeL.mp h;obtain⟨v,a,b⟩:=L4 c u J;obtain⟨E,p,q⟩:=L1 l us h2;exact⟨v::E,.cons a p,v,E,rfl,b,q⟩
end
def CtA(K:W.Frag)(x:Str)(c:Cst):Prop:=∃u,W.nsIn K mainGlobals x=some (some u)/\chk K c u=true
def z3s{K:W.Frag}{h:Heap}{mg:Str->Option Value}{x:Str}{c:Cst}(X:K.In h)(G:h.Ns mainGlobals mg)(q:CtA K x c):GC K mg x (.cn c) :=
 let ⟨u,a,b⟩:=q;let ⟨v,r,k⟩:=L4 c u b;⟨u,v,W.mg_of X G a,r,λ_ _=>k⟩
def ent(w:World)(p:Str×PySem.Tok×Value):DictEntry:=⟨hashStr w p.1,.str p.1 p.2.1,p.2.2⟩
def Rws(K:W.Frag):List (Str×PySem.Tok×Value)->List (Str×Cst)->Prop
 |[],tab=>tab=[]
 |p::l,tab=>∃c r,tab=(p.1,c)::r/\chk K c p.2.2=true/\Rws K l r
def Jn{P:Program}{w:World}(z:Str)(p:Str×PySem.Tok×Value)(l:List (Str×PySem.Tok×Value)):findBy (strKind P w).is ((p::l).map (ent w)).toArray z=if z=p.1 then some p.2.2 else findBy (strKind P w).is (l.map (ent w)).toArray z:=by
 unfold findBy;rw[List.find?_toArray,List.find?_toArray,zaG,zdR];have e:(strKind P w).is z (ent w p).key=(p.1==z):=rfl;rw[e];by_cases q:z=p.1
 ·rw[zaM q,q,zbC];rfl
 rw[zaJ q,zaS.mpr (λy=>q y.symm)]
theorem T9{P:Program}{w:World}{K:W.Frag}(z:Str):∀(l:List (Str×PySem.Tok×Value))(tab:List (Str×Cst)),Rws K l tab ->
  (tabL tab z=none->findBy (strKind P w).is (l.map (ent w)).toArray z=none)/\∀c,tabL tab z=some c->∃u v,findBy (strKind P w).is (l.map (ent w)).toArray z=some u/\RelV v u/\CRep K c v
 |[],tab,h=>by
  cases (show tab=[] from h)
  exact⟨λ_=>rfl,λc y=>by cases y⟩
 |p::l,tab,h=>by
  obtain⟨c,r,rfl,J,e⟩:=h;obtain⟨v,J,h2⟩:=L4 _ _ J;obtain⟨d,a⟩:=T9 z l r e;rw[Jn];unfold tabL;by_cases q:z=p.1
  ·rw[zaM q,zaM q];exact⟨λy=>(by cases y),λg y=>(by cases y;exact⟨_,v,rfl,J,h2⟩)⟩
  rw[zaJ q,zaJ q];exact⟨d,a⟩
def Rwe(K:W.Frag)(w:World):List DictEntry->List (Str×Cst)->Prop
 |es,[]=>es=[]
 |es,(k,c)::r=>∃t u l,es=⟨hashStr w k,.str k t,u⟩::l/\chk K c u=true/\Rwe K w l r
theorem Bb{K:W.Frag}{w:World}:∀{tab:List (Str×Cst)}{es:List DictEntry},Rwe K w es tab->∃l,es=l.map (ent w)/\Rws K l tab
 |[],_,h=>⟨[],h,rfl⟩
 |(k,c)::_,_,⟨t,u,_,e,h,q⟩=>let ⟨l,e',q'⟩:=Bb q;⟨(k,t,u)::l,by rw[e,e'];rfl,c,_,rfl,h,q'⟩
def GtA(K:W.Frag)(w:World)(x:Str)(d:List (Str×Cst)):Prop:=∃a es n,W.nsIn K mainGlobals x=some (some (.ref a))/\(a==sysModules)=false/\K.lookup a=some ⟨.type "dict",none,.dict es n,#[]⟩/\Rwe K w es.toList d
def z3g{P:Program}{w:World}{K:W.Frag}{h:Heap}{mg:Str->Option Value}{x:Str}{tab:List (Str×Cst)}(X:K.In h)(G:h.Ns mainGlobals mg)(q:GtA K w x tab):GT P w K mg x tab:=by
 obtain⟨a,es,n,j,g,hl,hr⟩:=q;obtain⟨l,e,h2⟩:=Bb hr;have e:es=(l.map (ent w)).toArray:=by rw[<- e]
 subst e;refine⟨a,findBy (strKind P w).is (l.map (ent w)).toArray,W.mg_of X G j,⟨⟨_,_,hl,λd hd=>?_,λk=>rfl⟩,g⟩,λz=>(T9 z l tab h2).1,λz=>(T9 z l tab h2).2⟩;rw[List.mem_toArray]at hd;obtain⟨p,_,rfl⟩:=zah.mp hd;exact⟨p.1,ZZ.isStr_self _ _,rfl⟩
abbrev NnA(K:W.Frag)(x:Str):Prop:=W.nsIn K mainGlobals x=some none
def Al(K:W.Frag):List (Str×Nat)->Prop
 |[]=>True
 |p::l=>(∃f fd,Fun K p.1 p.1 (top p.2) f fd/\W.nsIn K mainGlobals p.1=some (some (.ref f)))/\Al K l
def al_mk{K:W.Frag}{x:Str}{i:Nat}{l:List (Str×Nat)}{f:Addr}{j y:Option Addr}{e:Array (Option Value)}{r kV u g d v:Value}(a:W.nsIn K mainGlobals x=some (some (.ref f)))(q:K.lookup f=some ⟨r,j,.func (W.fnOf x x (ss (top i)) (yu (top i)) (ze (top i)) .none kV u g y d v),e⟩)(c:W.codeIn K d x=true)(k:W.keepIn K (.ref f)=true)(h:Al K l):Al K ((x,i)::l):=⟨⟨_,_,M7 q c k,a⟩,h⟩
theorem z1p{K:W.Frag}{h:Heap}{mg:Str->Option Value}(X:K.In h)(G:h.Ns mainGlobals mg):∀{l:List (Str×Nat)},Al K l->∀x i,(x,i)∈l->∃f fd,Fun K x x (top i) f fd/\mg x=some (.ref f)
 |_::_,⟨⟨f,fd,F,a⟩,q⟩,x,i,h=>by
  rcases zam.mp h with h|h
  ·cases h
   exact⟨f,fd,F,W.mg_of X G a⟩
  exact z1p X G q x i h
def MA(K:W.Frag)(C:Addr)(x q:Str)(i:Nat)(a:Value):Prop:=∃f fd,Fun K x q (mth i) f fd/\Meth K C x f/\fd.code=a
def ma_mk{K:W.Frag}{C:Addr}{x q:Str}{i:Nat}{f:Addr}{e v:Option Addr}{a:Array (Option Value)}{g kV r d cd u:Value}(b:W.findIn K (.ref C) x=some (some (.ref f)))(j:W.isFn K (.ref f)=true)(l:K.lookup f=some ⟨g,e,.func (W.fnOf x q (ss (mth i)) (yu (mth i)) (ze (mth i)) .none kV r d v cd u),a⟩)(c:W.codeIn K cd q=true)(k:W.keepIn K (.ref f)=true):MA K C x q i cd:=⟨_,_,M7 l c k,⟨b,j,k⟩,rfl⟩
def Ma(K:W.Frag)(C:Addr):List (Str×Str×Nat)->Prop
 |[]=>True
 |p::l=>(∃cd,MA K C p.1 p.2.1 p.2.2 cd)/\Ma K C l
theorem Er{K:W.Frag}{C:Addr}:∀{l:List (Str×Str×Nat)},Ma K C l->∀x q i,(x,q,i)∈l->∃f fd,Fun K x q (mth i) f fd/\Meth K C x f
 |_::_,⟨⟨_,f,fd,F,m,_⟩,r⟩,x,q,i,h=>by
  rcases zam.mp h with h|h
  ·cases h
   exact⟨f,fd,F,m⟩
  exact Er r x q i h
def tsL:List (Addr×Addr×Array Value):=[(133,129,#[.int 107 0,.int 24 0,.str "Path.found_empty.<locals>.<lambda>" 0]),(154,150,#[.int 124 0,.int 20 0,.str "Path.open_list.<locals>.<lambda>" 0]),(161,157,#[.int 129 0,.int 20 0,.str "Path.open_tree.<locals>.<lambda>" 0])]
abbrev GL(H:Hp):Prop:=∀b ps,(tsL.map (·.2)).lookup b=some ps->H b=some (.tbl ps)
def D9:Wt GL:=λH H' h s b ps e=>s _ _ (h b ps e)
def in0{P:Params}{h:Heap}(Y:(zK P).In h){b:Addr}{o:Obj}(e:(zK0 P).lookup b=some o):h.get? b=some o:=by
 refine Y b o ?_;have n:∀t:Addr,(zK0 P).lookup t=none->(b==t)=false:=λt z=>by
  cases q:b==t with
  |false=>rfl
  |true=>rw[zfT q]at e;rw[z]at e;cases e
 show List.lookup b ((_,_)::(_,_)::(_,_)::_)=_;rw[zbQ,n _ (by kernel_rfl),zbQ,n _ (by kernel_rfl),zbQ,n _ (by kernel_rfl)]
 exact e
def all_mk{l:W.OpenLaw}{w:World}{K:W.Frag}{h:Heap}{mg:Str->Option Value}{fa f C:Addr}(X:K.In h)(G:h.Ns mainGlobals mg)(a4:mg "law" = some (.ref fa)){od an:Option Addr}{sl L:Array (Option Value)}{oc kV dc pm cd ct:Value}(lA:Al K fL)(aL:W.nsIn K mainGlobals "law" = some (some (.ref f)))(lL:K.lookup f=some ⟨oc,od,.func (W.fnOf "law" "law" (ss (top 36)) (yu (top 36)) (ze (top 36)) .none kV dc pm an cd ct),sl⟩)(cL:W.codeIn K cd "law" = true)(kL:W.keepIn K (.ref f)=true)(aC:W.nsIn K mainGlobals "Path" = some (some (.ref C)))(mA:Ma K C mL)(m7:MA K C "found_empty" "Path.found_empty" 7 (.ref 133))(a0:MA K C "open_list" "Path.open_list" 10 (.ref 154))(ds:MA K C "open_tree" "Path.open_tree" 11 (.ref 161))(h7:W.codeHdIn K 133 129=true)(a7:W.codeHdIn K 154 150=true)(a6:W.codeHdIn K 161 157=true)(pg:W.plainGet K C Str.empty=true)(hd:W.hasDictIn K C=true)(po:W.plainOver K C=true)(sa:W.findIn K (.ref C) "__setattr__" = some (some (.builtin "object.__setattr__")))(mk:W.makesIn K C=true)(kc:W.keepIn K (.ref C)=true)(Y:W.findIn K (.ref C) "many" = some none)(V:W.findIn K (.ref C) "shape" = some none)(R:W.findIn K (.ref C) "lines" = some none)(Q:W.findIn K (.ref C) "own" = some none)(N:W.findIn K (.ref C) "steps" = some none)(M:W.findIn K (.ref C) "calls" = some none)(bB:W.nsIn K mainGlobals "__builtins__" = some (some (.ref 4)))(lB:K.lookup 4=some ⟨.type "module",some builtinsNs,.plain,L⟩)(d:NnA K "ValueError")(y:NnA K "bool")(x:NnA K "dict")(j:NnA K "enumerate")(D:NnA K "int")(a:NnA K "isinstance")(B:NnA K "len")(u:NnA K "list")(r:NnA K "range")(q:NnA K "tuple")(z:NnA K "zip")(cK:CtA K "KINDS" (.tup (x8.map Cst.str)))(tM:GtA K w "MAKES" mkT) :
  ∃fd:FuncData,(∀(s:Shared)(v:Value),BindsTo s fd ⟨[v],[]⟩ [("_law_script",v)])/\∀base:Heap,K.In base->base.Ns mainGlobals mg->FnOk l.prog w K mg base CX0 60 fa fd ["_law_script"] (spDH GL K 1 lawT):=by
 have e:=a4.symm.trans (W.mg_of X G aL);cases e;have T:Tops mg:=⟨zdF X G d,zdF X G y,zdF X G x,zdF X G j,zdF X G D,zdF X G a,zdF X G B,zdF X G u,zdF X G r,zdF X G q,zdF X G z⟩;have FF:=M7 (st:=top 36) lL cL kL;refine⟨W.fnOf "law" "law" (ss (top 36)) (yu (top 36)) (ze (top 36)) .none kV dc pm an cd ct,λs v=>.of_eq rfl,λbase _ _=>?_⟩;obtain⟨_,_,G7,H7,e7⟩:=m7;obtain⟨_,_,c1,b2,a9⟩:=a0;obtain⟨_,_,c0,b1,a8⟩:=ds;have O:CO K C xf:=⟨⟨pg,hd,po,sa⟩,λf hf=>by
  simp only[xf,zam,zaH,zbM]at hf;rcases hf with rfl|rfl|rfl|rfl|rfl|rfl
  ·exact Y
  ·exact V
  ·exact R
  ·exact Q
  ·exact N
  exact M⟩
 have bt:∀Pt:Addr,Pt≠4->∀h,K.In h->h.BuiltinsAt mg Pt:=λPt n h k=>⟨4,_,W.mg_of X G bB,by decide,by decide,λe=>n e.symm,k _ _ lB,rfl,rfl,rfl⟩
 have b0:LamT GL K mg _ 133 129 107 24 "Path.found_empty.<locals>.<lambda>":=⟨e7,λh k=>W.codeHd_of_K k h7,bt _ aB,λH g=>⟨0,0,0,g _ _ rfl⟩⟩
 have h1:LamT GL K mg _ 154 150 124 20 "Path.open_list.<locals>.<lambda>":=⟨a9,λh k=>W.codeHd_of_K k a7,bt _ aB,λH g=>⟨0,0,0,g _ _ rfl⟩⟩
 have I:LamT GL K mg _ 161 157 129 20 "Path.open_tree.<locals>.<lambda>":=⟨a8,λh k=>W.codeHd_of_K k a6,bt _ aB,λH g=>⟨0,0,0,g _ _ rfl⟩⟩
 obtain⟨_,_,_,H0⟩:=Er mA "__init__" "Path.__init__" 0 aB
 have X:AX l.prog w K mg C GL:=⟨T,O,D9,z3s X G cK,z3g X G tM,⟨_,mk,H0.at_,H0.fn,kc⟩,W.mg_of X G aC,z1p X G lA,Er mA,⟨_,_,_,_,G7,H7,b0⟩,⟨_,_,_,_,c1,b2,h1⟩,⟨_,_,_,_,c0,b1,I⟩⟩;have S:zv ["_law_script","_law_cell","_law_feed","_law_program","_law_function","_law_found","_law_ways_here","_law_path","_law_way","_law_kept"] ["_law_script"] (ze (top 36)):=by walk_at "f"
 exact Dg FF S λqZ A outer s H xs Z φ hr hl hT=>by
  obtain⟨ns,rfl,hn,a3⟩:=hT;exact An FF qZ A outer s H xs hr ns hn φ a3 X
end ZZ
open PySem PySem.W PyProof.Rows
set_option maxRecDepth 100000 in
set_option maxHeartbeats 0 in
theorem PySem.Challenge.cw_toll_k50_paths_in_order_holds : PySem.Challenge.rw_toll_k50_paths_in_order.Holds := by
 refine ZZ.opened ?_
 refine ZZ.walkDT (l:=PySem.Challenge.rw_toll_k50_paths_in_order) (K:=ZZ.zK0) (k:=60) (x:="_law_script") ZZ.tsL rfl rfl ⟨rfl,by decide,by decide⟩ (λw h Y=>?Y) (λw=>?T) ?F
 case Y =>
  have Y:=PySem.W.kIn_of Y
  exact ⟨λb o e=>ZZ.in0 (P:=w.params) Y e,zdE.mpr ⟨Y _ _ rfl,zdE.mpr ⟨Y _ _ rfl,zdE.mpr ⟨Y _ _ rfl,λ_ h=>nomatch h⟩⟩⟩⟩
 case T=>exact zdE.mpr ⟨⟨by kernel_rfl,by kernel_rfl⟩,zdE.mpr ⟨⟨by kernel_rfl,by kernel_rfl⟩,zdE.mpr ⟨⟨by kernel_rfl,by kernel_rfl⟩,λ_ h=>nomatch h⟩⟩⟩
 case F =>
  k_fill
  intro w mg g h d G a
  refine' ZZ.all_mk d G a ?lA ?aL ?lL ?cL ?kL ?aC ?mA ?m7 ?a0 ?a1 ?h7 ?a2 ?a3 ?pg ?hd ?po ?sa ?mk ?kc ?a4 ?a5 ?a6 ?a7 ?a8 ?a9 ?bB ?lB ?aa ?ab ?ac ?ad ?ae ?af ?ag ?ah ?ai ?aj ?ak ?cK ?tM
  case aL | aC | aa | ab | ac | ad | ae | af | ag | ah | ai | aj | ak=>show _=_; k_is
  case lA =>
   repeat refine ZZ.al_mk (by k_is) (by k_is) (by k_is) (by k_is) ?_
   exact zaA
  case mA =>
   repeat refine ⟨⟨_,ZZ.ma_mk (by k_is) (by k_is) (by k_is) (by k_is) (by k_is)⟩,?_⟩
   exact zaA
  case m7 | a0 | a1=>exact ZZ.ma_mk (by k_is) (by k_is) (by k_is) (by k_is) (by k_is)
  case h7 | a2 | a3=>kernel_rfl
  case lL | cL | kL | pg | hd | po | sa | mk | kc | a4 | a5 | a6 | a7 | a8 | a9 | bB | lB=>k_is
  case cK=>exact ⟨_,by k_is,by kernel_rfl⟩
  case tM=>exact ⟨_,_,_,by k_is,by kernel_rfl,by k_is,by repeat first | exact rfl | refine ⟨_,_,_,rfl,by kernel_rfl,?_⟩⟩
