import PyProof.Rows.All
import KE.IntBitsLaws
import KE.KDictOf
import KE.KDictSum
import KE.KIsAll
import KE.KItem
import KE.KRevIter
import PySem.Challenge.RW_toll_k73_dearest_reckoned
noncomputable section
set_option Elab.async false
set_option linter.all false
def zaa:=@PySem.wpAny_bind
def zab:=@PySem.wpAny_pure
def zac:=@PySem.Heap.get?_push_of_some
def zad:=@PySem.Heap.get?_push_size
def zae:=@PySem.Heap.lt_size
def zaf:=@List.getElem?_eq_getElem
def zag:=@List.getElem?_eq_some_iff
def zah:=@List.mem_map
def zai:=@List.getElem?_map
def zaj:=@Nat.le_refl
def zak:=@Nat.le_trans
def zal:=@List.mem_cons_of_mem
def zam:=@List.mem_cons
def zan:=@List.mem_of_getElem?
def zao:=@List.mem_cons_self
def zap:=@List.size_toArray
def zar:=@Option.map_eq_some_iff
def zas:=@List.mem_append
set_option maxRecDepth 100000
set_option maxHeartbeats 8000000
set_option exponentiation.threshold 5000
set_option compiler.extract_closed false
set_option bootstrap.genMatcherCode false
def zLa.{u} {α:Type u} {a b:List α}:(a++b).length=a.length+b.length:=List.length_append
def zLc.{u} {α:Type u} {x:α} {a:List α}:(x::a).length=a.length+1:=rfl
def zLn.{u} {α:Type u}:([]:List α).length=0:=rfl
def zLm.{u,v} {α:Type u} {j:Type v} {as:List α} (f:α->j):(as.map f).length=as.length:=List.length_map f
def zMa.{u,v} {α:Type u} {j:Type v} {f:α->j} {l₁ l₂:List α}:(l₁++l₂).map f=l₁.map f++l₂.map f:=List.map_append
set_option hygiene false in
local macro_rules | `(tactic| walk_at "t")=>`(tactic| (intro cl C fp s H; first | exact zm (i:=0) (by show ((_:List Str)++_).Nodup; decide +kernel) rfl (by walk_at "o") | exact uq (K0:=K) (n:=2) (by rfl) (by rfl) (ye (zm (i:=0) (by show ((_:List Str)++_).Nodup; decide +kernel) rfl (by walk_at "o")) (ye (zm (i:=1) (by show ((_:List Str)++_).Nodup; decide +kernel) rfl (by walk_at "o")) vn))))
set_option hygiene false in
local macro_rules | `(tactic| walk_at "b")=>`(tactic| (refine vt F S (F.binds fun _ _ _ _ _ _ us hl=>by first | (obtain ⟨_,rfl⟩:=j8 hl; rfl) | (obtain ⟨_,_,rfl⟩:=ur hl; rfl) | (obtain ⟨_,_,_,rfl⟩:=rf hl; rfl)) m fun qZ A outer s H E ds U hr hl hT=>?_; have hu:=hr.units))
set_option hygiene false in
local macro_rules | `(tactic| walk_at "p")=>`(tactic| simp only [ρ0,List.map_cons,List.map_nil,List.replicate,List.cons_append,List.nil_append])
local macro_rules | `(tactic| walk_at "o")=>`(tactic| first | exact Or.inl rfl | exact Or.inr rfl | exact Or.inr (Or.inl rfl) | exact Or.inr (Or.inr rfl))
local macro_rules | `(tactic| walk_at "f")=>`(tactic| exact ⟨rfl,rfl,rfl,by decide +kernel,rfl,by decide +kernel,by decide +kernel⟩)
local macro_rules | `(tactic| walk_at "c")=>`(tactic| exact ⟨rfl,by decide +kernel,by decide +kernel,by decide +kernel,by decide +kernel,by decide +kernel⟩)
local macro_rules | `(tactic| walk_at "m")=>`(tactic| exact ⟨by first | omega | (simp; omega),by repeat first | assumption | exact trivial | refine $(Lean.mkIdent `prs1) ?_ ?_⟩)
set_option hygiene false in
local macro_rules | `(tactic| walk_at "k")=>`(tactic| (delta z_V openEnds topFrom; rw [Fast.te14082659384304107361]; kernel_rfl))
namespace ZZ
open PySem PySem.Spec PyProof.Rows
def wu(s:Stmt):Arguments:=match s with
 |.FunctionDef _ a _ _ _ _ _ _ _ _=>a
 |_=>{posonlyargs:=[],args:=[],vararg:=none,kwonlyargs:=[],kw_defaults:=[],kwarg:=none,defaults:=[]}
def yi(s:Stmt):List Stmt:=match s with
 |.FunctionDef _ _ b _ _ _ _ _ _ _=>b
 |_=>[]
def zb(s:Stmt):Scope:=match s with
 |.FunctionDef _ _ _ _ _ _ sc _ _ _=>sc
 |_=>{kind:=.function,names:=[],isGenerator:=false,isCoroutine:=false}
def x6(s:Stmt)(j:Nat):Stmt:=match s with
 |.ClassDef _ _ _ body _ _ _ _ _ _ _=>body.getD j (.Pass ⟨0,0,0,0⟩)
 |_=>.Pass ⟨0,0,0,0⟩
def top(i:Nat):Stmt:=PySem.Challenge.pw_toll_k73_dearest_reckoned.main.body.getD i (.Pass ⟨0,0,0,0⟩)
section
open PySem.W PySem.PyData
def zE(P:Params)(s:Str)(t:Nat)(v:Value):DictEntry:=⟨keyHash P s,.str s t,v⟩
def zG(n q:Str)(s:Stmt)(d c m:Value)(k:Nat):Obj:=⟨.type "function",none,.func (fnOf n q (wu s) (yi s) (zb s) d .none c m none (.ref k) .none),#[]⟩
def zF(n:Str)(s:Stmt)(m:Str)(i k:Nat):Obj:=⟨.type "function",none,.func (fnOf n n (wu s) (yi s) (zb s) .none .none .none (.str m i) none (.ref k) .none),#[]⟩
def zB(n:Str)(a b c:Nat)(d e:Int)(g i l:Nat)(m:Int)(p:Nat):Obj:=⟨.type "code",none,.fields #[.str n a,.str n b,.str "/claim/cut.py" c,.int d 0,.int e 0,.int 0 0,.int 0 0,.int 3 0,.ref g,.bool true,.int 181 0,.ref i,.none,.none,.none,.ref l,.int m 0,.int d 0,.str "/claim/cut.py" p],#[]⟩
def zC(n:Str)(a:Nat)(q:Str)(b c:Nat)(d e f:Int)(g:Nat)(h:Int)(i j k l:Nat)(m o:Int)(p:Nat):Obj:=⟨.type "code",none,.fields #[.str n a,.str q b,.str "/claim/cut.py" c,.int d 0,.int e 0,.int 0 0,.int 0 0,.int f 0,.ref g,.bool true,.int h 0,.ref i,.none,.ref j,.ref k,.ref l,.int m 0,.int o 0,.str "/claim/cut.py" p],#[]⟩
def z_t(x:Array Value):Obj:=⟨.type "tuple",none,.seq x 0,#[]⟩
def z_u(P:Params)(m a:Nat)(l:Int)(r:Nat):Obj:=⟨.type "dict",none,.dict #[zE P "__module__" a (.str "toll.errors" m),zE P "__firstlineno__" (a+4) (.int l (a+3)),zE P "__static_attributes__" (a+5) (.ref r),zE P "__doc__" (a+6) .none] 2,#[]⟩
def z_v(n:Str)(u o d b a:Nat):Obj:=⟨.type "type",none,.cls ⟨n,[.ref u],[.ref o,.ref u,.type "ValueError",.type "Exception",.type "BaseException",.type "object"],d,n,true,[],[],false,none,false⟩,#[some (.ref b),none,some (.str n a),some (.str n (a+8)),some (.builtin "ValueError.__new__"),some (.bool true)]⟩
def z_w(n:Str)(a:Nat)(d e:Int)(g m:Nat):Obj:=⟨.type "code",none,.fields #[.str n a,.str n (a+1),.str "/claim/cut.py" (a+2),.int d 0,.int e 0,.int 0 0,.int 0 0,.int 3 0,.ref g,.bool true,.int 181 0,.ref (g+1),.none,.none,.none,.ref (g+2),.int m 0,.int d 0,.str "/claim/cut.py" (m+1)],#[]⟩
def z_x(n:Str)(a:Nat)(d e:Int)(g m:Nat):Obj:=zC n a n (a+1) (a+2) d e 3 g 181 (g+1) (g+2) (g+3) (g+4) m d (m+1)
def z_a(n:Str)(i c:Nat):Obj:=zF n (top i) "law_toll_k73_dearest_reckoned" 640 c
def z_b(n:Str)(i c:Nat):Obj:=zF n (top i) "toll.near" 554 c
def z_c(n:Str)(i c:Nat):Obj:=zF n (top i) "toll.values" 289 c
def z_d(n:Str)(i c:Nat):Obj:=zF n (top i) "toll.tables" 525 c
def z_y(P:Params)(n:Str)(a r:Nat):=zE P n a (.ref r)
noncomputable def zK(P:Params):Frag:=(nat_lit 2,⟨.none,none,(.dict #[] 0),#[]⟩)::
(nat_lit 3,⟨(.type "dict"),none,(.dict #[zE P "__name__" 165 (.str "law_toll_k73_dearest_reckoned" 640),zE P "__doc__" 166 .none,zE P "__package__" 167 .none,zE P "__loader__" 168 (.builtin "__main__.__loader__#opaque"),zE P "__spec__" 169 .none,z_y P "__annotations__" 170 6,z_y P "__builtins__" 171 4,zE P "__file__" 173 (.str "/claim/cut.py" 172),zE P "__cached__" 174 .none,z_y P "TollError" 206 24,z_y P "NoFunction" 222 37,z_y P "NoValue" 238 49,z_y P "NoTable" 254 61,z_y P "TooMany" 270 73,z_y P "is_whole" 279 82,z_y P "function_of" 288 89,z_y P "fits" 296 94,z_y P "is_tree" 305 101,z_y P "size_of" 313 108,z_y P "nodes_of" 323 115,zE P "MOST_CALLS" 327 (.int 20 326),zE P "MOST_SIZE" 329 (.int 100 328),z_y P "trace" 341 123,z_y P "check_args" 347 128,z_y P "Run" 524 258,z_y P "WORDS" 534 263,z_y P "is_price" 541 270,z_y P "check_table" 547 275,z_y P "price_of" 553 280,zE P "MOST_INPUTS" 557 (.int 243 556),z_y P "dearest" 574 288,z_y P "shapes_of" 580 293,z_y P "check_inputs" 592 300,z_y P "count_of" 603 307,z_y P "forms_of" 609 312,z_y P "inputs_of" 615 317,z_y P "values_of" 621 322,z_y P "trees_of" 633 329,z_y P "nodes_over" 639 334,z_y P "_law_cell_at" 649 341,z_y P "_law_whole" 656 348,z_y P "_law_names" 662 353,z_y P "_law_counting" 678 360,z_y P "_law_adding" 692 367,z_y P "_law_table" 703 374,z_y P "_law_number" 710 381,z_y P "_law_numbers" 720 388,z_y P "_law_priced" 728 395,z_y P "_law_row_of" 734 400,z_y P "_law_tree_of" 745 407,z_y P "law" 751 412] 51),#[]⟩)::
(nat_lit 15,z_t #[.type "ValueError"])::
(nat_lit 22,z_t #[])::
(nat_lit 23,⟨(.type "dict"),none,(.dict #[zE P "__module__" 196 (.str "toll.errors" 187),zE P "__firstlineno__" 200 (.int 2 199),z_y P "__static_attributes__" 201 22,z_y P "__weakref__" 203 25,zE P "__doc__" 204 .none] 3),#[]⟩)::
(nat_lit 24,⟨(.type "type"),none,(.cls ⟨"TollError",[(.type "ValueError")],[(.ref 24),(.type "ValueError"),(.type "Exception"),(.type "BaseException"),(.type "object")],23,"TollError",true,[],[(.ref 37),(.ref 49),(.ref 61),(.ref 73)],false,none,false⟩),#[(some (.ref 15)),none,(some (.str "TollError" 189)),(some (.str "TollError" 197)),(some (.builtin "ValueError.__new__")),(some (.bool true))]⟩)::
(nat_lit 25,⟨(.type "getset_descriptor"),none,(.fields #[(.str "__weakref__" 202),(.ref 24),(.builtin "ExceptionGroup.__weakref__"),.none]),#[]⟩)::
(nat_lit 28,z_t #[.ref 24])::
(nat_lit 35,z_t #[])::
(nat_lit 36,z_u P 187 214 4 35)::
(nat_lit 37,z_v "NoFunction" 24 37 36 28 207)::
(nat_lit 40,z_t #[.ref 24])::
(nat_lit 47,z_t #[])::
(nat_lit 48,z_u P 187 230 6 47)::
(nat_lit 49,z_v "NoValue" 24 49 48 40 223)::
(nat_lit 52,z_t #[.ref 24])::
(nat_lit 59,z_t #[])::
(nat_lit 60,z_u P 187 246 8 59)::
(nat_lit 61,z_v "NoTable" 24 61 60 52 239)::
(nat_lit 64,z_t #[.ref 24])::
(nat_lit 71,z_t #[])::
(nat_lit 72,z_u P 187 262 10 71)::
(nat_lit 73,z_v "TooMany" 24 73 72 64 255)::
(nat_lit 81,z_x "is_whole" 273 13 1 76 277)::
(nat_lit 82,zF "is_whole" (top 7) "toll.programs" 271 81)::
(nat_lit 88,z_x "function_of" 280 15 2 83 286)::
(nat_lit 89,zF "function_of" (top 8) "toll.programs" 271 88)::
(nat_lit 93,z_w "fits" 291 21 2 90 294)::
(nat_lit 94,z_c "fits" 10 93)::
(nat_lit 100,z_x "is_tree" 297 27 1 95 303)::
(nat_lit 101,z_c "is_tree" 11 100)::
(nat_lit 107,z_x "size_of" 306 37 2 102 311)::
(nat_lit 108,z_c "size_of" 12 107)::
(nat_lit 114,z_x "nodes_of" 314 43 1 109 321)::
(nat_lit 115,z_c "nodes_of" 13 114)::
(nat_lit 116,z_t #[.int 1000 330])::
(nat_lit 122,z_x "trace" 331 55 4 117 339)::
(nat_lit 123,zG "trace" "trace" (top 17) (.ref 116) .none (.str "toll.runs" 324) 122)::
(nat_lit 127,z_w "check_args" 342 61 2 124 345)::
(nat_lit 128,zF "check_args" (top 18) "toll.runs" 324 127)::
(nat_lit 139,⟨(.type "code"),none,(.fields #[(.str "__init__" 360),(.str "Run.__init__" 361),(.str "/claim/cut.py" 362),(.int 69 0),(.int 3 0),(.int 0 0),(.int 0 0),(.int 3 0),(.ref 136),(.bool true),(.int 181 0),(.ref 137),.none,.none,.none,(.ref 138),(.int 363 0),(.int 69 0),(.str "/claim/cut.py" 364)]),#[]⟩)::
(nat_lit 140,zG "__init__" "Run.__init__" (x6 (top 19) 0) .none .none (.str "toll.runs" 324) 139)::
(nat_lit 146,zC "told" 366 "Run.told" 367 368 79 1 3 141 181 142 143 144 145 370 79 371)::
(nat_lit 147,zG "told" "Run.told" (x6 (top 19) 1) .none .none (.str "toll.runs" 324) 146)::
(nat_lit 153,zC "go" 373 "Run.go" 374 375 84 1 3 148 181 149 150 151 152 378 84 379)::
(nat_lit 154,zG "go" "Run.go" (x6 (top 19) 2) .none .none (.str "toll.runs" 324) 153)::
(nat_lit 160,zC "step" 381 "Run.step" 382 383 100 3 3 155 181 156 157 158 159 387 100 388)::
(nat_lit 161,zG "step" "Run.step" (x6 (top 19) 3) .none .none (.str "toll.runs" 324) 160)::
(nat_lit 167,zC "own_step" 390 "Run.own_step" 391 392 107 2 3 162 181 163 164 165 166 395 107 396)::
(nat_lit 168,zG "own_step" "Run.own_step" (x6 (top 19) 4) .none .none (.str "toll.runs" 324) 167)::
(nat_lit 174,zC "standing" 398 "Run.standing" 399 400 110 2 3 169 181 170 171 172 173 403 110 404)::
(nat_lit 175,zG "standing" "Run.standing" (x6 (top 19) 5) .none .none (.str "toll.runs" 324) 174)::
(nat_lit 181,zC "stand" 406 "Run.stand" 407 408 113 3 3 176 181 177 178 179 180 413 113 414)::
(nat_lit 182,zG "stand" "Run.stand" (x6 (top 19) 6) .none .none (.str "toll.runs" 324) 181)::
(nat_lit 188,zC "taken" 416 "Run.taken" 417 418 117 2 3 183 181 184 185 186 187 422 117 423)::
(nat_lit 189,zG "taken" "Run.taken" (x6 (top 19) 7) .none .none (.str "toll.runs" 324) 188)::
(nat_lit 193,⟨(.type "code"),none,(.fields #[(.str "behind" 425),(.str "Run.behind" 426),(.str "/claim/cut.py" 427),(.int 122 0),(.int 3 0),(.int 0 0),(.int 0 0),(.int 3 0),(.ref 190),(.bool true),(.int 181 0),(.ref 191),.none,.none,.none,(.ref 192),(.int 428 0),(.int 122 0),(.str "/claim/cut.py" 429)]),#[]⟩)::
(nat_lit 194,zG "behind" "Run.behind" (x6 (top 19) 8) .none .none (.str "toll.runs" 324) 193)::
(nat_lit 200,zC "begin_body" 431 "Run.begin_body" 432 433 126 2 3 195 181 196 197 198 199 437 126 438)::
(nat_lit 201,zG "begin_body" "Run.begin_body" (x6 (top 19) 9) .none .none (.str "toll.runs" 324) 200)::
(nat_lit 207,zC "follow" 440 "Run.follow" 441 442 137 3 3 202 181 203 204 205 206 447 137 448)::
(nat_lit 208,zG "follow" "Run.follow" (x6 (top 19) 10) .none .none (.str "toll.runs" 324) 207)::
(nat_lit 214,zC "bring" 450 "Run.bring" 451 452 145 2 3 209 181 210 211 212 213 455 145 456)::
(nat_lit 215,zG "bring" "Run.bring" (x6 (top 19) 11) .none .none (.str "toll.runs" 324) 214)::
(nat_lit 221,zC "choose" 458 "Run.choose" 459 460 150 2 3 216 181 217 218 219 220 464 150 465)::
(nat_lit 222,zG "choose" "Run.choose" (x6 (top 19) 12) .none .none (.str "toll.runs" 324) 221)::
(nat_lit 228,zC "begin_value" 467 "Run.begin_value" 468 469 155 2 3 223 181 224 225 226 227 473 155 474)::
(nat_lit 229,zG "begin_value" "Run.begin_value" (x6 (top 19) 13) .none .none (.str "toll.runs" 324) 228)::
(nat_lit 235,zC "apply" 476 "Run.apply" 477 478 170 2 3 230 181 231 232 233 234 483 170 484)::
(nat_lit 236,zG "apply" "Run.apply" (x6 (top 19) 14) .none .none (.str "toll.runs" 324) 235)::
(nat_lit 242,zC "make" 486 "Run.make" 487 488 183 3 3 237 181 238 239 240 241 492 183 493)::
(nat_lit 243,zG "make" "Run.make" (x6 (top 19) 15) .none .none (.str "toll.runs" 324) 242)::
(nat_lit 247,⟨(.type "code"),none,(.fields #[(.str "enter" 495),(.str "Run.enter" 496),(.str "/claim/cut.py" 497),(.int 189 0),(.int 3 0),(.int 0 0),(.int 0 0),(.int 3 0),(.ref 244),(.bool true),(.int 181 0),(.ref 245),.none,.none,.none,(.ref 246),(.int 498 0),(.int 189 0),(.str "/claim/cut.py" 499)]),#[]⟩)::
(nat_lit 248,zG "enter" "Run.enter" (x6 (top 19) 16) .none .none (.str "toll.runs" 324) 247)::
(nat_lit 254,zC "leave" 501 "Run.leave" 502 503 201 1 3 249 181 250 251 252 253 506 201 507)::
(nat_lit 255,zG "leave" "Run.leave" (x6 (top 19) 17) .none .none (.str "toll.runs" 324) 254)::
(nat_lit 256,z_t #[.str "calls" 509,.str "frames" 510,.str "functions" 511,.str "is_cut" 512,.str "most" 513,.str "ready" 514,.str "steps" 515,.str "tasks" 516])::
(nat_lit 257,⟨(.type "dict"),none,(.dict #[zE P "__module__" 355 (.str "toll.runs" 324),zE P "__firstlineno__" 359 (.int 67 358),z_y P "__init__" 365 140,z_y P "told" 372 147,z_y P "go" 380 154,z_y P "step" 389 161,z_y P "own_step" 397 168,z_y P "standing" 405 175,z_y P "stand" 415 182,z_y P "taken" 424 189,z_y P "behind" 430 194,z_y P "begin_body" 439 201,z_y P "follow" 449 208,z_y P "bring" 457 215,z_y P "choose" 466 222,z_y P "begin_value" 475 229,z_y P "apply" 485 236,z_y P "make" 494 243,z_y P "enter" 500 248,z_y P "leave" 508 255,z_y P "__static_attributes__" 517 256,z_y P "__dict__" 519 259,z_y P "__weakref__" 521 260,zE P "__doc__" 522 .none] 4),#[]⟩)::
(nat_lit 258,⟨(.type "type"),none,(.cls ⟨"Run",[(.type "object")],[(.ref 258),(.type "object")],257,"Run",true,[],[],false,none,false⟩),#[none,none,(some (.str "Run" 348)),(some (.str "Run" 356)),(some (.builtin "object.__new__")),(some (.bool true))]⟩)::
(nat_lit 259,⟨(.type "getset_descriptor"),none,(.fields #[(.str "__dict__" 518),(.ref 258),(.builtin "function.__dict__"),(.builtin "function.__dict__#set")]),#[]⟩)::
(nat_lit 260,⟨(.type "getset_descriptor"),none,(.fields #[(.str "__weakref__" 520),(.ref 258),(.builtin "ExceptionGroup.__weakref__"),.none]),#[]⟩)::
(nat_lit 263,z_t #[.str "call" 527,.str "make" 528,.str "sum" 529,.str "let" 530,.str "less" 531,.str "open" 532,.str "hold" 533])::
(nat_lit 269,z_x "is_price" 535 206 1 264 539)::
(nat_lit 270,z_d "is_price" 22 269)::
(nat_lit 274,z_w "check_table" 542 208 1 271 545)::
(nat_lit 275,z_d "check_table" 23 274)::
(nat_lit 279,z_w "price_of" 548 213 2 276 551)::
(nat_lit 280,z_d "price_of" 24 279)::
(nat_lit 281,z_t #[.int 1000 558])::
(nat_lit 287,z_x "dearest" 559 218 6 282 572)::
(nat_lit 288,zG "dearest" "dearest" (top 27) (.ref 281) .none (.str "toll.near" 554) 287)::
(nat_lit 292,z_w "shapes_of" 575 228 2 289 578)::
(nat_lit 293,z_b "shapes_of" 28 292)::
(nat_lit 299,z_x "check_inputs" 581 230 3 294 590)::
(nat_lit 300,z_b "check_inputs" 29 299)::
(nat_lit 306,z_x "count_of" 593 236 3 301 601)::
(nat_lit 307,z_b "count_of" 30 306)::
(nat_lit 311,z_w "forms_of" 604 243 1 308 607)::
(nat_lit 312,z_b "forms_of" 31 311)::
(nat_lit 316,z_w "inputs_of" 610 248 3 313 613)::
(nat_lit 317,z_b "inputs_of" 32 316)::
(nat_lit 321,z_w "values_of" 616 256 3 318 619)::
(nat_lit 322,z_b "values_of" 33 321)::
(nat_lit 328,z_x "trees_of" 622 268 2 323 631)::
(nat_lit 329,z_b "trees_of" 34 328)::
(nat_lit 333,z_w "nodes_over" 634 276 3 330 637)::
(nat_lit 334,z_b "nodes_over" 35 333)::
(nat_lit 340,z_x "_law_cell_at" 642 283 2 335 647)::
(nat_lit 341,z_a "_law_cell_at" 37 340)::
(nat_lit 347,z_x "_law_whole" 650 287 1 342 654)::
(nat_lit 348,z_a "_law_whole" 38 347)::
(nat_lit 352,z_w "_law_names" 657 289 2 349 660)::
(nat_lit 353,z_a "_law_names" 39 352)::
(nat_lit 359,z_x "_law_counting" 663 300 3 354 676)::
(nat_lit 360,z_a "_law_counting" 40 359)::
(nat_lit 366,z_x "_law_adding" 679 306 2 361 690)::
(nat_lit 367,z_a "_law_adding" 41 366)::
(nat_lit 373,z_x "_law_table" 693 311 1 368 701)::
(nat_lit 374,z_a "_law_table" 42 373)::
(nat_lit 380,z_x "_law_number" 704 317 1 375 708)::
(nat_lit 381,z_a "_law_number" 43 380)::
(nat_lit 387,z_x "_law_numbers" 711 321 1 382 718)::
(nat_lit 388,z_a "_law_numbers" 44 387)::
(nat_lit 394,z_x "_law_priced" 721 329 2 389 726)::
(nat_lit 395,z_a "_law_priced" 45 394)::
(nat_lit 399,z_w "_law_row_of" 729 333 3 396 732)::
(nat_lit 400,z_a "_law_row_of" 46 399)::
(nat_lit 406,z_x "_law_tree_of" 735 337 3 401 743)::
(nat_lit 407,z_a "_law_tree_of" 47 406)::
(nat_lit 411,z_w "law" 746 347 1 408 749)::
(nat_lit 412,z_a "law" 48 411)::[]
noncomputable def zA:List Addr:=2::3::15::22::23::24::25::28::35::36::37::40::47::48::49::52::59::60::61::64::71::72::73::81::82::88::89::93::94::100::101::107::108::114::115::116::122::123::127::128::139::140::146::147::153::154::160::161::167::168::174::175::181::182::188::189::193::194::200::201::207::208::214::215::221::222::228::229::235::236::242::243::247::248::254::255::256::257::258::259::260::263::269::270::274::275::279::280::281::287::288::292::293::299::300::306::307::311::312::316::317::321::322::328::329::333::334::340::341::347::348::352::353::359::360::366::367::373::374::380::381::387::388::394::395::399::400::406::407::411::412::[]
def zAK(P:Params):zA=(zK P).map (·.1):=by kernel_rfl
noncomputable def zq:Program:={PySem.Challenge.pw_toll_k73_dearest_reckoned with main:={PySem.Challenge.pw_toll_k73_dearest_reckoned.main with body:=[1,2,3,4,5,7,8,10,11,12,13,15,16,18,19,21,22,23,24,26,28,29,30,31,32,33,34,35,37,38,39,40,41,42,43,44,45,46,47,48].filterMap λi=>PySem.Challenge.pw_toll_k73_dearest_reckoned.main.body[i]?}}
abbrev zX(s:Shared):Bool:=xlAt zq [] s&&recOk (RowW.records PySem.Challenge.rw_toll_k73_dearest_reckoned.row.toRowW) s
abbrev z_O(s:Shared):=Fast.tw4187177175401517315 zq ["trace","dearest"] (Fast.tw5923862056798008813 PySem.Challenge.pw_toll_k73_dearest_reckoned.main.body) zX true s
abbrev z_G:=openGood zq ["trace","dearest"]
abbrev z_V{β:Type}(p:Shared->β)(b:β)(w:World):Prop:=Option.map p (openEnds Fast.tw14364793385576792824 PySem.Challenge.pw_toll_k73_dearest_reckoned w 5880)=some b
abbrev zP(w:World):Prop:=z_V (λs=>(z_O s,zA.map s.heap.get?)) (z_G,(zK w.params).map λp=>some p.2) w
theorem o_m{α β γ:Type}{X:Option α}{f:α->β}{g:α->γ}{a:β}{b:γ}(h:X.map f=some a)(k:X.map g=some b):X.map (λs=>(f s,g s))=some (a,b):=by cases X <;> simp_all
theorem z_0(w:World):z_V (λs=>(z_O s).1) z_G.1 w:=by walk_at "k"
theorem z_1(w:World):z_V (λs=>(z_O s).2) z_G.2 w:=by walk_at "k"
theorem z_4(w:World):z_V (λs=>zA.map s.heap.get?) ((zK w.params).map λp=>some p.2) w:=by walk_at "k"
theorem hl0(w:World):zP w:=o_m (o_m (z_0 w) (z_1 w)) (z_4 w)
def hl1:LeftO PySem.Challenge.pw_toll_k73_dearest_reckoned zq ["trace","dearest"] zX (Hook.obs (kHook zK zA zAK)) (Hook.val (kHook zK zA zAK)) 5880:=by
 intro w;rw[Fast.te4187177175401517315,Fast.te5923862056798008813,Fast.te14364793385576792824];exact hl0 w
def said:PySem.Challenge.rw_toll_k73_dearest_reckoned.wellSaid=true:=by kernel_rfl
def zD:DefRec:=match top 48 with|.FunctionDef n a b _ _ _ c _ _ p=>⟨n,a,b,c,p⟩|_=>⟨"",⟨[],[],none,[],[],none,[]⟩,[],⟨.function,[],false,false,[]⟩,⟨0,0,0,0⟩⟩
def opened(B:WalkO zq ["trace","dearest"] (XL zq []) (Hook.says (kHook zK zA zAK)) PySem.Challenge.rw_toll_k73_dearest_reckoned.row.toRowW zD [] (λf vs=>PySem.call f vs)):PySem.Challenge.rw_toll_k73_dearest_reckoned.Holds:=by
 refine holds_law said λj=>holds_open (q:=zq) (loose:=["trace","dearest"]) (Xt:=zX) (XP:=XL zq []) (d:=zD) (kwd:=[]) (Yf:=Hook.obs (kHook zK zA zAK)) (Ya:=Hook.val (kHook zK zA zAK)) (YP:=Hook.says (kHook zK zA zAK)) (N:=5880) hl1 (Hook.of (kHook zK zA zAK)) (Hook.keeps (kHook zK zA zAK)) (λs e=>xl_of s (Bool.and_eq_true_iff.mp e).1) XL.keeps (by kernel_rfl) (by kernel_rfl) (by kernel_rfl) (λs e=>recFacts_of (Bool.and_eq_true_iff.mp e).2) (by kernel_rfl) j (by kernel_rfl) ⟨rfl,rfl,rfl,rfl,rfl,by decide +kernel⟩ ?hw B
 case hw=>w_witness2
end
abbrev Key:=Sum Int Str
def R7:Key->Value->Bool
 |.inl k,v=>Value.isInt k v
 |.inr x,v=>Value.isStrOf x v
def keyH(w:World):Key->Int
 |.inl k=>hashInt k
 |.inr x=>hashStr w x
def x5:∀{k:Key}{v:Value},R7 k v=true->(∃i t,k=Sum.inl i/\v=Value.int i t)\/(∃x t,k=Sum.inr x/\v=Value.str x t)
 |.inl i,v,h=>by
  obtain⟨t,e⟩:=Value.isInt_shape (k:=i) (v:=v) h;exact .inl ⟨i,t,rfl,e⟩
 |.inr x,v,h=>by
  obtain⟨t,e⟩:=Value.isStrOf_shape (x:=x) (v:=v) h;exact .inr ⟨x,t,rfl,e⟩
def Pr(i:Int)(t:Tok):R7 (.inl i) (.int i t)=true:=by simp[R7,Value.isInt]
def Pq(x:Str)(t:Tok):R7 (.inr x) (.str x t)=true:=by simp[R7,Value.isStrOf]
def Bx(a b:Int):decide ((Sum.inl a:Key)=Sum.inl b)=(a==b):=by
 by_cases e:a=b
 ·subst e;simp
 have h:¬ (Sum.inl a:Key)=Sum.inl b:=λq=>e (Sum.inl.inj q);rw[decide_eq_false h];exact(beq_eq_false_iff_ne.mpr e).symm
def Bu(a b:Str):decide ((Sum.inr a:Key)=Sum.inr b)=decide (a=b):=by
 by_cases e:a=b
 ·subst e;simp
 have h:¬ (Sum.inr a:Key)=Sum.inr b:=λq=>e (Sum.inr.inj q);rw[decide_eq_false h,decide_eq_false e]
def Bw(a:Int)(b:Str):decide ((Sum.inl a:Key)=Sum.inr b)=false:=decide_eq_false (λq=>nomatch q)
def Bv(a:Str)(b:Int):decide ((Sum.inr a:Key)=Sum.inl b)=false:=decide_eq_false (λq=>nomatch q)
def yk(prog:Program)(w:World):PySem.KeyKind prog w Key where
 is:=R7
 hash:=keyH w
 inj:=λv a b I B=>by
  rcases x5 I with⟨i,t,rfl,rfl⟩|⟨x,t,rfl,rfl⟩
  ·rcases x5 B with⟨j,u,rfl,e⟩|⟨y,u,rfl,e⟩
   ·injection e with e1 _;rw[e1]
   exact nomatch e
  rcases x5 B with⟨j,u,rfl,e⟩|⟨y,u,rfl,e⟩
  ·exact nomatch e
  injection e with e1 _;rw[e1]
 byValue:=λk v h=>by
  rcases x5 h with⟨i,t,rfl,rfl⟩|⟨x,t,rfl,rfl⟩ <;> rfl
 pyHash:=λq h=>by
  rcases x5 q with⟨i,t,rfl,rfl⟩|⟨x,t,rfl,rfl⟩
  ·exact wpAny_pyHash_int h
  exact wpAny_pyHash_str h
 eqBool:=λhu q h=>by
  rcases x5 hu with⟨i,t,rfl,rfl⟩|⟨x,t,rfl,rfl⟩
  ·rcases x5 q with⟨j,u,rfl,rfl⟩|⟨y,u,rfl,rfl⟩
   ·rw[Bx]at h;exact wpAny_eqBool_int h
   rw[Bw]at h;exact SeqAt.EqAt.int_str i t y u _ _ _ _ h
  rcases x5 q with⟨j,u,rfl,rfl⟩|⟨y,u,rfl,rfl⟩
  ·rw[Bv]at h;exact SeqAt.EqAt.str_int x t j u _ _ _ _ h
  rw[Bu]at h;exact wpAny_eqBool_str h
 «strs»:=λk x t v h=>by
  rcases x5 h with⟨i,u,rfl,e⟩|⟨y,u,rfl,e⟩
  ·exact nomatch e
  injection e with e1 _
  subst e1;cases v <;> rfl
def Wz(prog:Program)(w:World)(i:Int)(t:Tok):(yk prog w).is (.inl i) (.int i t)=true:=Pr i t
def gj(prog:Program)(w:World)(x:Str)(t:Tok):(yk prog w).is (.inr x) (.str x t)=true:=Pq x t
inductive V where
 |non|bl (b:Bool)|int (i:Int)|str (x:Str)|byt (b:Array UInt8)|flt (b:UInt64)|ref (a:Addr)|ty (n:String)
 deriving DecidableEq
def RelV:V->Value->Prop
 |.non,u=>u=Value.none
 |.bl b,u=>u=Value.bool b
 |.int i,u=>∃t,u=Value.int i t
 |.str x,u=>∃t,u=Value.str x t
 |.byt b,u=>∃t,u=Value.bytes b t
 |.flt b,u=>∃t,u=Value.float b t
 |.ref a,u=>u=Value.ref a
 |.ty n,u=>u=Value.type n
abbrev Vals:List V->List Value->Prop:=Paired RelV
theorem Vals.length(r:Vals xs us):xs.length=us.length:=Paired.length r
theorem Vals.get:∀{xs:List V}{us:List Value}{i:Nat}{x:V},Vals xs us->xs[i]?=some x->∃u,us[i]?=some u/\RelV x u
 |_,_,_,_,.nil,e=>by simp at e
 |_,_,0,_,.cons r _,e=>by simp at e;subst e;exact⟨_,rfl,r⟩
 |_,_,i+1,x,.cons _ t,e=>by
  obtain⟨u,h1,h2⟩:=Vals.get (i:=i) (x:=x) t (by simpa using e)
  exact⟨u,by simpa using h1,h2⟩
theorem Vals.set(r:RelV x u):∀{xs:List V}{us:List Value}(i:Nat),Vals xs us->Vals (xs.set i x) (us.set i u)
 |_,_,_,.nil=>.nil
 |_,_,0,.cons _ t=>.cons r t
 |_,_,i+1,.cons q t=>.cons q (Vals.set r i t)
theorem Vals.append:∀{xs ys:List V}{us ws:List Value},Vals xs us->Vals ys ws->Vals (xs++ys) (us++ws)
 |_,_,_,_,.nil,s=>s
 |_,_,_,_,.cons r t,s=>.cons r (Vals.append t s)
theorem Vals.take:∀{xs:List V}{us:List Value}(n:Nat),Vals xs us->Vals (xs.take n) (us.take n)
 |_,_,0,_=>.nil
 |_,_,_+1,.nil=>.nil
 |_,_,n+1,.cons r t=>.cons r (Vals.take n t)
theorem Vals.drop:∀{xs:List V}{us:List Value}(n:Nat),Vals xs us->Vals (xs.drop n) (us.drop n)
 |_,_,0,r=>r
 |_,_,_+1,.nil=>.nil
 |_,_,n+1,.cons _ t=>Vals.drop n t
def Vals.none_of:∀{xs:List V}{us:List Value}{i:Nat},Vals xs us->xs[i]?=none->us[i]?=none:=λ{xs us i} r e=>by
 have h1:=r.length;have h2:xs.length<=i:=List.getElem?_eq_none_iff.mp e;exact List.getElem?_eq_none_iff.mpr (by omega)
def RelO:Option V->Option Value->Prop
 |some v,some u=>RelV v u
 |none,none=>True
 |_,_=>False
def KV{κ:Type}:List (κ×V)->List (κ×Value)->Prop:=Paired λ(p:κ×V)(q:κ×Value)=>p.1=q.1/\RelV p.2 q.2
def kV:Key->V
 |.inl i=>.int i
 |.inr x=>.str x
inductive HO where
  |lst (xs:List V)
  |tup (xs:List V)
  |dK (kvs:List (Key×V))|dT (kvs:List (List Key×V))
  |set (S:Int->Bool) (n:Nat)
  |ins (C dx:Addr) (fs:List (Str×V))
  |own (x:Addr)
  |xd (fs:List (Str×V))
  |met (f x:Addr)
  |rng (lo hi:Int)
  |frz (o:Obj) (u:HO)
  |tbl (ps:Array Value)
  |ext (U:Heap->Prop)
abbrev Hp:=Addr->Option HO
def upd(H:Hp)(a:Addr)(o:HO):Hp:=λb=>if b=a then some o else H b
def zw:upd H a o a=some o:=by unfold upd;rw[if_pos rfl]
def y0(h:b≠a):upd H a o b=H b:=by unfold upd;rw[if_neg h]
def z0v{H:Hp}{o u:HO}(h:H a=some o)(h':H b=some u)(d:o≠u):a≠b:=by
 intro e;subst e;rw[h]at h';exact d (Option.some.inj h')
def zg{H:Hp}{o:HO}(h:H a=some o)(h':H b=none):a≠b:=by
 intro e;subst e;rw[h]at h';cases h'
section
variable(P:Program)(w:World)
def wm(H:Hp)(h:Heap)(a:Addr):HO->Prop
 |.lst xs=>xs.length<=sizeLine/\∃(its:List Value)(n:Nat),Vals xs its/\h.get? a=some {cls:=.type "list",data:=.seq its.toArray n}
 |.tup xs=>xs.length<=sizeLine/\∃its:List Value,Vals xs its/\IsTup h a its.toArray/\∃o,h.get? a=some o/\o.dict=none
 |.dK kvs=>kvs.length<=sizeLine/\(a==sysModules)=false/\∃vs,KV kvs vs/\h.DictOf (yk P w) a vs
 |.dT kvs=>kvs.length<=sizeLine/\(a==sysModules)=false/\∃xs:List (List Key×Addr×Value),
   Paired (λ(p:List Key×V)(q:List Key×Addr×Value)=>p.1=q.1/\H q.2.1=some (.tup (p.1.map kV))/\RelV p.2 q.2.2) kvs xs /\
   ∃o es ep,h.get? a=some o/\o.ExactDict/\o.data=.dict es ep/\es.toList=xs.map (entryOfKey (tupleKind (yk P w)))/\(xs.map (·.1)).Nodup
 |.set S n=>h.SetOf (intKind P w) a S n
 |.ins C dx fs=>H dx=some (.own a)/\fs.length<=1000/\dx≠a/\h.get? a=some (W.instObj C dx) /\
   ∃mA,h.Ns1 dx mA/\(∀f,RelO (fs.lookup f) (mA f))/\PySem.Within mA (fs.map (·.1))
 |.own _=>∃o,h.get? a=some o
 |.xd fs=>∃mA,h.Ns1 a mA/\∀f,RelO (fs.lookup f) (mA f)
 |.rng lo hi=>∃t u v,h.get? a=some {cls:=.type "range",data:=.fields #[.int lo t,.int hi u,.int 1 v]}
 |.frz o u=>h.get? a=some o/\wm H h a u
 |.tbl ps=>h.get? a=some {cls:=.none,data:=.fields ps}
 |.met f x=>h.get? a=some (W.methodObj (.ref f) (.ref x))
 |.ext U=>U h/\(∃o,h.get? a=some o)/\∀h1 h2:Heap,U h1->(∀o,h1.get? a=some o->h2.get? a=some o)->U h2
def HOk(H:Hp)(h:Heap):Prop:=∀a o,H a=some o->wm P w H h a o
end
variable{P:Program}{w:World}{H H':Hp}{h h':Heap}{a:Addr}{o:HO}
theorem wm.lt(x:wm P w H h a o):a<h.objs.size:=by
 cases o with
 |lst xs=>obtain⟨_,_,_,_,e⟩:=x;exact zae e
 |tup xs=>obtain⟨_,_,_,p⟩:=x;exact p.1.lt
 |dK kvs=>obtain⟨_,_,_,_,o,_,_,e,_⟩:=x;exact zae e
 |dT kvs=>obtain⟨_,_,_,_,o,_,_,e,_⟩:=x;exact zae e
 |set S n=>obtain⟨o,_,_,_,e,_⟩:=x;exact zae e
 |ins C dx fs=>obtain⟨_,_,_,e,_⟩:=x;exact zae e
 |own y=>obtain⟨_,e⟩:=x;exact zae e
 |xd fs=>obtain⟨_,⟨_,_,_,e,_⟩,_⟩:=x;exact zae e
 |rng lo hi=>obtain⟨_,_,_,e⟩:=x;exact zae e
 |frz ob u=>obtain⟨e,_⟩:=x;exact zae e
 |tbl ps=>exact zae (show h.get? a=some _ from x)
 |met f y=>exact zae (show h.get? a=some _ from x)
 |ext U=>obtain⟨_,⟨_,e⟩,_⟩:=x;exact zae e
theorem Paired.mapP{α j:Type}{F G:α->j->Prop}:∀{l₁:List α}{l₂:List j},Paired F l₁ l₂->(∀a b,F a b->G a b)->Paired G l₁ l₂
 |_,_,.nil,_=>.nil
 |_,_,.cons r t,f=>.cons (f _ _ r) (Paired.mapP t f)
def wm.stay(x:wm P w H h a o)(k:∀ b u,(b=a\/H b=some (.own a))->h.get? b=some u->h'.get? b=some u)(ho:∀ b,H b=some (.own a)->H' b=some (.own a))(M:∀ b xs,H b=some (.tup xs)->H' b=some (.tup xs)):wm P w H' h' a o:=by
 induction o with
 |lst xs=>obtain⟨z,its,n,r,e⟩:=x;exact⟨z,its,n,r,k _ _ (.inl rfl) e⟩
 |tup xs=>obtain⟨z,its,r,⟨j,e,c⟩,B,N,Z⟩:=x;exact⟨z,its,r,⟨j,k _ _ (.inl rfl) e,c⟩,B,k _ _ (.inl rfl) N,Z⟩
 |dK kvs=>obtain⟨z,y,vs,r,j,es,ep,e,c⟩:=x;exact⟨z,y,vs,r,j,es,ep,k _ _ (.inl rfl) e,c⟩
 |dT kvs =>
  obtain⟨z,y,xs,r,j,es,ep,e,c⟩:=x;exact⟨z,y,xs,Paired.mapP r λp q z=>⟨z.1,M _ _ z.2.1,z.2.2⟩,j,es,ep,k _ _ (.inl rfl) e,c⟩
 |set S n=>obtain⟨j,es,ep,t,e,c⟩:=x;exact⟨j,es,ep,t,k _ _ (.inl rfl) e,c⟩
 |ins C dx fs =>
  obtain⟨d,z,I,e,mA,⟨B,es,ep,e2,c⟩,r⟩:=x;exact⟨ho _ d,z,I,k _ _ (.inl rfl) e,mA,⟨B,es,ep,k _ _ (.inr d) e2,c⟩,r⟩
 |own y=>obtain⟨j,e⟩:=x;exact⟨j,k _ _ (.inl rfl) e⟩
 |xd fs=>obtain⟨mA,⟨B,es,ep,e,c⟩,r⟩:=x;exact⟨mA,⟨B,es,ep,k _ _ (.inl rfl) e,c⟩,r⟩
 |rng lo hi=>obtain⟨t,u,v,e⟩:=x;exact⟨t,u,v,k _ _ (.inl rfl) e⟩
 |frz j u ih=>obtain⟨e,q⟩:=x;exact⟨k _ _ (.inl rfl) e,ih q⟩
 |tbl ps =>
  have e:h.get? a=some {cls:=.none,data:=.fields ps}:=x;show h'.get? a=some {cls:=.none,data:=.fields ps};exact k a _ (.inl rfl) e
 |met f y =>
  have e:h.get? a=some (W.methodObj (.ref f) (.ref y)):=x;show h'.get? a=some (W.methodObj (.ref f) (.ref y));exact k a _ (.inl rfl) e
 |ext U=>obtain⟨p,⟨o,e⟩,st⟩:=x;exact⟨st _ _ p λo q=>k _ _ (.inl rfl) q,⟨o,k _ _ (.inl rfl) e⟩,st⟩
theorem HOk.lt(x:HOk P w H h)(e:H a=some o):a<h.objs.size:=(x a o e).lt
def HOk.fresh(x:HOk P w H h)(e:h.objs.size<=a):H a=none:=by
 cases q:H a with
 |none=>rfl
 |some u=>exact absurd (Nat.lt_of_lt_of_le (x.lt q) e) (Nat.lt_irrefl _)
def HOk.kept(x:HOk P w H h)(k:∀ b u,h.get? b=some u->h'.get? b=some u):HOk P w H h':=λa o e =>
 (x a o e).stay (λb u _ q=>k b u q) (λ_ q=>q) λ_ _ q=>q
def HOk.laid(x:HOk P w H h)(k:∀ b u,h.get? b=some u->h'.get? b=some u)(I:h.objs.size<=a)(j:wm P w (upd H a o) h' a o):HOk P w (upd H a o) h':=λb u e=>by
 have B:=x.fresh I;by_cases hb:b=a
 ·subst hb;rw[zw]at e;cases e;exact j
 rw[y0 hb]at e;exact(x b u e).stay (λc v _ q=>k c v q) (λc q=>by rw[y0 (zg q B)];exact q) λc xs q=>by rw[y0 (zg q B)];exact q
def Rd(H:Hp)(a:Addr)(u:HO):Prop:=H a=some u\/∃o,H a=some (.frz o u)
def Rd.ok(r:Rd H a u)(x:HOk P w H h):wm P w H h a u:=by
 rcases r with r|⟨o,r⟩
 ·exact x a u r
 obtain⟨_,q⟩:=x a _ r;exact q
def Mut:Option HO->Prop
 |some (.lst _)=>True
 |some (.dK _)=>True
 |some (.dT _)=>True
 |some (.set _ _)=>True
 |some (.ins _ _ _)=>True
 |some (.ext _)=>True
 |_=>False
section
variable{x e:Addr}{o':HO}
def HOk.write(ok:HOk P w H h)(I:Mut (H x))(he:e=x\/H e=some (.own x))(k:∀ b u,b≠e->h.get? b=some u->h'.get? b=some u)(Z:∃ u,h'.get? e=some u)(N:wm P w (upd H x o') h' x o'):HOk P w (upd H x o') h':=λb u q=>by
 have j:∀c y,H c=some (.own y)->c≠x:=λc y r z=>by subst z;rw[r]at I;exact I
 have B:∀c xs,H c=some (.tup xs)->c≠x:=λc xs r z=>by subst z;rw[r]at I;exact I
 by_cases hb:b=x
 ·subst hb;rw[zw]at q;cases q;exact N
 rw[y0 hb]at q;by_cases hbe:b=e
 ·have q':H b=some (.own x):=by
   rcases he with z|z
   ·exact absurd (hbe.trans z) hb
   rw[hbe];exact z
  rw[q]at q';cases q';obtain⟨v,hv⟩:=Z;exact⟨v,by rw[hbe];exact hv⟩
 refine(ok b u q).stay (λc v M r=>k c v ?_ r) (λc r=>by rw[y0 (j c b r)];exact r) λc xs r=>by rw[y0 (B c xs r)];exact r
 rcases M with rfl|M
 ·exact hbe
 rintro rfl;rcases he with z|z
 ·exact j c b M z
 rw[M]at z;cases z;exact hb rfl
end
structure Un(fs ex:List Addr)(H H':Hp)(h h':Heap):Prop where
 keep:∀b o,h.get? b=some o->H b=none->b∉fs->b∉ex->h'.get? b=some o
 slot:∀b o,h.get? b=some o->H b=none->b∈fs->b∉ex->∃sl,h'.get? b=some {o with slots:=sl}
 free:∀b o,h.get? b=some o->H b=none->b∉ex->H' b=none
 there:∀b o,h.get? b=some o->b∉ex->∃o',h'.get? b=some o'
 tups:∀b xs,H b=some (.tup xs)->H' b=some (.tup xs)
 frzs:∀b o u,H b=some (.frz o u)->H' b=some (.frz o u)
 tbls:∀b ps,H b=some (.tbl ps)->∃more,H' b=some (.tbl (ps++more))
section
variable{fs ex:List Addr}{H1 H2:Hp}{h1 h2:Heap}{x e:Addr}
def Un.any(u:Un fs ex H H1 h h1)(q:h.get? b=some ob)(n:H b=none)(j:b∉ex):∃sl,h1.get? b=some {ob with slots:=sl}:=by
 by_cases hb:b∈fs
 ·exact u.slot b ob q n hb j
 exact⟨ob.slots,u.keep b ob q n hb j⟩
def Un.trans(a:Un fs ex H H1 h h1)(b:Un fs ex H1 H2 h1 h2):Un fs ex H H2 h h2 where
 keep:=λc j q n I B=>b.keep c j (a.keep c j q n I B) (a.free c j q n B) I B
 slot:=λc j q n I B=>by
  obtain⟨sl,e1⟩:=a.slot c j q n I B;obtain⟨M,e2⟩:=b.slot c _ e1 (a.free c j q n B) I B;exact⟨M,e2⟩
 free:=λc j q n B=>by
  obtain⟨o',e1⟩:=a.there c j q B;exact b.free c o' e1 (a.free c j q n B) B
 there:=λc j q B=>by
  obtain⟨o',e1⟩:=a.there c j q B;exact b.there c o' e1 B
 tups:=λc xs q=>b.tups c xs (a.tups c xs q)
 frzs:=λc j xs q=>b.frzs c j xs (a.frzs c j xs q)
 tbls:=λc ps q=>by
  obtain⟨Z,e1⟩:=a.tbls c ps q;obtain⟨N,e2⟩:=b.tbls c _ e1;exact⟨Z++N,by rw[e2,Array.append_assoc]⟩
def Un.kept(k:∀ b u,h.get? b=some u->h'.get? b=some u):Un fs ex H H h h' :=
 ⟨λb j q _ _ _=>k b j q,λb j q _ _ _=>⟨j.slots,k b j q⟩,λ_ _ _ n _=>n,λb j q _=>⟨j,k b j q⟩,λ_ _ q=>q,λ_ _ _ q=>q,λ_ ps q=>⟨#[],by rw[q];simp⟩⟩
def Un.refl:Un fs ex H H h h:=Un.kept λ_ _ q=>q
def Un.laid(k:∀ b u,h.get? b=some u->h'.get? b=some u)(B:h.objs.size<=a)(j:H a=none):Un fs ex H (upd H a o) h h' where
 keep:=λb u q _ _ _=>k b u q
 slot:=λb u q _ _ _=>⟨u.slots,k b u q⟩
 free:=λb u q n _=>by rw[y0 (Nat.ne_of_lt (Nat.lt_of_lt_of_le (zae q) B))];exact n
 there:=λb u q _=>⟨u,k b u q⟩
 tups:=λb xs q=>by rw[y0 (zg q j)];exact q
 frzs:=λb u xs q=>by rw[y0 (zg q j)];exact q
 tbls:=λb ps q=>⟨#[],by rw[y0 (zg q j),q];simp⟩
def Un.write(j:Mut (H x))(he:e=x\/H e=some (.own x))(k:∀ b u,b≠e->h.get? b=some u->h'.get? b=some u)(I:∃ u,h'.get? e=some u):Un fs ex H (upd H x o) h h':=by
 have M:∀b,H b=none->b≠x:=λb n z=>by subst z;rw[n]at j;exact j
 have N:∀b,H b=none->b≠e:=λb n z=>by
  subst z;rcases he with r|r
  ·exact M b n r
  rw[n]at r;cases r
 have B:∀b u,H b=some u->¬ Mut (some u)->b≠x:=λb u q Z z=>by subst z;rw[q]at j;exact Z j
 refine⟨λb u q n _ _=>k b u (N b n) q,λb u q n _ _=>⟨u.slots,k b u (N b n) q⟩,λb u q n _=>by rw[y0 (M b n)];exact n,λb u q _=>?_,
  λb xs q=>by rw[y0 (B b _ q λz=>z)];exact q,λb u xs q=>by rw[y0 (B b _ q λz=>z)];exact q,λb ps q=>⟨#[],by rw[y0 (B b _ q λz=>z),q];simp⟩⟩
 by_cases hbe:b=e
 ·subst hbe;exact I
 exact⟨u,k b u hbe q⟩
end
def trk(h:Heap)(H:Hp):List Addr:=(List.range h.objs.size).filter λa=>(H a).isSome
def hidT(h:Heap)(H:Hp):Heap:=W.hideAll h (trk h H)
def O3(h:Heap)(H:Hp):(hidT h H).objs.size=h.objs.size:=W.hideAll_size _ _
def Le{o:Obj}(e:h.get? b=some o)(n:H b=none):(hidT h H).get? b=some o :=
 W.hideAll_get _ e λj=>by
  have q:(H b).isSome=true:=(List.mem_filter.mp j).2;rw[n]at q;simp at q
def Fu{o:Obj}(e:(hidT h H).get? b=some o):h.get? b=some o/\H b=none:=by
 have j:h.get? b=some o:=W.of_hideAll (trk h H) e;refine⟨j,?_⟩;cases q:H b with
 |none=>rfl
 |some x =>
  have B:b∈trk h H:=List.mem_filter.mpr ⟨List.mem_range.mpr (zae j),by simp[q]⟩
  have z:(hidT h H).get? b=none:=W.hideAll_none (trk h H) B;rw[z]at e;cases e
def D5(g h:Heap)(L:Addr):List (Addr×Obj):=(List.range h.objs.size).filterMap λa=>if a=L\/(g.get? a).isSome=true then none else(h.get? a).map λo=>(a,o)
def rest(g h:Heap)(L d:Addr):List (Addr×Obj):=(D5 g h L).filter λp=>decide (p.1≠d)
structure Mod(K:W.Frag)(mg:Str->Option Value)(base:Heap):Prop where
 kin:K.In base
 glob:base.Ns mainGlobals mg
 blt:∃mb,base.Ns builtinsNs mb/\∀x:Str,x≠"__name__"->mb x=bootBuiltins x
 nolimit:base.NoLimit
structure Cx where
 prog:Program
 w:World
 K:W.Frag
 mg:Str->Option Value
 base:Heap
 A:Around
 N:List Str
 s₀:Shared
 H_:Hp
 env:Env
 outer:List Env
 stack:List Env
 ex:List Addr
 fn:Str->Bool
 calm:Bool
 pn:List (Addr×Obj)
 xe:Value->Shared->Prop
def frs(l:List Env):List Addr:=l.filterMap (·.frame)
abbrev Cx.fs(X:Cx):List Addr:=frs X.outer
def Vis(j:Scope)(x:Str):Prop:=j.names.lookup x=some .local\/j.names.lookup x=some .cell\/j.names.lookup x=some .free
def Loc(j:Scope)(x:Str):Prop:=j.names.lookup x=some .local\/j.names.lookup x=some .cell
def Look(env:Env)(h:Heap)(m:Str->Option Value)(x:Str)(u:Value):Prop :=
 (env.kindOf x=some .local/\m x=some u)\/((env.kindOf x=some .cell\/env.kindOf x=some .free)/\∃c,env.cells.lookup x=some c/\h.IsCell c (some u))
structure Cx.Ok(X:Cx):Prop where
 mod:Mod X.K X.mg X.base
 kind:X.env.scope.kind=.function
 glob:X.env.globals=mainGlobals
 blt:X.env.builtins=builtinsNs
 above:X.s₀.heap.objs.size<=X.env.locals
 inj:∀x y c,X.env.cells.lookup x=some c->X.env.cells.lookup y=some c->x=y
 has:∀x,(X.env.kindOf x=some .cell\/X.env.kindOf x=some .free)->∃c,X.env.cells.lookup x=some c
 cab:∀x c,X.fn x=true->X.env.cells.lookup x=some c->X.s₀.heap.objs.size<=c
 hd:X.calm=true->X.A.handled=none
 frames:X.A.frames=some X.stack
 stk:X.stack=X.outer\/(X.stack=X.env::X.outer/\X.env.frame=some X.env.locals)
 exf:∀b∈X.ex,b≠X.env.locals/\∀x c,X.env.cells.lookup x=some c->c≠b
 bs:∀b o,X.base.get? b=some o->X.s₀.heap.get? b=some o/\X.H_ b=none
 bsz:X.base.objs.size<=X.s₀.heap.objs.size
 noex:∀b o,X.base.get? b=some o->b∉X.ex
 exfs:∀b∈X.ex,b∉X.fs
 funs:X.s₀.heap.FunFrames X.base X.outer
 frf:∀b∈X.fs,X.H_ b=none
structure Inv(X:Cx)(pn:List (Addr×Obj))(G:List (Option V))(H:Hp)(s:Shared):Prop where
 ok:X.Ok
 os:s.os=X.s₀.os
 bare:AllBare s.gens
 base:Un X.fs X.ex X.H_ H X.s₀.heap s.heap
 loc:∃m,s.heap.Ns X.env.locals m/\∀(i:Nat)(x:Str)(v:V),X.N[i]?=some x->G[i]?=some (some v)->Vis X.env.scope x->∃u,RelV v u/\Look X.env s.heap m x u
 cell:∀x c,X.env.cells.lookup x=some c->∃v,s.heap.IsCell c v
 free:H X.env.locals=none
 freeC:∀x c,X.env.cells.lookup x=some c->H c=none
 pin:∀p∈X.pn++pn,s.heap.get? p.1=some p.2/\H p.1=none/\p.1≠X.env.locals/\p.1∉X.fs/\∀v,p.2.data≠.cell v
 hok:HOk X.prog X.w H s.heap
 len:G.length=X.N.length
variable{X:Cx}{pn:List (Addr×Obj)}{G:List (Option V)}{s:Shared}
def Cx.Ok.nofr(ok:X.Ok){o:Obj}(e:X.base.get? b=some o):b∉X.fs:=λj=>by
 have:=(ok.funs.mem j).1;rw[e]at this;cases this
theorem Inv.bs(I:Inv X pn G H s):∀b o,X.base.get? b=some o->s.heap.get? b=some o/\H b=none:=λb o e =>
 ⟨I.base.keep b o (I.ok.bs b o e).1 (I.ok.bs b o e).2 (I.ok.nofr e) (I.ok.noex b o e),I.base.free b o (I.ok.bs b o e).1 (I.ok.bs b o e).2 (I.ok.noex b o e)⟩
def Inv.bk(I:Inv X pn G H s):∀b o,X.base.get? b=some o->s.heap.get? b=some o:=λb o e=>(I.bs b o e).1
theorem Inv.mod(I:Inv X pn G H s):Mod X.K X.mg X.base:=I.ok.mod
def Inv.kIn(I:Inv X pn G H s):X.K.In s.heap:=I.ok.mod.kin.keeps I.bk
theorem Inv.lt(I:Inv X pn G H s):X.env.locals<s.heap.objs.size:=let ⟨_,hn,_⟩:=I.loc;hn.lt
def Inv.sz(I:Inv X pn G H s):X.s₀.heap.objs.size<=s.heap.objs.size:=zak I.ok.above (Nat.le_of_lt I.lt)
def Inv.nofs(I:Inv X pn G H s)(h:s.heap.objs.size<=a):a∉X.fs:=λj=>by
 obtain⟨_,o,ho,_⟩:=I.ok.funs.mem j;exact absurd (Nat.lt_of_lt_of_le (zae ho) (zak I.sz h)) (Nat.lt_irrefl _)
def Inv.cne(I:Inv X pn G H s):∀x c,X.env.cells.lookup x=some c->c≠X.env.locals:=λx c e z=>by
 obtain⟨v,o,ho,B⟩:=I.cell x c e;obtain⟨m,⟨o',es,ep,j,q,_⟩,_⟩:=I.loc;rw[z,j]at ho;cases ho;rw[q]at B;cases B
theorem Inv.funs(I:Inv X pn G H s):s.heap.FunFrames X.base X.outer:=by
 have all:∀(l:List Env),(∀b∈frs l,b∈X.fs)->X.s₀.heap.FunFrames X.base l->s.heap.FunFrames X.base l:=by
  intro l
  induction l with
  |nil=>intro _ _;trivial
  |cons env r ih =>
   intro hs hl;obtain⟨N,⟨L,o,j,M,ho,Z⟩,hr⟩:=hl;have B:L∈X.fs:=hs L (by unfold frs;rw[List.filterMap_cons,j];exact zao)
   obtain⟨sl,e⟩:=I.base.slot L o ho (I.ok.frf L B) B λz=>I.ok.exfs L z B;exact⟨N,⟨L,_,j,M,e,Z⟩,ih (λb q=>hs b (by unfold frs;rw[List.filterMap_cons,j];exact zal _ q)) hr⟩
 exact all X.outer (λ_ q=>q) I.ok.funs
theorem Inv.stack(I:Inv X pn G H s):s.heap.FunFrames X.base X.stack:=by
 rcases I.ok.stk with e|⟨e,hf⟩
 ·rw[e];exact I.funs
 rw[e];obtain⟨m,j,_⟩:=I.loc;refine .cons (by rw[I.ok.kind];decide) hf j ?_ I.funs
 exact Heap.get?_none_of_le (zak I.ok.bsz I.ok.above)
def Inv.stkSub(I:Inv X pn G H s):∀b∈frs X.stack,b∈X.env.locals::X.fs:=λb j=>by
 rcases I.ok.stk with e|⟨e,hf⟩
 ·rw[e]at j;exact zal _ j
 rw[e]at j;unfold frs at j;rw[List.filterMap_cons,hf]at j;exact j
def Inv.stkFree(I:Inv X pn G H s):∀b∈frs X.stack,H b=none:=λb j=>by
 rcases zam.mp (I.stkSub b j) with e|j
 ·rw[e];exact I.free
 obtain⟨_,o,ho,_⟩:=I.ok.funs.mem j;exact I.base.free b o ho (I.ok.frf b j) λz=>I.ok.exfs b z j
def Inv.step{t':Nat}{d':Drawn}{ch:List Addr}(I:Inv X pn G H s)(M:∀ b∈ch,(b∈X.ex\/X.s₀.heap.objs.size<=b)/\b≠X.env.locals/\(∀ x c,X.env.cells.lookup x=some c->c≠b)/\∀ p∈X.pn++pn,p.1≠b)(keep:∀ b o,b≠X.env.locals->b∉X.fs->b∉ch->s.heap.get? b=some o->H b=none->h'.get? b=some o)(slot:∀ b o,b≠X.env.locals->b∈X.fs->b∉ch->s.heap.get? b=some o->H b=none->∃ sl,h'.get? b=some {o with slots:=sl})(free:∀ b o,b∉ch->s.heap.get? b=some o->H b=none->H' b=none)(there:∀ b o,b∉ch->s.heap.get? b=some o->∃ o',h'.get? b=some o')(tups:∀ b xs,H b=some (.tup xs)->H' b=some (.tup xs))(frzs:∀ b o u,H b=some (.frz o u)->H' b=some (.frz o u))(tbls:∀ b ps,H b=some (.tbl ps)->∃ more,H' b=some (.tbl (ps++more)))(ns:∀ m,s.heap.Ns X.env.locals m->h'.Ns X.env.locals m)(a2:HOk X.prog X.w H' h')(hg:AllBare g') :
  Inv X pn G H' {s with heap:=h',gens:=g',drawn:=d',toks:=t'}:=by
 have a0:∀b o,X.s₀.heap.get? b=some o->b≠X.env.locals:=λb o e=>Nat.ne_of_lt (Nat.lt_of_lt_of_le (zae e) I.ok.above);have Z:∀b o,X.s₀.heap.get? b=some o->b∉X.ex->b∉ch:=λb o e j hb=>by
  rcases(M b hb).1 with z|z
  ·exact j z
  exact absurd (Nat.lt_of_lt_of_le (zae e) z) (Nat.lt_irrefl _)
 have N:∀x c,X.env.cells.lookup x=some c->∀v,s.heap.IsCell c v->h'.IsCell c v:=λx c e v Zh=>by
  obtain⟨o,ho,hd⟩:=Zh;have B:c∉ch:=λz=>(M c z).2.2.1 x c e rfl;by_cases hc:c∈X.fs
  ·obtain⟨sl,q⟩:=slot c o (I.cne x c e) hc B ho (I.freeC x c e);exact⟨_,q,hd⟩
  exact⟨o,keep c o (I.cne x c e) hc B ho (I.freeC x c e),hd⟩
 refine⟨I.ok,I.os,hg,⟨λb o e n hb j=>?_,λb o e n hb j=>?_,λb o e n j=>?_,λb o e j=>?_,λb xs e=>tups b xs (I.base.tups b xs e),λb o xs e=>frzs b o xs (I.base.frzs b o xs e),λb ps e=>?_⟩,?_,λx c e=>?_,?_,λx c e=>?_,λp hp=>?_,a2,I.len⟩
 ·exact keep b o (a0 b o e) hb (Z b o e j) (I.base.keep b o e n hb j) (I.base.free b o e n j)
 ·obtain⟨sl,e1⟩:=I.base.slot b o e n hb j;obtain⟨a1,e2⟩:=slot b _ (a0 b o e) hb (Z b o e j) e1 (I.base.free b o e n j);exact⟨a1,e2⟩
 ·obtain⟨o',e1⟩:=I.base.there b o e j;exact free b o' (Z b o e j) e1 (I.base.free b o e n j)
 ·obtain⟨o',e1⟩:=I.base.there b o e j;exact there b o' (Z b o e j) e1
 ·obtain⟨m1,e1⟩:=I.base.tbls b ps e;obtain⟨m2,e2⟩:=tbls b _ e1;exact⟨m1++m2,by rw[e2,Array.append_assoc]⟩
 ·obtain⟨m,hn,hl⟩:=I.loc;refine⟨m,ns m hn,λi x v e1 e2 e3=>?_⟩;obtain⟨u,r,l⟩:=hl i x v e1 e2 e3;refine⟨u,r,?_⟩;rcases l with l|⟨k,c,e,z⟩
  ·exact .inl l
  exact .inr ⟨k,c,e,N x c e _ z⟩
 ·obtain⟨v,z⟩:=I.cell x c e;exact⟨v,N x c e v z⟩
 ·obtain⟨m,⟨o,_,_,ho,_⟩,_⟩:=I.loc;exact free _ o (λz=>(M _ z).2.1 rfl) ho I.free
 ·obtain⟨v,o,ho,hd⟩:=I.cell x c e;exact free c o (λz=>(M c z).2.2.1 x c e rfl) ho (I.freeC x c e)
 obtain⟨e,n,ne,nf,d⟩:=I.pin p hp;have B:p.1∉ch:=λz=>(M p.1 z).2.2.2 p hp rfl;exact⟨keep p.1 p.2 ne nf B e n,free p.1 p.2 B e n,ne,nf,d⟩
def Inv.un{t':Nat}(I:Inv X pn G H s)(u:Un X.fs [] H H' s.heap h')(q:HOk X.prog X.w H' h'):Inv X pn G H' {s with heap:=h',toks:=t'}:=by
 obtain⟨m,⟨o,es,ep,ho,r⟩,_⟩:=id I.loc;obtain⟨sl,hL⟩:=u.any ho I.free (by simp)
 exact I.step (g':=s.gens) (d':=s.drawn) (ch:=[]) (λ_ z=>nomatch z) (λb o _ B _ e n=>u.keep b o e n B (by simp)) (λb o _ B _ e n=>u.slot b o e n B (by simp)) (λb o _ e n=>u.free b o e n (by simp)) (λb o _ e=>u.there b o e (by simp)) u.tups u.frzs u.tbls (λm' hm=>by
  obtain⟨o',M,N,j,Z⟩:=hm;rw[ho]at j;cases j;exact⟨_,M,N,hL,Z⟩) q I.bare
def Inv.call{t':Nat}{d':Drawn}(I:Inv X pn G H s)(u:Un (frs X.stack) ch H H' s.heap h')(M:HOk X.prog X.w H' h')(hg:AllBare g')(B:∀ b∈ch,(b∈X.ex\/X.s₀.heap.objs.size<=b)/\b≠X.env.locals/\(∀ x c,X.env.cells.lookup x=some c->c≠b)/\∀ p∈X.pn++pn,p.1≠b) :
  Inv X pn G H' {s with heap:=h',gens:=g',drawn:=d',toks:=t'}:=by
 obtain⟨m,⟨o,es,ep,ho,r⟩,_⟩:=id I.loc;obtain⟨sl,N⟩:=u.any ho I.free λz=>(B _ z).2.1 rfl;exact I.step (ch:=ch) B (λb o N hb j e n=>u.keep b o e n (λz=>(zam.mp (I.stkSub b z)).elim N hb) j) (λb o _ _ j e n=>u.any e n j) (λb o j e n=>u.free b o e n j) (λb o j e=>u.there b o e j) u.tups u.frzs u.tbls (λm' hm=>by
  obtain⟨o',Z,a0,q,r'⟩:=hm;rw[ho]at q;cases q;exact⟨_,Z,a0,N,r'⟩) M hg
def Inv.turned{t':Nat}{it:Addr}(I:Inv X pn G H s)(k:∀ b o,b≠it->s.heap.get? b=some o->h'.get? b=some o)(N:H it=none)(M:it≠X.env.locals)(h1:it∈X.ex\/X.s₀.heap.objs.size<=it)(h2:∀ x c,X.env.cells.lookup x=some c->c≠it)(h3:∀ p∈X.pn++pn,p.1≠it):Inv X pn G H {s with heap:=h',toks:=t'}:=by
 have B:∀b u,H b=some u->b≠it:=λb u e z=>by rw[z,N]at e;cases e
 refine I.step (g':=s.gens) (d':=s.drawn) (ch:=[it]) (λb hb=>?_) (λb o _ _ j e _=>k b o (λz=>j (by simp[z])) e) (λb o _ _ j e _=>⟨o.slots,k b o (λz=>j (by simp[z])) e⟩) (λ_ _ _ _ n=>n)
  (λb o j e=>⟨o,k b o (λz=>j (by simp[z])) e⟩) (λ_ _ e=>e) (λ_ _ _ e=>e) (λb ps e=>⟨#[],by rw[e];simp⟩) (λm Z=>?_) (λb u e=>?_) I.bare
 ·have e:b=it:=by simpa using hb
  subst e;exact⟨h1,M,h2,h3⟩
 ·obtain⟨o,es,ep,ho,r⟩:=Z;exact⟨o,es,ep,k _ o (Ne.symm M) ho,r⟩
 refine(I.hok b u e).stay (λc v j q=>k c v ?_ q) (λ_ q=>q) λ_ _ q=>q;rcases j with z|z
 ·rw[z];exact B b u e
 exact B c _ z
def Inv.tok(I:Inv X pn G H s)(t:Nat):Inv X pn G H {s with toks:=t}:=I.un (h':=s.heap) (t':=t) Un.refl I.hok
theorem Inv.kept(I:Inv X pn G H s)(k:∀ b u,s.heap.get? b=some u->h'.get? b=some u):Inv X pn G H {s with heap:=h',toks:=t'}:=I.un (Un.kept k) (I.hok.kept k)
theorem Inv.laid(I:Inv X pn G H s)(k:∀ b u,s.heap.get? b=some u->h'.get? b=some u)(q:s.heap.objs.size<=a)(j:wm X.prog X.w (upd H a o) h' a o) :
  Inv X pn G (upd H a o) {s with heap:=h',toks:=t'}:=I.un (Un.laid k q (I.hok.fresh q)) (I.hok.laid k q j)
theorem Inv.write(I:Inv X pn G H s)(B:Mut (H x))(M:e=x\/H e=some (.own x))(k:∀ b u,b≠e->s.heap.get? b=some u->h'.get? b=some u)(j:∃ u,h'.get? e=some u)(q:wm X.prog X.w (upd H x o) h' x o):Inv X pn G (upd H x o) {s with heap:=h',toks:=t'}:=I.un (Un.write B M k j) (I.hok.write B M k j q)
def Inv.weak(I:Inv X pn G H s)(hl:σ'.length=G.length)(w:∀ (i:Nat) v,σ'[i]?=some (some v)->G[i]?=some (some v)):Inv X pn σ' H s :=
 ⟨I.ok,I.os,I.bare,I.base,let ⟨m,hn,hl'⟩:=I.loc;⟨m,hn,λi x v e1 e2 j=>hl' i x v e1 (w i v e2) j⟩,I.cell,I.free,I.freeC,I.pin,I.hok,hl.trans I.len⟩
def Inv.pins_of(I:Inv X pn G H s)(h:∀ p∈pins',s.heap.get? p.1=some p.2/\H p.1=none/\p.1≠X.env.locals/\p.1∉X.fs/\∀ v,p.2.data≠.cell v):Inv X pins' G H s :=
 ⟨I.ok,I.os,I.bare,I.base,I.loc,I.cell,I.free,I.freeC,λp j=>(zas.mp j).elim (λz=>I.pin p (List.mem_append_left _ z)) (h p),I.hok,I.len⟩
def Uz{N:List Str}(q:N.Nodup){i j:Nat}{x:Str}(a:N[i]?=some x)(b:N[j]?=some x):i=j:=by
 obtain⟨h1,e1⟩:=zag.mp a;obtain⟨h2,e2⟩:=zag.mp b;exact(List.getElem_inj q).mp (e1.trans e2.symm)
def Yl(I:Inv X pn G H s)(hN:X.N.Nodup)(hi:X.N[i]?=some x)(hx:Loc X.env.scope x)(r:RelV v u)(h:∀ s',Inv X pn (G.set i (some v)) H s'->(∃ a,Heap.SameBut a s.heap s'.heap/\(a=X.env.locals\/X.env.cells.lookup x=some a))->Q () s')(hf:X.fn x=true\/X.env.scope.names.lookup x=some .local:=by first|exact .inl rfl|exact .inr rfl|assumption):wpAny M A (storeName X.env x u) Q E s:=by
 obtain⟨m,hn,hl⟩:=id I.loc;have a5:(X.env.scope.kind==.class || (X.env.scope.kind==.module&&X.env.locals != X.env.globals))=false:=by rw[I.ok.kind];rfl
 have a1:i<G.length:=by rw[I.len];exact(zag.mp hi).1
 have cne:=I.cne;have B:∀{a:Addr}{h':Heap},(∃o,s.heap.get? a=some o/\H a=none)->Heap.SameBut a s.heap h'->HOk X.prog X.w H h':=λ{a h'} ha hs b ob e=>by
  obtain⟨_,_,a0⟩:=ha;refine(I.hok b ob e).stay (λc w' Z q=>(hs.2 c ?_).trans q) (λ_ q=>q) λ_ _ q=>q;rintro rfl;rcases Z with rfl|Z
  ·rw[a0]at e;cases e
  rw[a0]at Z;cases Z
 rcases hx with hk|hk
 ·refine wpAny_storeName_local hk hn (λh' a8 hs=>?_) a5;obtain⟨oL,_,_,a7,_⟩:=id hn;refine h _ ⟨I.ok,I.os,I.bare,⟨λb o e n hb hx=>?_,λb o e n hb hx=>?_,I.base.free,λb o e hx=>?_,I.base.tups,I.base.frzs,I.base.tbls⟩,⟨_,a8,λj y v' e1 e2 e3=>?_⟩,λy c e=>?_,I.free,I.freeC,λp hp=>?_,B ⟨oL,a7,I.free⟩ hs,by simpa using I.len⟩ ⟨_,hs,.inl rfl⟩
  ·exact(hs.2 b (Nat.ne_of_lt (Nat.lt_of_lt_of_le (zae e) I.ok.above))).trans (I.base.keep b o e n hb hx)
  ·obtain⟨sl,e1⟩:=I.base.slot b o e n hb hx;exact⟨sl,(hs.2 b (Nat.ne_of_lt (Nat.lt_of_lt_of_le (zae e) I.ok.above))).trans e1⟩
  ·obtain⟨o',e1⟩:=I.base.there b o e hx;exact⟨o',(hs.2 b (Nat.ne_of_lt (Nat.lt_of_lt_of_le (zae e) I.ok.above))).trans e1⟩
  ·by_cases hj:j=i
   ·subst hj;rw[hi]at e1;cases e1;rw[List.getElem?_set_self a1]at e2;cases e2;exact⟨u,r,.inl ⟨hk,by simp⟩⟩
   rw[List.getElem?_set_ne (Ne.symm hj)]at e2;obtain⟨u',r',q⟩:=hl j y v' e1 e2 e3;refine⟨u',r',?_⟩;rcases q with⟨k,e⟩|⟨k,c,e,z⟩
   ·refine .inl ⟨k,?_⟩;have:y≠x:=λe=>hj (Uz hN e1 (e▸hi));simp[this,e]
   exact .inr ⟨k,c,e,z.sameBut hs (cne y c e)⟩
  ·obtain⟨w',z⟩:=I.cell y c e;exact⟨w',z.sameBut hs (cne y c e)⟩
  obtain⟨e,n,ne,nf,d⟩:=I.pin p hp;exact⟨(hs.2 p.1 ne).trans e,n,ne,nf,d⟩
 have a2:X.fn x=true:=by
  rcases hf with z|z
  ·exact z
  rw[z]at hk;cases hk
 obtain⟨c,Z⟩:=I.ok.has x (.inl hk);obtain⟨w',z⟩:=I.cell x c Z;refine wpAny_storeName_cell I.ok.kind hk Z z (λh' a6 hs=>?_);obtain⟨oc,a4,a3⟩:=id z;refine h {s with heap:=h'} ⟨I.ok,I.os,I.bare,⟨λb o e n hb hx=>?_,λb o e n hb hx=>?_,I.base.free,λb o e hx=>?_,I.base.tups,I.base.frzs,I.base.tbls⟩,⟨m,hn.sameBut hs (Ne.symm (cne x c Z)),λj y v' e1 e2 e3=>?_⟩,λy c' e=>?_,I.free,I.freeC,λp hp=>?_,B ⟨oc,a4,I.freeC x c Z⟩ hs,by simpa using I.len⟩ ⟨c,hs,.inr Z⟩
 ·exact(hs.2 b (Nat.ne_of_lt (Nat.lt_of_lt_of_le (zae e) (I.ok.cab x c a2 Z)))).trans (I.base.keep b o e n hb hx)
 ·obtain⟨sl,e1⟩:=I.base.slot b o e n hb hx;exact⟨sl,(hs.2 b (Nat.ne_of_lt (Nat.lt_of_lt_of_le (zae e) (I.ok.cab x c a2 Z)))).trans e1⟩
 ·obtain⟨o',e1⟩:=I.base.there b o e hx;exact⟨o',(hs.2 b (Nat.ne_of_lt (Nat.lt_of_lt_of_le (zae e) (I.ok.cab x c a2 Z)))).trans e1⟩
 ·by_cases hj:j=i
  ·subst hj;rw[hi]at e1;cases e1;rw[List.getElem?_set_self a1]at e2;cases e2;exact⟨u,r,.inr ⟨.inl hk,c,Z,a6⟩⟩
  rw[List.getElem?_set_ne (Ne.symm hj)]at e2;obtain⟨u',r',q⟩:=hl j y v' e1 e2 e3;refine⟨u',r',?_⟩;rcases q with q|⟨k,c',e,z'⟩
  ·exact .inl q
  refine .inr ⟨k,c',e,z'.sameBut hs ?_⟩;rintro rfl;exact hj (Uz hN e1 (I.ok.inj _ _ _ e Z▸hi))
 ·by_cases hcc:c'=c
  ·subst hcc;exact⟨_,a6⟩
  obtain⟨w2,z2⟩:=I.cell y c' e;exact⟨w2,z2.sameBut hs hcc⟩
 obtain⟨e,n,ne,nf,d⟩:=I.pin p hp;refine⟨(hs.2 p.1 ?_).trans e,n,ne,nf,d⟩;intro q;rw[q,a4]at e;have q':oc=p.2:=Option.some.inj e;exact d w' (by rw[<- q'];exact a3)
def Z3(I:Inv X pn G H s)(B:X.N.Nodup)(hi:X.N[i]?=some x)(j:Loc X.env.scope x)(r:RelV v u)(h:∀ s',Inv X pn (G.set i (some v)) H s'->Q () s')(q:X.fn x=true\/X.env.scope.names.lookup x=some .local:=by first|exact .inl rfl|exact .inr rfl|assumption):wpAny M A (storeName X.env x u) Q E s :=
 Yl I B hi j r (λs' Z _=>h s' Z) q
def Inv.call'(I:Inv X pn G H s)(ho:s'.os=s.os)(u:Un (frs X.stack) ch H H' s.heap s'.heap)(j:HOk X.prog X.w H' s'.heap)(B:AllBare s'.gens)(q:∀ b∈ch,(b∈X.ex\/X.s₀.heap.objs.size<=b)/\b≠X.env.locals/\(∀ x c,X.env.cells.lookup x=some c->c≠b)/\∀ p∈X.pn++pn,p.1≠b):Inv X pn G H' s':=by
 obtain⟨h',g',d',t',o'⟩:=s';have e:o'=s.os:=ho;subst e;exact I.call (g':=g') (t':=t') (d':=d') u j B q
abbrev XK:=Value->Option Addr->Hp->Prop
abbrev St:=List (Option V)
abbrev VK:=V->Hp->Prop
abbrev TE:=St->Hp->VK->Prop
abbrev TT:=St->Hp->(Bool->Hp->Prop)->Prop
abbrev TA:=St->Hp->(List V->Hp->Prop)->Prop
structure Ends where
 nx:St->Hp->Prop
 rt:VK
 bk:St->Hp->Prop:=λ_ _=>False
 ct:St->Hp->Prop:=λ_ _=>False
abbrev TS:=Ends->St->Hp->Prop
def EP(X:Cx)(pn:List (Addr×Obj))(G:St)(Q:VK)(u:Value)(s':Shared):Prop:=∃v H',Inv X pn G H' s'/\RelV v u/\Q v H'
def TP(X:Cx)(pn:List (Addr×Obj))(G:St)(Q:Bool->Hp->Prop)(b:Bool)(s':Shared):Prop:=∃H',Inv X pn G H' s'/\Q b H'
def AP(X:Cx)(pn:List (Addr×Obj))(G:St)(Q:List V->Hp->Prop)(us:List Value)(s':Shared):Prop:=∃vs H',Inv X pn G H' s'/\Vals vs us/\Q vs H'
def SP(X:Cx)(pn:List (Addr×Obj))(D:Ends)(f:Flow)(s':Shared):Prop :=
 match f with
 |.next=>∃σ' H',Inv X pn σ' H' s'/\D.nx σ' H'
 |.brk=>∃σ' H',Inv X pn σ' H' s'/\D.bk σ' H'
 |.cont=>∃σ' H',Inv X pn σ' H' s'/\D.ct σ' H'
 |.ret u=>∃v σ' H',Inv X pn σ' H' s'/\RelV v u/\D.rt v H'
def PE(X:Cx)(e:Expr)(t:TE):Prop :=
 ∀(pn:List (Addr×Obj))(s:Shared)(G:St)(H:Hp)(Q:VK),Inv X pn G H s->t G H Q->wpAny (model X.prog X.w) X.A (eval e X.env) (EP X pn G Q) X.xe s
def PT(X:Cx)(e:Expr)(t:TT):Prop :=
 ∀(pn:List (Addr×Obj))(s:Shared)(G:St)(H:Hp)(Q:Bool->Hp->Prop),Inv X pn G H s->t G H Q->wpAny (model X.prog X.w) X.A (isTrue e X.env (eval e X.env)) (TP X pn G Q) X.xe s
def PW(X:Cx)(e:Expr)(t:TT):Prop :=
 ∀(whole:Sem Value)(pn:List (Addr×Obj))(s:Shared)(G:St)(H:Hp)(Q:Bool->Hp->Prop),Inv X pn G H s->t G H Q->wpAny (model X.prog X.w) X.A (isTrue e X.env whole) (TP X pn G Q) X.xe s
def PW.pt(h:PW X e t):PT X e t:=h _
def PA(X:Cx)(es:List Expr)(t:TA):Prop :=
 ∀(pos:Pos)(pn:List (Addr×Obj))(s:Shared)(G:St)(H:Hp)(Q:List V->Hp->Prop),Inv X pn G H s->t G H Q->wpAny (model X.prog X.w) X.A (spliced (backTo pos (starEach es X.env))) (AP X pn G Q) X.xe s
def PS(X:Cx)(st:Stmt)(t:TS):Prop :=
 ∀(pn:List (Addr×Obj))(s:Shared)(G:St)(H:Hp)(D:Ends),Inv X pn G H s->t D G H->wpAny (model X.prog X.w) X.A (exec st X.env) (SP X pn D) X.xe s
def PSs(X:Cx)(st:List Stmt)(t:TS):Prop :=
 ∀(pn:List (Addr×Obj))(s:Shared)(G:St)(H:Hp)(D:Ends),Inv X pn G H s->t D G H->wpAny (model X.prog X.w) X.A (execs st X.env) (SP X pn D) X.xe s
def thn{α:Type}{t:Sem α}{Q j:α->Shared->Prop}{E:Value->Shared->Prop}(h:wpAny M A t Q E s)(q:∀ a s,Q a s->j a s):wpAny M A t j E s:=wpAny_mono h q λ_ _ x=>x
def tVar(i:Nat):TE:=λG H Q=>∃v,G[i]?=some (some v)/\Q v H
def tC(v:V):TE:=λ_ H Q=>Q v H
abbrev D_(x:Str):Prop:=(x==("__debug__" : Str))=false
def uw(hN:X.N[i]?=some x)(hv:Vis X.env.scope x)(M:D_ x:=by decide)(Z:(x==("__classdict__" : Str))=false:=by decide):PE X (.Name x pos) (tVar i):=by
 intro pn s G H Q I h;obtain⟨v,e,h⟩:=h;obtain⟨m,hn,hl⟩:=I.loc;obtain⟨u,r,l⟩:=hl i x v hN e hv;have B:EP X pn G Q u s:=⟨v,H,I,r,h⟩;rcases l with⟨q,hm⟩|⟨q,c,hc,j⟩
 ·exact wpAny_Name (wpAny_loadName_local I.ok.kind q hn hm B) M
 rcases q with q|q
 ·exact wpAny_Name (wpAny_loadName_cell I.ok.kind q hc j B) M
 exact wpAny_Name (wpAny_loadName_free I.ok.kind q hc j B Z) M
def Cv {i j pos}:PE X (.Constant (.int i) j pos) (tC (.int i)):=λ_ _ _ H _ I h=>wpAny_Constant_int ⟨.int i,H,I.tok _,⟨_,rfl⟩,h⟩
def z0s {b j pos}:PE X (.Constant (.bool b) j pos) (tC (.bl b)):=λ_ _ _ H _ I h=>Constant_bool ⟨.bl b,H,I,rfl,h⟩
def Ct {j pos}:PE X (.Constant .none j pos) (tC .non):=λ_ _ _ H _ I h=>Constant_none ⟨.non,H,I,rfl,h⟩
def Cp {x j pos}:PE X (.Constant (.str x) j pos) (tC (.str x)):=λ_ _ _ H _ I h=>Calls.Constant_str ⟨.str x,H,I.tok _,⟨_,rfl⟩,h⟩
def Gl(X:Cx)(x:Str):Prop:=X.env.kindOf x=some .globalImplicit
def Zh{G:St}(I:Inv X pn G H s)(q:Gl X x)(j:X.mg x=some u)(h:Q u s)(B:D_ x:=by decide):wpAny (model X.prog X.w) X.A (eval (.Name x pos) X.env) Q E s :=
 Calls.Name_function_global I.ok.kind q (Calls.loadGlobal_global (by rw[I.ok.glob];exact I.mod.glob.keeps I.bk) j h) B
def su{G:St}(I:Inv X pn G H s)(M:Gl X x)(B:X.mg x=none)(j:bootBuiltins x=some u)(h:Q u s)(q:x≠"__name__":=by decide)(N:D_ x:=by decide):wpAny (model X.prog X.w) X.A (eval (.Name x pos) X.env) Q E s:=by
 obtain⟨Z,h1,h2⟩:=I.mod.blt;exact Calls.Name_function_global I.ok.kind M (Calls.loadGlobal_builtin (by rw[I.ok.glob];exact I.mod.glob.keeps I.bk) B (by rw[I.ok.blt];exact h1.keeps I.bk) ((h2 x q).trans j) h) N
def Fe(q:Gl X x)(j:X.mg x=some u)(r:RelV v u)(B:D_ x:=by decide):PE X (.Name x pos) (tC v) :=
 λ_ _ _ H _ I h=>Zh I q j ⟨v,H,I,r,h⟩ B
def Fj(M:Gl X x)(B:X.mg x=none)(j:bootBuiltins x=some u)(r:RelV v u)(q:x≠"__name__":=by decide)(N:D_ x:=by decide):PE X (.Name x pos) (tC v) :=
 λ_ _ _ H _ I h=>su I M B j ⟨v,H,I,r,h⟩ q N
variable{a b:Expr}{ta tb:TE}{pos:Pos}
def tB(t:TE):TT:=λG H Q=>t G H λx H1=>∃c,x=.bl c/\Q c H1
def Cd{t:TE}(h:PE X e t)(N:∀ whole,isTrue e X.env whole=(do let v <- whole;standAt e.pos;holding [v] (truthy v)):=by intro _;rfl):PT X e (tB t):=by
 intro pn s G H Q I M;refine isTrue_plain (thn (h pn s G H _ I M) λv s1 Zh=>?_) (N _);obtain⟨x,H1,Z,j,B⟩:=Zh;obtain⟨d,rfl,q⟩:=B;cases j;exact wpAny_truthy_bool ⟨H1,Z,q⟩
section
variable{tA tB':TT}{rest:List Expr}
def tAnd(t u:TT):TT:=λG H Q=>t G H λc H1=>if c=true then u G H1 Q else Q false H1
def tOr(t u:TT):TT:=λG H Q=>t G H λc H1=>if c=true then Q true H1 else u G H1 Q
def tNot(t:TT):TT:=λG H Q=>t G H λc H1=>Q (!c) H1
def Gk(j:PT X a tA):PW X (.BoolOp .And [a] pos) tA:=by
 intro q pn s G H Q I h;refine isTrue_and (thn (j pn s G H Q I h) λc s1 e=>?_);cases c with
 |true=>exact isTrue_and_nil e
 |false=>exact e
def Ca(j:PT X a tA):PW X (.BoolOp .Or [a] pos) tA:=by
 intro q pn s G H Q I h;refine isTrue_or (thn (j pn s G H Q I h) λc s1 e=>?_);cases c with
 |false=>exact isTrue_or_nil e
 |true=>exact e
def Cb(N:PT X a tA)(M:PW X (.BoolOp .And (b::rest) pos) tB'):PW X (.BoolOp .And (a::b::rest) pos) (tAnd tA tB'):=by
 intro B pn s G H Q I h;refine isTrue_and (thn (N pn s G H _ I h) λc s1 Zh=>?_);obtain⟨H1,q,j⟩:=Zh;cases c with
 |true=>exact M B pn s1 G H1 Q q j
 |false=>exact⟨H1,q,j⟩
def z0p(N:PT X a tA)(M:PW X (.BoolOp .Or (b::rest) pos) tB'):PW X (.BoolOp .Or (a::b::rest) pos) (tOr tA tB'):=by
 intro B pn s G H Q I h;refine isTrue_or (thn (N pn s G H _ I h) λc s1 Zh=>?_);obtain⟨H1,q,j⟩:=Zh;cases c with
 |true=>exact⟨H1,q,j⟩
 |false=>exact M B pn s1 G H1 Q q j
def Ce(j:PT X a tA):PT X (.UnaryOp .Not a pos) (tNot tA):=by
 intro pn s G H Q I h;exact isTrue_not (j pn s G H (λc H1=>Q (!c) H1) I h)
def z0l(ta tb:TE):TE:=λG H Q=>ta G H λx H1=>∃c,x=.bl c/\if c=true then tb G H1 Q else Q (.bl false) H1
def z0i(ta:TE):TE:=λG H Q=>ta G H λx H1=>∃c,x=.bl c/\Q (.bl (!c)) H1
def Cr {op} (h:PE X a t):PE X (.BoolOp op [a] pos) t:=λpn s G H Q I j=>BoolOp_one (h pn s G H Q I j)
def Cw(N:PE X a ta)(M:PE X (.BoolOp .And (b::rest) pos) tb):PE X (.BoolOp .And (a::b::rest) pos) (z0l ta tb):=by
 intro pn s G H Q I h;refine BoolOp_and (thn (N pn s G H _ I h) λv s1 Zh=>?_);obtain⟨x,H1,q,B,j⟩:=Zh;obtain⟨c,rfl,j⟩:=j;cases B;refine wpAny_truthy_bool ?_;cases c with
 |true=>exact M pn s1 G H1 Q q j
 |false=>exact⟨.bl false,H1,q,rfl,j⟩
def Cs(B:PE X a ta):PE X (.UnaryOp .Not a pos) (z0i ta):=by
 intro pn s G H Q I h;refine UnaryOp_ (thn (B pn s G H _ I h) λv s1 Zh=>?_);obtain⟨x,H1,M,q,j⟩:=Zh;obtain⟨c,rfl,j⟩:=j;cases q;exact not_of (wpAny_truthy_bool ⟨.bl (!c),H1,M,rfl,j⟩)
def tIf(t:TT)(ta tb:TE):TE:=λG H Q=>t G H λc H1=>if c=true then ta G H1 Q else tb G H1 Q
def Mo(B:PT X c tA)(N:PE X a ta)(M:PE X b tb):PE X (.IfExp c a b pos) (tIf tA ta tb):=by
 intro pn s G H Q I h;refine wpAny_IfExp (thn (B pn s G H _ I h) λd s1 Zh=>?_);obtain⟨H1,q,j⟩:=Zh;cases d with
 |true=>exact N pn s1 G H1 Q q j
 |false=>exact M pn s1 G H1 Q q j
end
def SqL(K:W.Frag)(H:Hp)(a:Addr)(xs:List V):Prop :=
 Rd H a (.lst xs) \/
  ∃(o:Obj)(its:Array Value)(n:Nat),K.lookup a=some o/\o.cls=.type "list"/\o.dict=none/\o.data=.seq its n/\its.size<=sizeLine/\Vals xs its.toList
def SqT(K:W.Frag)(H:Hp)(a:Addr)(xs:List V):Prop :=
 Rd H a (.tup xs) \/
  ∃(o:Obj)(its:Array Value)(n:Nat),K.lookup a=some o/\o.cls=.type "tuple"/\o.data=.seq its n/\its.size<=sizeLine/\Vals xs its.toList
def absV:Value->Option V
 |.none=>some .non
 |.bool b=>some (.bl b)
 |.int i _=>some (.int i)
 |.str x _=>some (.str x)
 |.bytes b _=>some (.byt b)
 |.float b _=>some (.flt b)
 |.ref a=>some (.ref a)
 |.type n=>some (.ty n)
 |_=>none
def RelV.abs(r:RelV x u):absV u=some x:=by
 cases x with
 |non=>cases r;rfl
 |bl _=>cases r;rfl
 |int _=>obtain⟨t,rfl⟩:=r;rfl
 |str _=>obtain⟨t,rfl⟩:=r;rfl
 |byt _=>obtain⟨t,rfl⟩:=r;rfl
 |flt _=>obtain⟨t,rfl⟩:=r;rfl
 |ref _=>cases r;rfl
 |ty _=>cases r;rfl
theorem RelV.inj(r:RelV x u)(q:RelV y u):x=y:=Option.some.inj (r.abs.symm.trans q.abs)
theorem Vals.inj:∀{xs ys:List V}{us:List Value},Vals xs us->Vals ys us->xs=ys
 |_,_,_,.nil,.nil=>rfl
 |_,_,_,.cons r t,.cons r' t'=>by rw[r.inj r',Vals.inj t t']
variable{G:St}{a:Addr}{xs ys:List V}
def SqL.of{K:W.Frag}(h:H a=some (.lst xs)):SqL K H a xs:=.inl (.inl h)
def SqT.of{K:W.Frag}(h:H a=some (.tup xs)):SqT K H a xs:=.inl (.inl h)
def Inv.list(I:Inv X pn G H s)(h:SqL X.K H a xs):∃its:List Value,Vals xs its/\PlainL s.heap a its.toArray/\xs.length<=sizeLine:=by
 rcases h with h|⟨o,its,n,hk,hc,hd,hs,hz,r⟩
 ·obtain⟨z,its,n,r,e⟩:=h.ok I.hok;exact⟨its,r,⟨_,n,e,rfl,rfl,rfl⟩,z⟩
 refine⟨its.toList,r,⟨o,n,I.kIn a o hk,hc,hd,by simpa using hs⟩,?_⟩
 have e:=r.length;simp only[Array.length_toList]at e;omega
def Inv.tuple(I:Inv X pn G H s)(h:SqT X.K H a xs):∃its:List Value,Vals xs its/\IsTup s.heap a its.toArray/\xs.length<=sizeLine:=by
 rcases h with h|⟨o,its,n,hk,hc,hs,hz,r⟩
 ·obtain⟨z,its,r,p⟩:=h.ok I.hok;exact⟨its,r,p.1,z⟩
 refine⟨its.toList,r,⟨o,I.kIn a o hk,hc,n,by simpa using hs⟩,?_⟩
 have e:=r.length;simp only[Array.length_toList]at e;omega
def Inv.list_inj(I:Inv X pn G H s)(h:SqL X.K H a xs)(h':SqL X.K H a ys):xs=ys:=by
 obtain⟨its,r,⟨o,n,e,_,_,d⟩,_⟩:=I.list h;obtain⟨its',q,⟨o',B,j,_,_,d'⟩,_⟩:=I.list h';rw[e]at j;cases j;rw[d]at d'
 injection d' with d1 _
 have:its=its':=by simpa using congrArg Array.toList d1
 subst this;exact r.inj q
def Inv.tuple_inj(I:Inv X pn G H s)(h:SqT X.K H a xs)(h':SqT X.K H a ys):xs=ys:=by
 obtain⟨its,r,⟨o,e,_,n,d⟩,_⟩:=I.tuple h;obtain⟨its',q,⟨o',j,_,B,d'⟩,_⟩:=I.tuple h';rw[e]at j;cases j;rw[d]at d'
 injection d' with d1 _
 have:its=its':=by simpa using congrArg Array.toList d1
 subst this;exact r.inj q
abbrev Cx.wish(X:Cx)(E:Value->Shared->Prop):Cx:={X with xe:=E}
abbrev Cx.nox(X:Cx):Cx:=X.wish λ_ _=>False
theorem Cx.Ok.wish{X:Cx}(ok:X.Ok)(E:Value->Shared->Prop):(X.wish E).Ok :=
 ⟨ok.mod,ok.kind,ok.glob,ok.blt,ok.above,ok.inj,ok.has,ok.cab,ok.hd,ok.frames,ok.stk,ok.exf,ok.bs,ok.bsz,ok.noex,ok.exfs,ok.funs,ok.frf⟩
def Cx.Ok.unwish{X:Cx}{E:Value->Shared->Prop}(ok:(X.wish E).Ok):X.Ok :=
 ⟨ok.mod,ok.kind,ok.glob,ok.blt,ok.above,ok.inj,ok.has,ok.cab,ok.hd,ok.frames,ok.stk,ok.exf,ok.bs,ok.bsz,ok.noex,ok.exfs,ok.funs,ok.frf⟩
variable{E:Value->Shared->Prop}
theorem Inv.wish(I:Inv X pn G H s)(E:Value->Shared->Prop):Inv (X.wish E) pn G H s:=⟨I.ok.wish E,I.os,I.bare,I.base,I.loc,I.cell,I.free,I.freeC,I.pin,I.hok,I.len⟩
theorem Inv.unwish(I:Inv (X.wish E) pn G H s):Inv X pn G H s:=⟨I.ok.unwish,I.os,I.bare,I.base,I.loc,I.cell,I.free,I.freeC,I.pin,I.hok,I.len⟩
theorem SP.unwish{D:Ends}(h:SP (X.wish E) pn D f s'):SP X pn D f s':=by
 cases f with
 |next=>obtain⟨j,H',I,q⟩:=h;exact⟨j,H',I.unwish,q⟩
 |brk=>obtain⟨j,H',I,q⟩:=h;exact⟨j,H',I.unwish,q⟩
 |cont=>obtain⟨j,H',I,q⟩:=h;exact⟨j,H',I.unwish,q⟩
 |ret u=>obtain⟨v,j,H',I,r,q⟩:=h;exact⟨v,j,H',I.unwish,r,q⟩
theorem PSs.nox{st:List Stmt}{t:TS}(h:PSs X.nox st t):PSs X st t:=λpn s G H D I j =>
 wpAny_mono (h pn s G H D (I.wish _) j) (λ_ _ q=>q.unwish) λ_ _ z=>False.elim z
section
variable{st:Stmt}{rest:List Stmt}{t u:TS}{e:Expr}{te:TE}
def z0j:TS:=λD G H=>D.nx G H
def tSeq(t u:TS):TS:=λD G H=>t {D with nx:=u D} G H
def Wu:PSs X [] z0j:=λ_ _ G H _ I h=>wpAny_execs_nil ⟨G,H,I,h⟩
def u3(h1:PS X st t)(h2:PSs X rest u):PSs X (st::rest) (tSeq t u):=by
 intro pn s G H D I h;refine wpAny_execs_cons (thn (h1 pn s G H {D with nx:=u D} I h) λf s1 q=>?_);cases f with
 |next =>
  obtain⟨j,H',B,q⟩:=q;exact h2 pn s1 j H' D B q
 |ret v=>exact q
 |brk=>exact q
 |cont=>exact q
def jy(h1:PS X st t):PSs X [st] t:=by
 intro pn s G H D I h;refine wpAny_execs_cons (thn (h1 pn s G H D I h) λf s1 q=>?_);cases f with
 |next=>exact wpAny_execs_nil q
 |ret v=>exact q
 |brk=>exact q
 |cont=>exact q
def z0k:TS:=λD G H=>D.ct G H
def Wv:PS X (.Continue pos) z0k:=λ_ _ G H _ I h=>wpAny_Continue ⟨G,H,I,h⟩
def Inv.quiet(I:Inv X pn G H s):interactive X.env=false:=by simp[interactive,I.ok.kind]
def Wl(te:TE):TS:=λD G H=>te G H λ_ H1=>D.nx G H1
def t8(q:PE X e te)(hs:swapsWith e none pos.line X.env=pure false:=by rfl):PS X (.Expr e pos) (Wl te):=by
 intro pn s G H D I h;exact wpAny_Expr_any (thn (q pn s G H _ I h) λv s1 ⟨x,H1,B,M,j⟩=>⟨G,H1,B,j⟩) I.quiet hs
def tRet(te:TE):TS:=λD G H=>te G H D.rt
def Us(B:PE X e te):PS X (.Return (some e) pos) (tRet te):=by
 intro pn s G H D I h;exact wpAny_Return_some (thn (B pn s G H _ I h) λv s1 ⟨x,H1,M,j,q⟩=>⟨x,G,H1,M,j,q⟩)
def z0g:TS:=λD _ H=>D.rt .non H
def Gq:PS X (.Return none pos) z0g:=λ_ _ G H _ I h=>wpAny_Return_none ⟨.non,G,H,I,rfl,h⟩
def tIfS(c:TT)(t u:TS):TS:=λD G H=>c G H λb H1=>if b=true then t D G H1 else u D G H1
def Gr{a b:List Stmt}{tc:TT}(B:PT X c tc)(N:PSs X a t)(M:PSs X b u):PS X (.If c a b pos) (tIfS tc t u):=by
 intro pn s G H D I h;refine wpAny_If (thn (B pn s G H _ I h) λd s1 Zh=>?_);obtain⟨H1,q,j⟩:=Zh;cases d with
 |true=>exact N pn s1 G H1 D q j
 |false=>exact M pn s1 G H1 D q j
def Di:TS:=λ_ _ _=>False
def Mh:PS X st Di:=λ_ _ _ _ _ _ h=>h.elim
end
abbrev TG:=V->St->Hp->(St->Hp->Prop)->Prop
abbrev TGs:=List V->St->Hp->(St->Hp->Prop)->Prop
def PG(X:Cx)(j:Expr)(t:TG):Prop :=
 ∀(pn:List (Addr×Obj))(s:Shared)(G:St)(H:Hp)(v:V)(u:Value)(Q:St->Hp->Prop),Inv X pn G H s->RelV v u->t v G H Q ->
  wpAny (model X.prog X.w) X.A (assign j X.env u) (λ_ s'=>∃σ' H',Inv X pn σ' H' s'/\Q σ' H') X.xe s
def PGs(X:Cx)(ts:List Expr)(t:TGs):Prop :=
 ∀(pn:List (Addr×Obj))(s:Shared)(G:St)(H:Hp)(vs:List V)(us:List Value)(Q:St->Hp->Prop),Inv X pn G H s->Vals vs us->t vs G H Q ->
  wpAny (model X.prog X.w) X.A (assignInOrder ((assignEach ts X.env).map (·.2)) us) (λ_ s'=>∃σ' H',Inv X pn σ' H' s'/\Q σ' H') X.xe s
abbrev TSet:=V->V->V->Hp->(Hp->Prop)->Prop
def PSet(X:Cx)(t:TSet):Prop :=
 ∀(pn:List (Addr×Obj))(s:Shared)(G:St)(H:Hp)(o i v:V)(ov iv u:Value)(Q:Hp->Prop),Inv X pn G H s->RelV o ov->RelV i iv->RelV v u->t o i v H Q ->
  wpAny (model X.prog X.w) X.A (setItem ov iv u) (λ_ s'=>∃H',Inv X pn G H' s'/\Q H') X.xe s
abbrev TIp:=V->V->Hp->VK->Prop
def PIp(X:Cx)(j:Operator)(t:TIp):Prop :=
 ∀(pn:List (Addr×Obj))(s:Shared)(G:St)(H:Hp)(x y:V)(v u:Value)(Q:VK),Inv X pn G H s->RelV x v->RelV y u->t x y H Q ->
  wpAny (model X.prog X.w) X.A (inplaceOp j v u) (EP X pn G Q) X.xe s
def rq(i:Nat):TG:=λv G H Q=>Q (G.set i (some v)) H
def zm(B:X.N.Nodup)(hi:X.N[i]?=some x)(j:Loc X.env.scope x)(q:X.fn x=true\/X.env.scope.names.lookup x=some .local:=by first|exact .inl rfl|exact .inr rfl|assumption):PG X (.Name x pos) (rq i):=by
 intro pn s G H v u Q I r h;exact wpAny_assign_Name (Z3 I B hi j r (λs' M=>⟨_,H,M,h⟩) q)
def gNil:TGs:=λvs G H Q=>vs=[]/\Q G H
def dt(t:TG)(u:TGs):TGs:=λvs G H Q=>∃v r,vs=v::r/\t v G H λj H'=>u r j H' Q
def vn:PGs X [] gNil:=by
 intro pn s G H vs us Q I r h;obtain⟨e,h⟩:=h;subst e;cases r;exact assignInOrder_nil ⟨G,H,I,h⟩
def ye(h1:PG X e t)(h2:PGs X es u)(hs:(assignEach (e::es) X.env).map (·.2)=assign e X.env::(assignEach es X.env).map (·.2):=by rfl):PGs X (e::es) (dt t u):=by
 intro pn s G H vs us Q I r h;obtain⟨v,M,e1,h⟩:=h;subst e1;cases r with
 |cons r rr =>
  rw[hs];refine assignInOrder_cons (thn (h1 pn s G H _ _ _ I r h) λ_ s1 Zh=>?_);obtain⟨j,H1,B,q⟩:=Zh;exact h2 pn s1 j H1 _ _ Q B rr q
def gTup(K:W.Frag)(n:Nat)(t:TGs):TG:=λv G H Q=>∃a xs,v=.ref a/\SqT K H a xs/\xs.length=n/\t xs G H Q
def Co(hc:X.calm=true)(h:PGs X es t)(hn:(assignEach es X.env).length=n:=by rfl)(q:(assignEach es X.env).findIdx? (·.1)=none:=by rfl):PG X (.Tuple es k pos) (gTup X.K n t):=by
 intro pn s G H v u Q I r j;obtain⟨a,xs,e1,Z,hl,j⟩:=j;subst e1;cases r;obtain⟨its,B,N,hz⟩:=I.tuple Z;refine assign_Tuple_tuple (I.ok.hd hc) N (by simp[hn,<- hl,B.length]) q λh' M=>?_
 have I1:Inv X pn G H {s with heap:=h'}:=I.kept (t':=s.toks) λb o e=>M b o (Nat.ne_of_lt (zae e)) e;exact h pn _ G H xs _ Q I1 (by simpa using B) j
def gSub(to ti:TE)(t:TSet):TG:=λv G H Q=>to G H λo H1=>ti G H1 λi H2=>t o i v H2 λj=>Q G j
def Jc{o i:Expr}{to ti:TE}(ho:PE X o to)(hi:PE X i ti)(hs:PSet X t)(ha:∀ v,assign (.Subscript o i pos) X.env v=(do
   let j <- holding [v] (eval o X.env)
   let q <- holding [v,j] (eval i X.env)
   standAt pos
   holding [v,j,q] (setItem j q v)
   release [v,j,q] []):=by intro _;rfl):PG X (.Subscript o i pos) (gSub to ti t):=by
 intro pn s G H v u Q I r h;rw[ha];refine zaa (wpAny_holding (thn (ho pn s G H _ I h) λj s1 Zh=>?_));obtain⟨x,H1,I1,B,Z⟩:=Zh;refine zaa (wpAny_holding (thn (hi pn s1 G H1 _ I1 Z) λq s2 Zh=>?_));obtain⟨y,H2,I2,r2,N⟩:=Zh;refine zaa (wpAny_standAt (zaa (wpAny_holding (thn (hs pn s2 G H2 x y v j q u _ I2 B r2 r N) λ_ s3 Zh=>?_))));obtain⟨H3,I3,M⟩:=Zh;exact wpAny_release ⟨G,H3,I3,M⟩
def tAsg(te:TE)(g:TG):TS:=λD G H=>te G H λx H1=>g x G H1 D.nx
def Ut{tg e:Expr}{te:TE}(Z:PE X e te)(N:PG X tg g)(hs:swapsWithSole [tg] e pos.line X.env=pure false:=by rfl)(M:swappedStores [tg] e X.env=pure none:=by rfl)(h1:(assignEach [tg] X.env).map (·.2)=[assign tg X.env]:=by rfl):PS X (.Assign [tg] e pos) (tAsg te g):=by
 intro pn s G H D I h;refine wpAny_Assign_stores (thn (Z pn s G H _ I h) λv s1 Zh=>?_) hs M;obtain⟨x,H1,I1,j,B⟩:=Zh;rw[h1];exact thn (N pn s1 G H1 x v _ I1 j B) λ_ s2 q=>q
def jz{i:Nat}{x:Str}{te:TE}(hN:X.N.Nodup)(hi:X.N[i]?=some x)(B:Loc X.env.scope x)(Z:PE X e te)(hs:swapsWith e (some (.Name x pos')) pos.line X.env=pure false:=by rfl)(M:X.fn x=true\/X.env.scope.names.lookup x=some .local:=by first|exact .inl rfl|exact .inr rfl|assumption) :
  PS X (.Assign [.Name x pos'] e pos) (tAsg te (rq i)):=by
 intro pn s G H D I h;refine wpAny_Assign_Name (thn (Z pn s G H _ I h) λv s1 Zh=>?_) hs;obtain⟨y,H1,I1,j,q⟩:=Zh;exact Z3 I1 hN hi B j (λs2 I2=>⟨_,H1,I2,q⟩) M
def tAug(i:Nat)(te:TE)(ti:TIp):TS:=λD G H=>∃x,G[i]?=some (some x)/\te G H λy H1=>ti x y H1 λz H2=>D.nx (G.set i (some z)) H2
def Cg{i:Nat}{x:Str}{te:TE}(hN:X.N.Nodup)(hi:X.N[i]?=some x)(hx:Loc X.env.scope x)(he:PE X e te)(ho:PIp X op ti)(hf:X.fn x=true\/X.env.scope.names.lookup x=some .local:=by first|exact .inl rfl|exact .inr rfl|assumption) :
  PS X (.AugAssign (.Name x pos') op e pos) (tAug i te ti):=by
 intro pn s G H D I h;obtain⟨v,e1,h⟩:=h;obtain⟨m,hn,hl⟩:=I.loc;have Z:Vis X.env.scope x:=by rcases hx with k|k;exact .inl k;exact .inr (.inl k)
 obtain⟨u,r,l⟩:=hl i x v hi e1 Z;refine wpAny_AugAssign_Name ?_;have go:wpAny (model X.prog X.w) X.A (eval e X.env) (λw M=>wpAny (model X.prog X.w) X.A (inplaceOp op u w) (λr B=>wpAny (model X.prog X.w) X.A (storeName X.env x r) (λ_=>SP X pn D .next) X.xe B) X.xe M) X.xe s:=by
  refine thn (he pn s G H _ I h) λw s1 Zh=>?_;obtain⟨y,H1,I1,r1,q1⟩:=Zh;refine thn (ho pn s1 G H1 v y u w _ I1 r r1 q1) λz s2 Zh=>?_;obtain⟨zv,H2,I2,r2,q2⟩:=Zh;exact Z3 I2 hN hi hx r2 (λs3 I3=>⟨_,H2,I3,q2⟩) hf
 rcases l with⟨j,hm⟩|⟨j,c,hc,q⟩
 ·exact wpAny_loadName_local I.ok.kind j hn hm go
 rcases j with j|j
 ·exact wpAny_loadName_cell I.ok.kind j hc q go
 rcases hx with k|k
 ·have:X.env.scope.names.lookup x=some .free:=j;rw[k]at this;cases this
 have:X.env.scope.names.lookup x=some .free:=j;rw[k]at this;cases this
def Df(c:TT)(tb:TS):TS:=λD G H=>∃W:Nat->St->Hp->Prop,(∃m,W m G H)/\∀m G H,W m G H ->
 c G H λb H1=>if b=true then ∃N:St->Hp->Prop,(∀σ' H',N σ' H'->∃m',m'<m/\W m' σ' H')/\tb {D with nx:=N,ct:=N,bk:=D.nx} G H1 else D.nx G H1
def Ur{tc:TT}{tb:TS}(hp:PassesOwn (model X.prog X.w) X.A X.env X.xe)(hc:PT X c tc)(hb:PSs X body tb):PS X (.While c body [] pos) (Df tc tb):=by
 intro pn s G H D I h;obtain⟨W,⟨m0,w0⟩,B⟩:=h;refine wpAny_While (codeAny_whileLoop (λn s'=>∃σ' H',Inv X pn σ' H' s'/\W n σ' H') ?_ m0 ⟨G,H,I,w0⟩);rintro n s1 ⟨q,H1,I1,w1⟩;refine wpAny_passesOwn hp (thn (hc pn s1 q H1 _ I1 (B n q H1 w1)) λb s2 Zh=>?_);obtain⟨H2,I2,q2⟩:=Zh;cases b with
 |true =>
  obtain⟨N,hN,q2⟩:=q2;rw[if_pos rfl];refine wpAny_passesOwn hp (thn (hb pn s2 q H2 _ I2 q2) λf s3 Z=>?_);cases f with
  |next =>
   obtain⟨j,M,I3,n3⟩:=Z;obtain⟨m',hm,w3⟩:=hN j M n3;exact⟨m',hm,j,M,I3,w3⟩
  |cont =>
   obtain⟨j,M,I3,n3⟩:=Z;obtain⟨m',hm,w3⟩:=hN j M n3;exact⟨m',hm,j,M,I3,w3⟩
  |brk=>exact Z
  |ret v=>exact Z
 |false =>
  rw[if_neg Bool.false_ne_true];exact wpAny_execs_nil ⟨q,H2,I2,q2⟩
structure It where
 go:Nat->Hp->Prop
 yld:Nat->Hp->V->Hp->Prop
 stop:Nat->Hp->Prop
def FpOk(X:Cx)(pn:List (Addr×Obj))(H:Hp)(b:Addr):Prop :=
 H b=none/\b≠X.env.locals/\b∉X.fs/\(b∈X.ex\/X.s₀.heap.objs.size<=b)/\(∀x c,X.env.cells.lookup x=some c->c≠b)/\∀p∈X.pn++pn,p.1≠b
def Inv.fpOk{b:Addr}(I:Inv X pn G H s)(j:s.heap.objs.size<=b)(M:H' b=none):FpOk X pn H' b:=by
 refine⟨M,Nat.ne_of_gt (Nat.lt_of_lt_of_le I.lt j),I.nofs j,.inr (zak I.sz j),λx c e z=>?_,λp B z=>?_⟩
 ·obtain⟨v,q⟩:=I.cell x c e;exact absurd (Nat.lt_of_lt_of_le q.lt (by rw[z];exact j)) (Nat.lt_irrefl _)
 exact absurd (Nat.lt_of_lt_of_le (zae (I.pin p B).1) (by rw[z];exact j)) (Nat.lt_irrefl _)
structure Turn(P:Program)(w:World)(K:W.Frag)(tg:Expr)(J:It)(fp:List Addr)(it:Addr)(tn:Nat->Heap->Prop):Prop where
 mem:it∈fp
 obj:∀i h,tn i h->∀b∈fp,∃o,h.get? b=some o/\∀v,o.data≠.cell v
 keep:∀i h h',tn i h->(∀b∈fp,∀o,h.get? b=some o->h'.get? b=some o)->tn i h'
 item:∀(X:Cx),X.prog=P->X.w=w->X.K=K->X.calm=true->∀(i:Nat)(pn:List (Addr×Obj))(s:Shared)(G:St)(H:Hp)(E:Value->Shared->Prop),Inv X pn G H s->(∀b∈fp,FpOk X pn H b)->tn i s.heap->J.go i H ->
  wpAny (model P w) X.A (pyNext (.ref it)) (λr s1=>∃u,r=some u /\
   wpAny (model P w) X.A (letOwnedTupleGo tg (.ref it) u) (λ_ s2=>∃x H',Inv X pn G H' s2/\RelV x u/\J.yld i H x H'/\tn (i+1) s2.heap/\∀b∈fp,H' b=none) E s1) E s
 done:∀(X:Cx),X.prog=P->X.w=w->X.K=K->X.calm=true->∀(i:Nat)(pn:List (Addr×Obj))(s:Shared)(G:St)(H:Hp)(E:Value->Shared->Prop),Inv X pn G H s->(∀b∈fp,FpOk X pn H b)->tn i s.heap->J.stop i H ->
  wpAny (model P w) X.A (pyNext (.ref it)) (λr s1=>r=none/\Inv X pn G H s1) E s
 self:∀(A:Around)(i:Nat)(s:Shared)(Q:Value->Shared->Prop)(E:Value->Shared->Prop),tn i s.heap->Q (.ref it) s->wpAny (model P w) A (pyIter (.ref it)) Q E s
abbrev TI:=St->Hp->(It->Hp->Prop)->Prop
def PIE(X:Cx)(pn:List (Addr×Obj))(G:St)(tg:Expr)(R:It->Hp->Prop)(j:Value)(s2:Shared):Prop :=
 ∃(it:Addr)(fp:List Addr)(tn:Nat->Heap->Prop)(J:It)(H':Hp),j=.ref it/\Inv X pn G H' s2/\Turn X.prog X.w X.K tg J fp it tn/\tn 0 s2.heap/\(∀b∈fp,FpOk X pn H' b)/\R J H'
def PI(X:Cx)(tg iter:Expr)(j:TI):Prop :=
 ∀(pn:List (Addr×Obj))(s:Shared)(G:St)(H:Hp)(R:It->Hp->Prop),Inv X pn G H s->j G H R ->
  wpAny (model X.prog X.w) X.A (eval iter X.env) (λv s1=>wpAny (model X.prog X.w) X.A (pyIter v) (PIE X pn G tg R) X.xe s1) X.xe s
def O5{tg:Expr}{o:Obj}(ho:s.heap.get? it=some o)(I:o.cls=.type n)(B:o.data=.fields vs)(q:["enumerate","zip","dict_itemiterator","dict_reverseitemiterator","odict_iterator","itertools.zip_longest","itertools.pairwise"].contains n=false)(j:Q () s):wpAny M A (letOwnedTupleGo tg (.ref it) u) Q E s:=by
 unfold letOwnedTupleGo;cases tg <;> first
  |exact zab j
  | (cases u <;> first
    |exact zab j
    | (refine zaa (wpAny_load ho ?_)
       rw[I,B];show wpAny M A (if (["enumerate","zip","dict_itemiterator","dict_reverseitemiterator","odict_iterator","itertools.zip_longest","itertools.pairwise"].contains n&&vs[0]?==some (rawInt _))=true then _ else _) Q E s
       rw[if_neg (by intro h;rw[q,Bool.false_and]at h;cases h)]
       exact zab j))
def Itl(K:W.Frag)(a:Addr):It :=
 ⟨λi H=>∃xs x,SqL K H a xs/\xs[i]?=some x,λi H x H'=>H'=H/\∀xs,SqL K H a xs->xs[i]?=some x,λi H=>∃xs,SqL K H a xs/\xs.length<=i⟩
def Itt(K:W.Frag)(a:Addr):It :=
 ⟨λi H=>∃xs x,SqT K H a xs/\xs[i]?=some x,λi H x H'=>H'=H/\∀xs,SqT K H a xs->xs[i]?=some x,λi H=>∃xs,SqT K H a xs/\xs.length<=i⟩
def Itr(lo:Int)(n:Nat):It:=⟨λi _=>i<n,λi H x H'=>H'=H/\x=.int (lo+i),λi _=>n<=i⟩
def Rv{P:Program}{w:World}{K:W.Frag}{tg:Expr}(a it:Addr):Turn P w K tg (Itl K a) [it] it (λi h=>h.IsListIter it a i) where
 mem:=by simp
 obj:=λi h st b j=>by
  have e:b=it:=by simpa using j
  subst e;obtain⟨o,e,c,d⟩:=st;exact⟨o,e,λv z=>by rw[d]at z;cases z⟩
 keep:=λi h h' st k=>st.at λo e=>k it (by simp) o e
 item:=by
  intro X hP hw hK hc i pn s G H E I M st hg;subst hP hw hK;obtain⟨xs,x,B,Z⟩:=hg;obtain⟨its,N,p,hz⟩:=I.list B;obtain⟨u,hu,ru⟩:=N.get Z;obtain⟨f0,f1,f2,f3,f4,f5⟩:=M it (by simp)
  refine wpAny_pyNext_list_item st p.isList (x:=u) (by simpa using hu) λh' q sb=>?_
  have I1:Inv X pn G H {s with heap:=h'}:=I.turned (t':=s.toks) (λb o j e=>(sb.2 b j).trans e) f0 f1 f3 f4 f5;obtain⟨o,e,c,d⟩:=id q;exact⟨u,rfl,O5 (s:={s with heap:=h'}) e c d (by decide) ⟨x,H,I1,ru,⟨rfl,λys hy=>by rw[I.list_inj hy B];exact Z⟩,q,λb j=>(M b j).1⟩⟩
 done:=by
  intro X hP hw hK hc i pn s G H E I M st hg;subst hP hw hK;obtain⟨xs,B,Z⟩:=hg;obtain⟨its,N,p,hz⟩:=I.list B;obtain⟨f0,f1,f2,f3,f4,f5⟩:=M it (by simp)
  have hl:=N.length;exact wpAny_pyNext_list_end (I.ok.hd hc) st p.isList (by simp;omega) λh' eb=>⟨rfl,I.turned (t':=s.toks) (λb o j e=>eb b o j e) f0 f1 f3 f4 f5⟩
 self:=λ_ _ _ _ _ st h=>wpAny_pyIter_listiter st h
def S9{P:Program}{w:World}{K:W.Frag}{tg:Expr}(a it:Addr):Turn P w K tg (Itt K a) [it] it (λi h=>h.IsTupleIter it a i) where
 mem:=by simp
 obj:=λi h st b j=>by
  have e:b=it:=by simpa using j
  subst e;obtain⟨o,e,c,d⟩:=st;exact⟨o,e,λv z=>by rw[d]at z;cases z⟩
 keep:=λi h h' st k=>st.at λo e=>k it (by simp) o e
 item:=by
  intro X hP hw hK hc i pn s G H E I M st hg;subst hP hw hK;obtain⟨xs,x,B,Z⟩:=hg;obtain⟨its,N,p,hz⟩:=I.tuple B;obtain⟨u,hu,ru⟩:=N.get Z;obtain⟨f0,f1,f2,f3,f4,f5⟩:=M it (by simp)
  refine wpAny_pyNext_tuple_item st (show s.heap.IsTuple a its.toArray from p) (x:=u) (by simpa using hu) λh' q sb=>?_
  have I1:Inv X pn G H {s with heap:=h'}:=I.turned (t':=s.toks) (λb o j e=>(sb.2 b j).trans e) f0 f1 f3 f4 f5;obtain⟨o,e,c,d⟩:=id q;exact⟨u,rfl,O5 (s:={s with heap:=h'}) e c d (by decide) ⟨x,H,I1,ru,⟨rfl,λys hy=>by rw[I.tuple_inj hy B];exact Z⟩,q,λb j=>(M b j).1⟩⟩
 done:=by
  intro X hP hw hK hc i pn s G H E I M st hg;subst hP hw hK;obtain⟨xs,B,Z⟩:=hg;obtain⟨its,N,p,hz⟩:=I.tuple B;obtain⟨f0,f1,f2,f3,f4,f5⟩:=M it (by simp)
  have hl:=N.length;exact wpAny_pyNext_tuple_end (I.ok.hd hc) st (show s.heap.IsTuple a its.toArray from p) (by simp;omega) λh' eb=>⟨rfl,I.turned (t':=s.toks) (λb o j e=>eb b o j e) f0 f1 f3 f4 f5⟩
 self:=λ_ _ _ _ _ st h=>wpAny_pyIter_tupleiter st h
def Sa{P:Program}{w:World}{K:W.Frag}{tg:Expr}(it:Addr)(lo:Int)(n:Nat):Turn P w K tg (Itr lo n) [it] it (λi h=>IsRangeIter h it (lo+(i:Nat)*1) ((n:Int)-(i:Nat)) 1) where
 mem:=by simp
 obj:=λi h st b j=>by
  have e:b=it:=by simpa using j
  subst e;exact⟨_,st,λv z=>by
   have z':Data.fields _=Data.cell v:=z;cases z'⟩
 keep:=λi h h' st k=>k it (by simp) _ st
 item:=by
  intro X hP M hK Z i pn s G H E I B st N;subst hP M hK;obtain⟨f0,f1,f2,f3,f4,f5⟩:=B it (by simp)
  have W:=Walks.range (prog:=X.prog) (w:=X.w) (I.ok.hd Z) it lo 1 n;refine W.item i s _ _ N st λv h' tk hv q kk=>?_;obtain⟨t,rfl⟩:=hv;have I1:Inv X pn G H {s with heap:=h',toks:=tk}:=I.turned (λb o j e=>kk b o (by simpa using j) e) f0 f1 f3 f4 f5
  refine⟨_,rfl,O5 (s:={s with heap:=h',toks:=tk}) (n:="range_iterator") q rfl rfl (by decide) ⟨.int (lo+i),H,I1,⟨t,?_⟩,⟨rfl,rfl⟩,q,λb j=>(B b j).1⟩⟩
  rw[Int.mul_one]
 done:=by
  intro X hP M hK Z i pn s G H E I B st N;subst hP M hK;obtain⟨f0,f1,f2,f3,f4,f5⟩:=B it (by simp)
  exact wpAny_pyNext_range_end (I.ok.hd Z) st (by have:n<=i:=N;omega) λh' eb=>⟨rfl,I.turned (t':=s.toks) (λb o j e=>eb b o j e) f0 f1 f3 f4 f5⟩
 self:=λ_ _ _ _ _ st h=>wpAny_pyIter_rangeiter st h
section
variable{tg:Expr}
def Uk{H:Hp}{R:It->Hp->Prop}{E:Value->Shared->Prop}{lo hi:Int}{tk:Nat}(I:Inv X pn G H s)(h1:-(2 ^ 62)<=lo)(h2:lo<2 ^ 62)(N:-(2 ^ 62)<=hi)(M:hi<2 ^ 62)(q:R (Itr lo (hi-lo).toNat) H):wpAny (model X.prog X.w) X.A (pyIter (.ref s.heap.objs.size)) (PIE X pn G tg R) E {s with heap:=s.heap.push {cls:=.type "range",data:=.fields #[.int lo t,.int hi u,.int 1 v]},toks:=tk}:=by
 refine wpAny_pyIter_range (IsRange.new ..) (small_one h1 h2 N M) ?_;have j:Inv X pn G H {s with heap:=s.heap.push {cls:=.type "range",data:=.fields #[.int lo t,.int hi u,.int 1 v]},toks:=tk}:=I.kept λb o e=>zac _ e;refine⟨(s.heap.push {cls:=.type "range",data:=.fields #[.int lo t,.int hi u,.int 1 v]}).objs.size,[(s.heap.push {cls:=.type "range",data:=.fields #[.int lo t,.int hi u,.int 1 v]}).objs.size],_,_,H,rfl,
  j.kept (t':=tk) λb o e=>zac _ e,Sa _ lo (hi-lo).toNat,?_,λb B=>?_,q⟩
 ·have e1:lo+((0:Nat):Int)*1=lo:=by simp
  have e2:(((hi-lo).toNat:Nat):Int)-((0:Nat):Int)=Builtin.Range.rangeSize lo hi 1:=by rw[rangeSize_one];split <;> omega
  show IsRangeIter _ _ (lo+((0:Nat):Int)*1) ((((hi-lo).toNat:Nat):Int)-((0:Nat):Int)) 1;rw[e1,e2];exact zad _ rfl
 have e:b=(s.heap.push {cls:=.type "range",data:=.fields #[.int lo t,.int hi u,.int 1 v]}).objs.size:=by simpa using B
 subst e;exact j.fpOk (zaj _) (j.hok.fresh (zaj _))
def z1c(ta:TA):TI:=λG H R=>ta G H λvs H1=>∃j:Int,vs=[.int j]/\-(2 ^ 62)<=j/\j<2 ^ 62/\R (Itr 0 j.toNat) H1
def z1b(ta:TA):TI:=λG H R=>ta G H λvs H1=>∃i j:Int,vs=[.int i,.int j]/\(-(2 ^ 62)<=i/\i<2 ^ 62/\-(2 ^ 62)<=j/\j<2 ^ 62)/\R (Itr i (j-i).toNat) H1
def P0{a:Expr}{ta:TA}{p pos:Pos}(hg:Gl X "range")(Z:X.mg "range" = none)(ha:PA X [a] ta)(hs:starEach [a] X.env=[(false,eval a X.env)]:=by rfl):PI X tg (.Call (.Name "range" p) [a] [] pos) (z1c ta):=by
 intro pn s G H R I h;refine Call_ (su I hg Z boot_range (PyProof.Rows.callWith_type1 (thn (ha pos pn s G H _ I h) λus s1 Zh=>?_) hs rfl));obtain⟨vs,H1,I1,M,B⟩:=Zh;obtain⟨j,e,B,N,q⟩:=B;subst e;cases M with
 |cons r rr =>
  cases rr
  obtain⟨t,rfl⟩:=r;exact call_range_1 (Uk I1 (by omega) (by omega) B N (by simpa using q))
def Qz{a b:Expr}{ta:TA}{p pos:Pos}(hg:Gl X "range")(hm:X.mg "range" = none)(ha:PA X [a,b] ta)(hs:starEach [a,b] X.env=[(false,eval a X.env),(false,eval b X.env)]:=by rfl)(B:starEach [b] X.env=[(false,eval b X.env)]:=by rfl) :
  PI X tg (.Call (.Name "range" p) [a,b] [] pos) (z1b ta):=by
 intro pn s G H R I h;refine Call_ (su I hg hm boot_range (PyProof.Rows.callWith_type1 (thn (ha pos pn s G H _ I h) λus s1 Zh=>?_) (by rw[hs,B]) (by rw[B];rfl)))
 obtain⟨vs,H1,I1,N,M⟩:=Zh;obtain⟨i,j,e,⟨M,q2,q3,Z⟩,q⟩:=M;subst e;cases N with
 |cons r rr =>
  cases rr with
  |cons r' rr =>
   cases rr
   obtain⟨t,rfl⟩:=r;obtain⟨t',rfl⟩:=r';exact call_range_2 (Uk I1 M q2 q3 Z q)
def tFor(q:TI)(g:TG)(tb:TS):TS:=λD G H=>q G H λJ H1=>∃W:Nat->Nat->St->Hp->Prop,(∃m,W 0 m G H1)/\∀i m G H,W i m G H ->
 (J.stop i H/\D.nx G H)\/(J.go i H/\∃N:St->Hp->Prop,(∀σ' H',N σ' H'->∃m',m'<m/\W (i+1) m' σ' H')/\∀x H',J.yld i H x H'->g x G H' λj H2=>tb {D with nx:=N,ct:=N,bk:=D.nx} j H2)
def Yu(fp:List Addr)(h:Heap):List (Addr×Obj):=fp.filterMap λb=>(h.get? b).map λo=>(b,o)
def se{b:Addr}{o:Obj}(j:b∈fp)(e:h.get? b=some o):(b,o)∈Yu fp h:=List.mem_filterMap.mpr ⟨b,j,by rw[e];rfl⟩
def P9(j:p∈Yu fp h):p.1∈fp/\h.get? p.1=some p.2:=by
 obtain⟨b,B,e⟩:=List.mem_filterMap.mp j;cases q:h.get? b with
 |none=>rw[q]at e;cases e
 |some o =>
  rw[q]at e;have I:(b,o)=p:=Option.some.inj e;subst I;exact⟨B,q⟩
def Inv.pinned(I:Inv X pn G H s)(M:∀ b∈fp,FpOk X pn H b)(ho:∀ b∈fp,∃ o,s.heap.get? b=some o/\∀ v,o.data≠.cell v):Inv X (pn++Yu fp s.heap) G H s :=
 I.pins_of λp B=>(zas.mp B).elim (λz=>I.pin p (List.mem_append_right _ z)) λz=>by
  obtain⟨j,e⟩:=P9 z;obtain⟨f0,Z,N,_⟩:=M p.1 j;obtain⟨o,q,d⟩:=ho p.1 j;rw[e]at q;cases q;exact⟨e,f0,Z,N,d⟩
def Inv.unpinned(I:Inv X (pn++pl) G H s):Inv X pn G H s:=I.pins_of λp j=>I.pin p (List.mem_append_right _ (List.mem_append_left _ j))
def Cf{wi:TI}{tb:TS}(hp:PassesOwn (model X.prog X.w) X.A X.env X.xe)(hc:X.calm=true)(hi:PI X tg iter wi)(hg:PG X tg g)(M:PSs X body tb)(hs:∀ x,foldedSetIterable iter X.env x=pure x:=by intro _;rfl):PS X (.For tg iter body [] pos) (tFor wi g tb):=by
 intro pn s G H D I h;refine wpAny_For (thn (hi pn s G H _ I h) λv s1 h1=>thn h1 λa9 s2 h2=>?_) hs;obtain⟨it,fp,tn,J,H2,e,I2,T,a6,f2,W,⟨m0,w0⟩,a1⟩:=h2;subst e;have B:∀{H':Hp},(∀b∈fp,H' b=none)->∀b∈fp,FpOk X pn H' b:=λhn b M=>⟨hn b M,(f2 b M).2⟩;refine codeAny_forLoop_any (λn s'=>∃i σ' H',Inv X pn σ' H' s'/\tn i s'.heap/\(∀b∈fp,H' b=none)/\W i n σ' H') ?_ m0 ⟨0,G,H2,I2,a6,λb M=>(f2 b M).1,w0⟩;rintro n s3 ⟨i,q,H3,I3,a3,a4,w3⟩;rcases a1 i n q H3 w3 with⟨a2,qn⟩|⟨go,N,hN,step⟩
 ·refine wpAny_passesOwn hp (thn (T.done X rfl rfl rfl hc i pn s3 q H3 X.xe I3 (B a4) a3 a2) λr s4 ⟨hr,I4⟩=>?_);subst hr;exact wpAny_execs_nil ⟨q,H3,I4,qn⟩
 refine wpAny_passesOwn hp (thn (T.item X rfl rfl rfl hc i pn s3 q H3 X.xe I3 (B a4) a3 go) λr s4 Zh=>?_);obtain⟨u,hr,h4⟩:=Zh;subst hr;refine wpAny_passesOwn hp (thn h4 λ_ s5 Zh=>?_);obtain⟨x,H5,I5,r5,y5,a0,a7⟩:=Zh;have a8:=I5.pinned (B a7) (T.obj _ _ a0);refine wpAny_passesOwn hp (thn (hg _ s5 q H5 x u _ a8 r5 (step x H5 y5)) λ_ s6 Zh=>?_);obtain⟨a5,H6,I6,q6⟩:=Zh;refine wpAny_passesOwn hp (thn (M _ s6 a5 H6 _ I6 q6) λf s7 q7=>?_);have Z:∀{j:St}{H7:Hp},Inv X (pn++Yu fp s5.heap) j H7 s7->N j H7->∃m,m<n/\∃i σ' H',Inv X pn σ' H' s7/\tn i s7.heap/\(∀b∈fp,H' b=none)/\W i m σ' H':=λ{j H7} I7 n7=>by
  obtain⟨m',hm,w7⟩:=hN j H7 n7;refine⟨m',hm,i+1,j,H7,I7.unpinned,T.keep _ _ _ a0 λb M o e=>(I7.pin (b,o) (List.mem_append_right _ (List.mem_append_right _ (se M e)))).1,λb M=>?_,w7⟩;obtain⟨o,e,d⟩:=T.obj _ _ a0 b M;exact(I7.pin (b,o) (List.mem_append_right _ (List.mem_append_right _ (se M e)))).2.1
 cases f with
 |next=>obtain⟨j,H7,I7,n7⟩:=q7;exact Z I7 n7
 |cont=>obtain⟨j,H7,I7,n7⟩:=q7;exact Z I7 n7
 |brk=>obtain⟨j,H7,I7,q7⟩:=q7;exact⟨j,H7,I7.unpinned,q7⟩
 |ret v=>obtain⟨x7,j,H7,I7,r7,q7⟩:=q7;exact⟨x7,j,H7,I7.unpinned,r7,q7⟩
end
abbrev R2:=V->V->Hp->VK->Prop
def OpR(X:Cx)(f:Value->Value->Sem Value)(r:R2):Prop :=
 ∀(pn:List (Addr×Obj))(s:Shared)(G:St)(H:Hp)(x y:V)(v u:Value)(Q:VK),Inv X pn G H s->RelV x v->RelV y u->r x y H Q ->
  wpAny (model X.prog X.w) X.A (f v u) (EP X pn G Q) X.xe s
def UnR(X:Cx)(f:Value->Sem Value)(r:V->Hp->VK->Prop):Prop :=
 ∀(pn:List (Addr×Obj))(s:Shared)(G:St)(H:Hp)(x:V)(v:Value)(Q:VK),Inv X pn G H s->RelV x v->r x H Q ->
  wpAny (model X.prog X.w) X.A (f v) (EP X pn G Q) X.xe s
def vz(X:Cx)(f:Value)(r:List V->Hp->VK->Prop):Prop :=
 ∀(pn:List (Addr×Obj))(s:Shared)(G:St)(H:Hp)(xs:List V)(us:List Value)(Q:VK),Inv X pn G H s->Vals xs us->r xs H Q ->
  wpAny (model X.prog X.w) X.A (call f us) (EP X pn G Q) X.xe s
def TruR(X:Cx)(r:V->Hp->(Bool->Hp->Prop)->Prop):Prop :=
 ∀(pn:List (Addr×Obj))(s:Shared)(G:St)(H:Hp)(x:V)(v:Value)(Q:Bool->Hp->Prop),Inv X pn G H s->RelV x v->r x H Q ->
  wpAny (model X.prog X.w) X.A (truthy v) (TP X pn G Q) X.xe s
def tOp(r:R2)(ta tb:TE):TE:=λG H Q=>ta G H λx H1=>tb G H1 λy H2=>r x y H2 Q
def tUn(r:V->Hp->VK->Prop)(ta:TE):TE:=λG H Q=>ta G H λx H1=>r x H1 Q
def rI(C:Int->Int->Prop)(g:Int->Int->V):R2:=λx y H Q=>∃i j,x=.int i/\y=.int j/\C i j/\Q (g i j) H
def rI0(g:Int->Int->V):R2:=λx y H Q=>∃i j,x=.int i/\y=.int j/\Q (g i j) H
def rU(g:Int->V):V->Hp->VK->Prop:=λx H Q=>∃i,x=.int i/\Q (g i) H
variable{a:Expr}
def binT(ha:PE X a ta)(hb:PE X b tb){H:Hp}{R:V->V->Hp->Prop}(I:Inv X pn G H s)(h:ta G H λx H1=>tb G H1 λy H2=>R x y H2){Q:Value->Shared->Prop}{f:Value->Value->Sem Value}(Z:∀ v u s2 x y H2,Inv X pn G H2 s2->RelV x v->RelV y u->R x y H2->wpAny (model X.prog X.w) X.A (f v u) Q X.xe s2) :
  wpAny (model X.prog X.w) X.A (eval a X.env) (λv q=>wpAny (model X.prog X.w) X.A (eval b X.env) (λu j=>wpAny (model X.prog X.w) X.A (f v u) Q X.xe j) X.xe q) X.xe s:=by
 refine thn (ha pn s G H _ I h) λv s1 Zh=>?_;obtain⟨x,H1,I1,B,N⟩:=Zh;refine thn (hb pn s1 G H1 _ I1 N) λu s2 Zh=>?_;obtain⟨y,H2,I2,r2,M⟩:=Zh;exact Z v u s2 x y H2 I2 B r2 M
def Cq(ho:OpR X (binaryOp op) r)(N:PE X a ta)(M:PE X b tb):PE X (.BinOp a op b pos) (tOp r ta tb):=by
 intro pn s G H Q I h;exact wpAny_BinOp (binT N M I h λv u s2 x y H2 Z B j q=>ho pn s2 G H2 x y v u Q Z B j q)
def z0r{r:V->Hp->VK->Prop}(ho:UnR X (unaryOp op) r)(B:PE X a ta):PE X (.UnaryOp op a pos) (tUn r ta):=by
 intro pn s G H Q I h;exact UnaryOp_ (thn (B pn s G H _ I h) λv s1 ⟨x,H1,M,j,q⟩=>ho pn s1 G H1 x v Q M j q)
def opI{f:Value->Value->Sem Value}{C:Int->Int->Prop}{g:Int->Int->Int}(B:∀ (i j:Int) (t u:Tok) (s:Shared) (Q:Value->Shared->Prop) (E:Value->Shared->Prop),C i j->Q (.int (g i j) s.toks) {s with toks:=s.toks+1}->wpAny (model X.prog X.w) X.A (f (.int i t) (.int j u)) Q E s) :
  OpR X f (rI C λi j=>.int (g i j)):=by
 intro pn s G H x y v u Q I N M h;obtain⟨i,j,rfl,rfl,Z,q⟩:=h;obtain⟨t,rfl⟩:=N;obtain⟨t',rfl⟩:=M;exact B i j t t' s _ _ Z ⟨.int (g i j),H,I.tok _,⟨_,rfl⟩,q⟩
def opI0{f:Value->Value->Sem Value}{g:Int->Int->Int}(B:∀ (i j:Int) (t u:Tok) (s:Shared) (Q:Value->Shared->Prop) (E:Value->Shared->Prop),Q (.int (g i j) s.toks) {s with toks:=s.toks+1}->wpAny (model X.prog X.w) X.A (f (.int i t) (.int j u)) Q E s) :
  OpR X f (rI0 λi j=>.int (g i j)):=by
 intro pn s G H x y v u Q I N M h;obtain⟨i,j,rfl,rfl,q⟩:=h;obtain⟨t,rfl⟩:=N;obtain⟨t',rfl⟩:=M;exact B i j t t' s _ _ ⟨.int (g i j),H,I.tok _,⟨_,rfl⟩,q⟩
def opB0{f:Value->Value->Sem Value}{g:Int->Int->Bool}(B:∀ (i j:Int) (t u:Tok) (s:Shared) (Q:Value->Shared->Prop) (E:Value->Shared->Prop),Q (.bool (g i j)) s->wpAny (model X.prog X.w) X.A (f (.int i t) (.int j u)) Q E s) :
  OpR X f (rI0 λi j=>.bl (g i j)):=by
 intro pn s G H x y v u Q I N M h;obtain⟨i,j,rfl,rfl,q⟩:=h;obtain⟨t,rfl⟩:=N;obtain⟨t',rfl⟩:=M;exact B i j t t' s _ _ ⟨.bl (g i j),H,I,rfl,q⟩
def CPow(i j:Int):Prop:=0<=j/\j<=1000000/\i.natAbs<2 ^ 64
def Bb:OpR X (binaryOp .Add) (rI0 λi j=>.int (i+j)):=opI0 λ_ _ _ _ _ _ _ q=>add_int q
def Cy:OpR X (binaryOp .Sub) (rI0 λi j=>.int (i-j)):=opI0 λ_ _ _ _ _ _ _ q=>sub_int q
def Fo:OpR X (binaryOp .Mod) (rI (λ_ j=>j≠0) λi j=>.int (i.fmod j)):=opI λ_ _ _ _ _ _ _ B q=>mod_int' B q
def B3:OpR X (binaryOp .Pow) (rI CPow λi j=>.int (i ^ j.toNat)):=opI λ_ _ _ _ _ _ _ B q=>pow_int_small B.1 B.2.1 B.2.2 q
def unI{f:Value->Sem Value}{g:Int->Int}(j:∀ (i:Int) (t:Tok) (s:Shared) (Q:Value->Shared->Prop) (E:Value->Shared->Prop),Q (.int (g i) s.toks) {s with toks:=s.toks+1}->wpAny (model X.prog X.w) X.A (f (.int i t)) Q E s) :
  UnR X f (rU λi=>.int (g i)):=by
 intro pn s G H x v Q I B h;obtain⟨i,rfl,q⟩:=h;obtain⟨t,rfl⟩:=B;exact j i t s _ _ ⟨.int (g i),H,I.tok _,⟨_,rfl⟩,q⟩
def Dc:UnR X (unaryOp .USub) (rU λi=>.int (-i)):=unI λ_ _ _ _ _ q=>neg_int q
def Ol(I:Inv X pn G H s)(q:Q (.bl k) H)(e:k=k'):EP X pn G Q (.bool k') s:=by
 subst e;exact⟨.bl k,H,I,rfl,q⟩
def z0u:OpR X (compareOp .Lt) (rI0 λi j=>.bl (decide (i<j))):=opB0 λ_ _ _ _ _ _ _ q=>lt_int q
def B8:OpR X (compareOp .Gt) (rI0 λi j=>.bl (decide (j<i))):=opB0 λ_ _ _ _ _ _ _ q=>gt_int q
def B9:OpR X (compareOp .GtE) (rI0 λi j=>.bl (decide (j<=i))):=opB0 λ_ _ _ _ _ _ _ q=>ge_int q
def P6:OpR X (compareOp .In) (λx y H Q=>∃i j,x=.str i/\y=.str j/\Q (.bl (!(Builtin.Str.occurrences j i 0 j.length 1).isEmpty)) H):=by
 intro pn s G H x y v u Q I M B h;obtain⟨i,j,rfl,rfl,q⟩:=h;obtain⟨t,rfl⟩:=M;obtain⟨t',rfl⟩:=B;exact in_str (Ol I q rfl)
def B6:OpR X (compareOp .Is) (λx y H Q=>y=.non/\Q (.bl (decide (x=.non))) H):=by
 intro pn s G H x y v u Q I j B h;obtain⟨rfl,q⟩:=h;cases B;refine is_none_gen (Ol I q ?_);cases x <;> first
  |(cases j;rfl)
  |(obtain⟨t,rfl⟩:=j;rfl)
def Fm:OpR X (compareOp .IsNot) (λx y H Q=>y=.non/\Q (.bl (!decide (x=.non))) H):=by
 intro pn s G H x y v u Q I j B h;obtain⟨rfl,q⟩:=h;cases B;refine isnot_none_gen (Ol I q ?_);cases x <;> first
  |(cases j;rfl)
  |(obtain⟨t,rfl⟩:=j;rfl)
def OpR.or(h:OpR X f r)(h':OpR X f r'):OpR X f (λx y H Q=>r x y H Q\/r' x y H Q):=by
 intro pn s G H x y v u Q I B j q;rcases q with q|q
 ·exact h pn s G H x y v u Q I B j q
 exact h' pn s G H x y v u Q I B j q
def sn(b:Expr)(h:op≠.In:=by decide)(h2:op≠.NotIn:=by decide):behindInMarks op b=false:=by
 have e1:(op==CmpOp.In)=false:=by cases op <;> first|rfl|exact absurd rfl h
 have e2:(op==CmpOp.NotIn)=false:=by cases op <;> first|rfl|exact absurd rfl h2
 cases b <;> simp[behindInMarks,e1,e2]
def Fh(ho:OpR X (compareOp op) r)(Z:PE X a ta)(N:PE X b tb)(M:behindInMarks op b=false):PE X (.Compare a [op] [b] pos) (tOp r ta tb):=by
 intro pn s G H Q I h;exact wpAny_Compare1 (binT Z N I h λv u s2 x y H2 I2 B j q=>ho pn s2 G H2 x y v u Q I2 B j q) M
def z0e(t:TE):TT:=λG H Q=>t G H λx H'=>∃k,x=.bl k/\Q k H'
def Gp(ho:OpR X (compareOp op) r)(ha:PE X a ta)(hb:PE X b tb)(Z:behindInMarks op b=false):PT X (.Compare a [op] [b] pos) (z0e (tOp r ta tb)):=by
 intro pn s G H Q I h;refine wpAny_isTrue_Compare1 (thn (ha pn s G H _ I h) λv s1 ⟨x,H1,I1,q,N⟩=>thn (hb pn s1 G H1 _ I1 N) λu s2 ⟨y,H2,I2,r2,M⟩ =>
  thn (ho pn s2 G H2 x y v u _ I2 q r2 M) λc s3 ⟨z,H3,I3,j,k,e,B⟩=>?_) Z
 subst e;cases j;exact wpAny_truthy_bool ⟨H3,I3,B⟩
def TruV(K:W.Frag)(x:V)(H:Hp)(k:Bool):Prop :=
 match x with
 |.non=>k=false
 |.bl b=>k=b
 |.int i=>k=(i != 0)
 |.str y=>y.length<=sizeLine/\k=((y.length:Int) != 0)
 |.byt y=>y.size<=sizeLine/\k=((y.size:Int) != 0)
 |.ref p=>(∃xs,SqL K H p xs/\k=!xs.isEmpty)\/(∃xs,SqT K H p xs/\k=!xs.isEmpty)\/∃kvs,H p=some (.dK kvs)/\k=!kvs.isEmpty
 |_=>False
def Rb{κ:Type}{kvs:List (κ×V)}{vs:List (κ×Value)}(r:KV kvs vs):(!vs.isEmpty)=!kvs.isEmpty:=by
 cases r <;> rfl
def bh{xs:List V}{its:List Value}(r:Vals xs its):(!its.toArray.isEmpty)=!xs.isEmpty:=by
 cases r <;> simp
def rm:(sizeLine:Nat)<2 ^ 63:=by rw[sizeLine_eq];decide
def Dd:TruR X (λx H Q=>∃k,TruV X.K x H k/\Q k H):=by
 intro pn s G H x v Q I M h;obtain⟨k,e,q⟩:=h;have hl:=rm;have hs:sizeLine=16777216:=sizeLine_eq;cases x with
 |non =>
  cases M
  have j:k=false:=e;subst j;exact truthy_none ⟨H,I,q⟩
 |bl b =>
  cases M
  have j:k=b:=e;subst j;exact wpAny_truthy_bool ⟨H,I,q⟩
 |int i =>
  obtain⟨t,rfl⟩:=M;have j:k=(i != 0):=e;subst j;exact PySem.P.truthy_int ⟨H,I,q⟩
 |str y =>
  obtain⟨t,rfl⟩:=M;obtain⟨hy,j⟩:y.length<=sizeLine/\k=((y.length:Int) != 0):=e;subst j;exact PySem.P.truthy_str (by omega) ⟨H,I.tok _,q⟩
 |byt y =>
  obtain⟨t,rfl⟩:=M;obtain⟨hy,j⟩:y.size<=sizeLine/\k=((y.size:Int) != 0):=e;subst j;exact W.truthy_bytes (by omega) ⟨H,I.tok _,q⟩
 |ref p =>
  cases M
  have j:(∃xs,SqL X.K H p xs/\k=!xs.isEmpty)\/(∃xs,SqT X.K H p xs/\k=!xs.isEmpty)\/∃kvs,H p=some (.dK kvs)/\k=!kvs.isEmpty:=e;rcases j with⟨xs,N,j⟩|⟨xs,N,j⟩|⟨kvs,N,j⟩
  ·subst j;obtain⟨its,r,pl,Z⟩:=I.list N;have B:=r.length;exact wpAny_truthy_list pl.isList (by simp only[zap];omega) ⟨H,I.tok _,by rw[bh r];exact q⟩
  ·subst j;obtain⟨its,r,pl,Z⟩:=I.tuple N;have B:=r.length;exact truthy_tuple pl (by simp only[zap];omega) ⟨H,I.tok _,by rw[bh r];exact q⟩
  subst j;obtain⟨Z,hS,vs,r,m⟩:kvs.length<=sizeLine/\(p==sysModules)=false/\∃vs,KV kvs vs/\s.heap.DictOf (yk X.prog X.w) p vs:=I.hok p _ N;have B:kvs.length=vs.length:=Paired.length r;exact wpAny_truthy_dict hS m (by omega) ⟨H,I.tok _,by rw[Rb r];exact q⟩
 |_=>exact(show False from e).elim
def Mg(M:PE X a ta)(B:∀ whole,isTrue a X.env whole=(do let v <- whole;standAt a.pos;holding [v] (truthy v))) :
  PT X a (λG H Q=>ta G H λx H'=>∃k,TruV X.K x H' k/\Q k H'):=by
 intro pn s G H Q I h;exact isTrue_plain (thn (M pn s G H _ I h) λv s1 ⟨x,H1,N,j,q⟩=>Dd pn s1 G H1 x v Q N j q) (B _)
def So:OpR X (binaryOp .Add) (λx y H Q=>∃i j,x=.str i/\y=.str j/\i.length+j.length<=sizeLine/\Q (.str (i++j)) H):=by
 intro pn s G H x y v u Q I M B h;obtain⟨i,j,rfl,rfl,N,q⟩:=h;obtain⟨t,rfl⟩:=M;obtain⟨t',rfl⟩:=B;exact add_str (λt' tk=>⟨.str (i++j),H,I.tok _,⟨_,rfl⟩,q⟩) N
def uz{x:V}{us:List Value}(r:Vals [x] us):∃u,us=[u]/\RelV x u:=by
 cases r with
 |cons r1 r2=>cases r2;exact⟨_,rfl,r1⟩
def Hd(r:Vals [x,y] us):∃u w',us=[u,w']/\RelV x u/\RelV y w':=by
 cases r with
 |cons r1 r2 =>
  cases r2 with
  |cons r3 r4=>cases r4;exact⟨_,_,rfl,r1,r3⟩
def N5:vz X (.type "int") (λxs H Q=>(∃i,xs=[.int i]/\Q (.int i) H)\/∃k,xs=[.bl k]/\Q (.int (if k then 1 else 0)) H):=by
 intro pn s G H xs us Q I r h;rcases h with⟨i,rfl,q⟩|⟨k,rfl,q⟩
 ·obtain⟨u,rfl,t,rfl⟩:=uz r;exact call_int_int ⟨.int i,H,I,⟨_,rfl⟩,q⟩
 obtain⟨u,rfl,j⟩:=uz r;cases j;exact call_int_bool ⟨.int (if k then 1 else 0),H,I.tok _,⟨_,rfl⟩,q⟩
structure ObjM(h:Heap)(x dx C:Addr)(mA:Str->Option Value):Prop where
 obj:h.get? x=some (W.instObj C dx)
 ns:h.Ns1 dx mA
 ne:dx≠x
def Pi{h:Heap}{mA:Str->Option Value}(n:h.Ns1 dx mA):∃od,h.get? dx=some od/\∀name,W.lookIn name od=some (mA name):=by
 obtain⟨o,es,ep,ho,N,M,_,I⟩:=n;refine⟨o,ho,λname=>?_⟩;have e:=I name;unfold nsFind findBy at e;rw[<- Array.find?_toList]at e;unfold W.lookIn;rw[N]
 dsimp only
 split
 ·rename_i y q;rw[q]at e;exact congrArg some e
 rename_i q;rw[q]at e;have a:es.toList.any (·.refKey)=false:=by
  rw[List.any_eq_false];intro y B;obtain⟨z,t,j⟩:=M y (Array.mem_toList_iff.mp B);simp[DictEntry.refKey,j]
 have Z:¬ es.toList.any (·.refKey)=true:=by rw[a];exact Bool.false_ne_true
 rw[if_neg Z];exact congrArg some e
def ObjM.look(I:ObjM h x dx C mA):∃od,W.InstAt h x (W.instObj C dx) C (some od)/\∀name,W.lookIn name od=some (mA name) :=
 let ⟨od,ho,hl⟩:=Pi I.ns
 ⟨od,⟨I.obj,rfl,rfl,ho⟩,hl⟩
variable{prog:Program}{A:Around}{K:W.Frag}{x dx C f:Addr}{mA:Str->Option Value}{name:Str}{v:Value}
def Ed(X:K.In s.heap)(I:ObjM s.heap x dx C mA)(M:W.plainGet K C name=true)(B:W.hasDictIn K C=true)(N:W.findIn K (.ref C) name=some none)(q:mA name=some v)(j:W.handedIn v=true)(h:Q v {s with toks:=s.toks+1}) :
  wpAny (model prog w) A (getAttr (.ref x) name expr) Q E s:=by
 obtain⟨Z,J,hl⟩:=I.look;exact W.get_value X J (W.plainGet_of M).1 (W.findObj_own B N rfl (by rw[hl,q])) j h
def Lf(X:K.In s.heap)(I:ObjM s.heap x dx C mA)(j:W.plainGet K C name=true)(N:W.findIn K (.ref C) name=some (some (.ref f)))(M:W.isFn K (.ref f)=true)(B:mA name=none)(h:Q (.ref f,[.ref x]) s) :
  wpAny (model prog w) A (getMethod (.ref x) name pl) Q E s:=by
 obtain⟨q,J,hl⟩:=I.look;exact W.method_fn X J (W.plainGet_of j).1 (W.plainGet_of j).2 N (beq_iff_eq.mp M) (by show(W.lookIn name q).map (·.isSome)=some false;rw[hl,B];rfl) h
def Hm(X:K.In s.heap)(I:ObjM s.heap x dx C mA)(hs:W.findIn K (.ref C) "__setattr__" = some (some (.builtin "object.__setattr__")))(hp:W.plainOver K C=true)(ht:W.takerIn K C name=some none)(hh:W.hasDictIn K C=true)(hw:PySem.Within mA ns)(hsz:ns.length<=sizeLine)(h:∀ h',ObjM h' x dx C (λy=>if y=name then some v else mA y)->Heap.SameBut dx s.heap h'->Q () {s with heap:=h',toks:=s.toks+2}) :
  wpAny (model prog w) A (setAttr (.ref x) name v) Q E s:=by
 obtain⟨od,J,hl⟩:=I.look;refine W.set_plain X J hs (W.osa_open (s:={s with toks:=s.toks+1}) (r:=none) X J hp ht λb=>?_);obtain⟨cd,hc,N⟩:=W.any_some hh;have hx:s.heap.get? x=some ⟨.ref C,some dx,.plain,#[]⟩:=I.obj;refine zaa (zab (zaa (zaa (wpAny_loadPart hx (zaa (W.Looks.here (s:={s with toks:=s.toks+1}) (W.looks_clsIn X hc) ?_))))));rw[N];refine zab (a:=some dx) (zaa (zab (zaa ?_)));refine wpAny_nsSet1 (s:={s with toks:=s.toks+1}) I.ns λh' q j=>?_;obtain⟨oD,a0,a1,B,M,Z⟩:=q.count (PySem.Within.cons name v hw);refine zaa (wpAny_lookBehind B (by rw[M];exact pastItsLine_dict (zak Z (by rw[zLc];omega))) ?_)
 exact zab (h _ ⟨(j.2 _ (Ne.symm I.ne)).trans I.obj,q,I.ne⟩ j)
def Mt(X:K.In s.heap)(q:W.makesIn K C=true)(hi:W.findIn K (.ref C) "__init__" = some (some (.ref f)))(B:W.typeIn K (.ref f)=some (.type "function"))(h:codeAny (model prog w) (A.under (.builtin "type.__call__" ⟨.ref C::vs,kw⟩)) (.call (.ref f) ⟨.ref (s.heap.objs.size+1)::vs,kw⟩) (W.InitBack (s.heap.objs.size+1) R)
   {s with heap:=(s.heap.push W.emptyDict).push (W.instObj C s.heap.objs.size)}) :
  codeAny (model prog w) A (.call (.ref C) ⟨vs,kw⟩) R s:=by
 obtain⟨M,g,d,t,I⟩:=s;exact W.make_core (W.makes_of X q) (W.looks_findIn X hi) (λj=>W.bind_fn X j B) (.inl rfl) h
def putF(f:Str)(v:V):List (Str×V)->List (Str×V)
 |[]=>[(f,v)]
 |(g,x)::r=>if g=f then(g,v)::r else(g,x)::putF f v r
theorem gk(f g:Str)(v:V):∀fs:List (Str×V),(putF f v fs).lookup g=if g=f then some v else fs.lookup g
 |[]=>by
  show List.lookup g [(f,v)]=_;by_cases h:g=f
  ·have j:(g==f)=true:=beq_iff_eq.mpr h;simp only[List.lookup,j,if_pos h]
  have j:(g==f)=false:=beq_eq_false_iff_ne.mpr h;simp only[List.lookup,j,if_neg h]
 |(k,x)::r=>by
  have q:=gk f g v r;rw[show putF f v ((k,x)::r)=(if k=f then(k,v)::r else(k,x)::putF f v r) from rfl]
  by_cases hk:k=f
  ·rw[if_pos hk];by_cases h:g=k
   ·have j:(g==k)=true:=beq_iff_eq.mpr h;simp only[List.lookup,j,if_pos (h.trans hk)]
   have j:(g==k)=false:=beq_eq_false_iff_ne.mpr h;simp only[List.lookup,j,if_neg (λe:g=f=>h (e.trans hk.symm))]
  rw[if_neg hk];by_cases h:g=k
  ·have j:(g==k)=true:=beq_iff_eq.mpr h;simp only[List.lookup,j,if_neg (λe:g=f=>hk (h.symm.trans e))]
  have j:(g==k)=false:=beq_eq_false_iff_ne.mpr h;simp only[List.lookup,j];exact q
theorem gw(f:Str)(v:V):∀fs:List (Str×V),f∈(putF f v fs).map (·.1)/\∀g,g∈fs.map (·.1)->g∈(putF f v fs).map (·.1)
 |[]=>⟨by simp[putF],λg h=>by simp at h⟩
 |(k,x)::r=>by
  obtain⟨i1,i2⟩:=gw f v r;rw[show putF f v ((k,x)::r)=(if k=f then(k,v)::r else(k,x)::putF f v r) from rfl]
  by_cases hk:k=f
  ·rw[if_pos hk];subst hk;exact⟨by simp,λg h=>by simpa using h⟩
  rw[if_neg hk];refine⟨?_,λg h=>?_⟩
  ·rw[List.map_cons];exact zal _ i1
  rw[List.map_cons]at h ⊢;rcases zam.mp h with e|e
  ·exact zam.mpr (.inl e)
  exact zal _ (i2 g e)
theorem gn(f:Str)(v:V):∀fs:List (Str×V),(putF f v fs).length<=fs.length+1
 |[]=>by simp[putF]
 |(k,x)::r=>by
  have j:=gn f v r;rw[show putF f v ((k,x)::r)=(if k=f then(k,v)::r else(k,x)::putF f v r) from rfl]
  by_cases hk:k=f
  ·rw[if_pos hk,zLc,zLc];omega
  rw[if_neg hk,zLc,zLc];omega
def RelO.some_of{v:V}{o:Option Value}(r:RelO (some v) o):∃u,o=some u/\RelV v u:=by
 cases o with
 |none=>exact(show False from r).elim
 |some u=>exact⟨u,rfl,r⟩
def RelO.none_of{o:Option Value}(r:RelO none o):o=none:=by
 cases o with
 |none=>rfl
 |some u=>exact(show False from r).elim
def O4{v:V}(r:RelV v u):W.handedIn u=true:=by
 cases v with
 |non=>cases (show u=Value.none from r);rfl
 |bl b=>cases (show u=Value.bool b from r);rfl
 |int i=>obtain⟨t,e⟩:=(show ∃t,u=Value.int i t from r);cases e;rfl
 |str x=>obtain⟨t,e⟩:=(show ∃t,u=Value.str x t from r);cases e;rfl
 |byt b=>obtain⟨t,e⟩:=(show ∃t,u=Value.bytes b t from r);cases e;rfl
 |flt b=>obtain⟨t,e⟩:=(show ∃t,u=Value.float b t from r);cases e;rfl
 |ref a=>cases (show u=Value.ref a from r);rfl
 |ty n=>cases (show u=Value.type n from r);rfl
variable{a:Addr}{fs:List (Str×V)}
def Zp(j:HOk P w H h)(e:H a=some (.ins C dx fs)):∃mA,ObjM h a dx C mA/\(∀f,RelO (fs.lookup f) (mA f))/\PySem.Within mA (fs.map (·.1))/\fs.length<=1000/\H dx=some (.own a):=by
 obtain⟨d,z,I,B,mA,n,r,q⟩:=(show wm P w H h a (.ins C dx fs) from j a _ e);exact⟨mA,⟨B,n,I⟩,r,q,z,d⟩
structure Cls(K:W.Frag)(C:Addr):Prop where
 pg:W.plainGet K C Str.empty=true
 hd:W.hasDictIn K C=true
 po:W.plainOver K C=true
 sa:W.findIn K (.ref C) "__setattr__" = some (some (.builtin "object.__setattr__"))
def Cls.get{K:W.Frag}{C:Addr}(c:Cls K C)(f:Str):W.plainGet K C f=true:=c.pg
def j4(K:W.Frag)(C:Addr)(f:Str):Prop:=W.findIn K (.ref C) f=some none
def j4.taker{K:W.Frag}{C:Addr}{f:Str}(n:j4 K C f):W.takerIn K C f=some none:=by
 unfold W.takerIn;rw[show W.findIn K (.ref C) f=some none from n];rfl
structure Con(K:W.Frag)(C:Addr)(f:Str)(v:V)(u:Value):Prop where
 at_:W.findIn K (.ref C) f=some (some u)
 rel:RelV v u
 get:W.specialIn K u "__get__" = some none
 cp:W.copiedNames.contains f=false
structure Meth(K:W.Frag)(C:Addr)(m:Str)(f:Addr):Prop where
 at_:W.findIn K (.ref C) m=some (some (.ref f))
 fn:W.isFn K (.ref f)=true
 kp:W.keepIn K (.ref f)=true
variable{f:Str}{v:V}
def Rc{b:Bool}(I:Inv X pn G H s)(e:H a=some (.ins C dx fs))(c:Cls X.K C)(n:j4 X.K C f)(l:fs.lookup f=some v)(h:∀ u s',Inv X pn G H s'->RelV v u->Q u s'):wpAny (model X.prog X.w) A (getAttr (.ref a) f b) Q E s:=by
 obtain⟨mA,O,r,_,_,_⟩:=Zp I.hok e;obtain⟨u,hu,j⟩:=RelO.some_of (v:=v) (o:=mA f) (by rw[<- l];exact r f)
 exact Ed I.kIn O (c.get f) c.hd n hu (O4 j) (h u _ (I.tok _) j)
def bj(I:Inv X pn G H s)(e:H a=some (.ins C dx fs))(c:Cls X.K C)(k:Meth X.K C m g)(l:fs.lookup m=none)(h:Q (.ref g,[.ref a]) s):wpAny (model X.prog X.w) A (getMethod (.ref a) m pl) Q E s:=by
 obtain⟨mA,O,r,_,_,_⟩:=Zp I.hok e;have j:mA m=none:=RelO.none_of (by rw[<- l];exact r m)
 exact Lf I.kIn O (c.get m) k.at_ k.fn j h
def Se(I:Inv X pn G H s)(e:H a=some (.ins C dx fs))(c:Cls X.K C)(n:j4 X.K C f)(hl:fs.length<1000)(M:RelV y u)(h:∀ s',Inv X pn G (upd H a (.ins C dx (putF f y fs))) s'->Q () s'):wpAny (model X.prog X.w) A (setAttr (.ref a) f u) Q E s:=by
 obtain⟨mA,O,r,j,_,ho⟩:=Zp I.hok e;have N:(fs.map (·.1)).length<=sizeLine:=by rw[zLm,sizeLine_eq];omega
 refine Hm I.kIn O c.sa c.po n.taker c.hd j N λh' O' B=>h _ ?_;have hd:∃o,h'.get? dx=some o:=let ⟨o,_,_,e',_⟩:=O'.ns;⟨o,e'⟩
 refine I.write (x:=a) (e:=dx) (by rw[e];exact True.intro) (.inr ho) (λb q hb z=>(B.2 b hb).trans z) hd ?_
 refine⟨by rw[y0 O.ne];exact ho,?_,O.ne,O'.obj,_,O'.ns,λg=>?_,λg Z=>?_⟩
 ·have:=gn f y fs;omega
 ·show RelO ((putF f y fs).lookup g) (if g=f then some u else mA g)
  rw[gk];by_cases q:g=f
  ·rw[if_pos q,if_pos q];exact M
  rw[if_neg q,if_neg q];exact r g
 by_cases q:g=f
 ·rw[q];exact(gw f y fs).1
 refine(gw f y fs).2 g (j g λz=>Z ?_);show(if g=f then some u else mA g)=none
 rw[if_neg q];exact z
def Inv.made(I:Inv X pn G H s):Inv X pn G (upd (upd H s.heap.objs.size (.own (s.heap.objs.size+1))) (s.heap.objs.size+1) (.ins C s.heap.objs.size []))
  {s with heap:=(s.heap.push W.emptyDict).push (W.instObj C s.heap.objs.size)}:=by
 have e1:(s.heap.push W.emptyDict).get? s.heap.objs.size=some W.emptyDict:=zad s.heap rfl;have e2:((s.heap.push W.emptyDict).push (W.instObj C s.heap.objs.size)).get? (s.heap.objs.size+1)=some (W.instObj C s.heap.objs.size):=by
  have:=zad (s.heap.push W.emptyDict) (o:=W.instObj C s.heap.objs.size) rfl
  rwa [Heap.size_push]at this
 have N:(s.heap.push W.emptyDict).Ns s.heap.objs.size (λ_=>none):=⟨W.emptyDict,#[],_,e1,rfl,(λe M=>absurd M (by simp)),λ_=>rfl⟩
 have Z:=I.laid (a:=s.heap.objs.size) (o:=.own (s.heap.objs.size+1)) (h':=s.heap.push W.emptyDict) (t':=s.toks) (λb u q=>zac _ q) (zaj _) ⟨_,e1⟩;refine Z.laid (a:=s.heap.objs.size+1) (o:=.ins C s.heap.objs.size []) (t':=s.toks) (λb u q=>zac _ q) (Nat.le_of_eq (Heap.size_push _ _)) ?_;have j:s.heap.objs.size≠s.heap.objs.size+1:=Nat.ne_of_lt (Nat.lt_succ_self _);refine⟨by rw[y0 j,zw],Nat.zero_le _,j,e2,λ_=>none,(Heap.Ns1.of_empty N).at λo q=>zac _ q,λ_=>True.intro,λy B=>absurd rfl B⟩
def D3(q:attributeBase e f env (eval e env)=eval e env)(h:wpAny (model prog w) A (eval e env) (λo j=>wpAny (model prog w) A (getAttr o f true) Q E j) E s):wpAny (model prog w) A (eval (.Attribute e f pos) env) Q E s :=
 Attribute_any_ h (by rw[arm_eval_Attribute,q])
def tFld(K:W.Frag)(ta:TE)(f:Str):TE:=λG H Q=>ta G H λx H1=>∃a C dx fs v,x=.ref a/\H1 a=some (.ins C dx fs)/\Cls K C/\j4 K C f/\fs.lookup f=some v/\Q v H1
def sFld(K:W.Frag)(ta tv:TE)(f:Str):TS:=λD G H=>tv G H λy H1=>ta G H1 λx H2=>∃a C dx fs,x=.ref a/\H2 a=some (.ins C dx fs)/\Cls K C/\j4 K C f/\fs.length<1000 /\
 D.nx G (upd H2 a (.ins C dx (putF f y fs)))
section
variable{o e value:Expr}{pos':Pos}{tv:TE}
def Je(M:PE X e ta)(N:attributeBase e f X.env (eval e X.env)=eval e X.env):PE X (.Attribute e f pos) (tFld X.K ta f):=by
 intro pn s G H Q I h;refine D3 N (thn (M pn s G H _ I h) λu s1 Zh=>?_);obtain⟨x,H1,I1,j,a,C,dx,fs,v,ex,Z,c,n,l,q⟩:=Zh;subst ex;obtain rfl:u=Value.ref a:=j;exact Rc I1 Z c n l λu' s2 I2 B=>⟨v,H1,I2,B,q⟩
def Jb(ha:PE X o ta)(Z:PE X value tv)(hs:swapsWith value (some (.Attribute o f pos')) pos.line X.env=pure false):PS X (.Assign [.Attribute o f pos'] value pos) (sFld X.K ta tv f):=by
 intro pn s G H D I h;refine plainObj_wpAny_Assign_Attribute (thn (Z pn s G H _ I h) λu s1 ⟨y,H1,I1,j,q⟩=>thn (ha pn s1 G H1 _ I1 q) λN s2 Zh=>?_) hs;obtain⟨x,H2,I2,B,a,C,dx,fs,ex,ea,c,n,l,M⟩:=Zh;subst ex;obtain rfl:N=Value.ref a:=B;exact Se I2 ea c n l j λs3 I3=>⟨G,_,I3,M⟩
end
variable{Q:Value->Shared->Prop}{c:Value}{b:Bool}
inductive TyOf(K:W.Frag)(H:Hp):V->Value->Prop where
 |non:TyOf K H .non (.type "NoneType")
 |bl (x:Bool):TyOf K H (.bl x) (.type "bool")
 |int (i:Int):TyOf K H (.int i) (.type "int")
 |str (x:Str):TyOf K H (.str x) (.type "str")
 |flt (x:UInt64):TyOf K H (.flt x) (.type "float")
 |lst {a:Addr} {xs:List V} (e:H a=some (.lst xs)):TyOf K H (.ref a) (.type "list")
 |frz {a:Addr} {o:Obj} {xs:List V} (e:H a=some (.frz o (.lst xs))):TyOf K H (.ref a) (.type "list")
 |tup {a:Addr} {xs:List V} (e:H a=some (.tup xs)):TyOf K H (.ref a) (.type "tuple")
 |dK {a:Addr} {kvs:List (Key×V)} (e:H a=some (.dK kvs)):TyOf K H (.ref a) (.type "dict")
 |dT {a:Addr} {kvs:List (List Key×V)} (e:H a=some (.dT kvs)):TyOf K H (.ref a) (.type "dict")
 |ins {a C dx:Addr} {fs:List (Str×V)} (e:H a=some (.ins C dx fs)) (cl:Cls K C) (ha:W.findIn K (.ref C) "__class__" = some (some (.builtin "object.__class__")))
   (hn:W.specialIn K (.builtin "object.__class__") "__get__" = some (some (.builtin "getset_descriptor.__get__"))) (htk:W.takesIn K (.builtin "object.__class__")=some true)
   (hm:W.mroIn K C (.type "object")=some true):TyOf K H (.ref a) (.ref C)
def ui{x:V}(I:Inv X pn G H s)(j:RelV x u)(ty:TyOf X.K H x t)(e:W.kitOne X.K t c=some b)(h:∀ tk,Q (.bool b) {s with toks:=tk}) :
  wpAny (model X.prog X.w) A (call (.builtin "isinstance") [u,c]) Q E s:=by
 cases ty with
 |non=>cases (show u=Value.none from j);exact W.kia_one W.kitx_none I.kIn True.intro e (λz=>nomatch z) h
 |bl y=>cases (show u=Value.bool y from j);exact W.kia_one W.kitx_bool I.kIn True.intro e (λz=>nomatch z) h
 |int i=>obtain⟨t,q⟩:=(show ∃t,u=Value.int i t from j);cases q;exact W.kia_one W.kitx_int I.kIn True.intro e (λz=>nomatch z) h
 |str y=>obtain⟨t,q⟩:=(show ∃t,u=Value.str y t from j);cases q;exact W.kia_one W.kitx_str I.kIn True.intro e (λz=>nomatch z) h
 |flt y=>obtain⟨t,q⟩:=(show ∃t,u=Value.float y t from j);cases q;exact W.kia_one W.kitx_float I.kIn True.intro e (λz=>nomatch z) h
 |@lst a xs ea =>
  cases (show u=Value.ref a from j)
  obtain⟨_,_,n,_,h1⟩:=(show wm X.prog X.w H s.heap a (.lst xs) from I.hok a _ ea);exact W.kia_one W.kitx_list I.kIn ⟨_,h1,rfl⟩ e (λz=>nomatch z) h
 |@frz a ob xs ea =>
  cases (show u=Value.ref a from j)
  obtain⟨_,_,_,n,_,h1⟩:=(show wm X.prog X.w H s.heap a (.frz ob (.lst xs)) from I.hok a _ ea);exact W.kia_one W.kitx_list I.kIn ⟨_,h1,rfl⟩ e (λz=>nomatch z) h
 |@tup a xs ea =>
  cases (show u=Value.ref a from j)
  obtain⟨_,_,_,p⟩:=(show wm X.prog X.w H s.heap a (.tup xs) from I.hok a _ ea);obtain⟨o,h1,h2,_⟩:=p.1;exact W.kia_one W.kitx_tuple I.kIn ⟨o,h1,h2⟩ e (λz=>nomatch z) h
 |@dK a kvs ea =>
  cases (show u=Value.ref a from j)
  obtain⟨_,_,vs,_,p⟩:=(show wm X.prog X.w H s.heap a (.dK kvs) from I.hok a _ ea);obtain⟨o,es,ep,h1,h2,_⟩:=p;exact W.kia_one W.kitx_dict I.kIn ⟨o,h1,h2.1⟩ e (λz=>nomatch z) h
 |@dT a kvs ea =>
  cases (show u=Value.ref a from j)
  obtain⟨_,_,xs,_,o,es,ep,h1,h2,_⟩:=(show wm X.prog X.w H s.heap a (.dT kvs) from I.hok a _ ea);exact W.kia_one W.kitx_dict I.kIn ⟨o,h1,h2.1⟩ e (λz=>nomatch z) h
 |@ins a C dx fs ea cl ha hn htk hm =>
  cases (show u=Value.ref a from j)
  obtain⟨mA,O,_⟩:=Zp I.hok ea;obtain⟨B,J,_⟩:=O.look;exact W.kia_one (W.kitx_own (cl.get _) cl.hd ha hn htk hm) I.kIn J e (λz=>nomatch z) h
structure Room(k:Nat)(A:Around):Prop where
 hd:A.handled=none
 dp:A.depth+3*k+5<recursionLimit
 un:A.units+16*k+200<cLine
def Room.mono{j k:Nat}{A:Around}(r:Room k A)(h:j<=k):Room j A:=⟨r.hd,by have:=r.dp;omega,by have:=r.un;omega⟩
theorem Room.d{k k2:Nat}{A:Around}(h:Room k2 A)(e:k<=k2:=by omega):Room k A:=h.mono e
theorem Room.e{k j:Nat}{A:Around}(h:Room j A)(e:Nat.ble k j=true):Room k A:=h.mono (Nat.le_of_ble_eq_true e)
theorem Room.deeper{k:Nat}{A:Around}(r:Room (k+1) A)(env:Env):Room k (A.deeper env) :=
 ⟨r.hd,by have:=r.dp;show A.depth+1+3*k+5<_;omega,by have:=r.un;show A.units+3+16*k+200<_;omega⟩
def Sx{A:Around}{us:List Value}{j:List (Str×Value)}:(A.under (.builtin "type.__call__" ⟨.ref C::us,j⟩)).depth=A.depth+1:=by
 first|rfl|simp[Around.under,Code.weight,Code.isCreation,Code.isGuard,Code.isCaller,Code.frames,Code.isFrame,guardIds]
def Sw{A:Around}{us:List Value}{j:List (Str×Value)}:(A.under (.builtin "type.__call__" ⟨.ref C::us,j⟩)).units=A.units+1:=by
 first|rfl|simp[Around.under,Code.cUnits,Code.frames,Code.isFrame]
def Room.make{k:Nat}{A:Around}(r:Room (k+1) A)(C:Addr)(us:List Value)(j:List (Str×Value)):Room k (A.under (.builtin "type.__call__" ⟨.ref C::us,j⟩)) :=
 ⟨r.hd,by have:=r.dp;rw[Sx];omega,by have:=r.un;rw[Sw];omega⟩
theorem Room.depth{k:Nat}{A:Around}(r:Room k A):A.depth<recursionLimit:=by have:=r.dp;omega
theorem Room.units{k:Nat}{A:Around}(r:Room k A):A.units+64<cLine:=by have:=r.un;omega
def tNil:TA:=λ_ H Q=>Q [] H
def Sd(ta:TE)(j:TA):TA:=λG H Q=>ta G H λx H1=>j G H1 λxs H2=>Q (x::xs) H2
section
variable{e:Expr}{es:List Expr}{te:TE}{t:TA}
def u4:PA X [] tNil:=λ_ _ _ _ H Q I h=>Calls.spliced_nil ⟨[],H,I,.nil,h⟩
abbrev S_(X:Cx)(e:Expr)(es:List Expr):Prop:=starEach (e::es) X.env=(false,eval e X.env)::starEach es X.env
abbrev B_(X:Cx)(es:List Expr)(p:Pos):Prop:=(backTo p (starEach es X.env)).any (·.1)=false
def w5(M:PE X e te)(hr:PA X es t)(hs:S_ X e es:=by rfl):PA X (e::es) (Sd te t):=by
 intro pos pn s G H Q I h;rw[hs];show wpAny _ _ (spliced ((false,eval e X.env)::backTo pos (starEach es X.env))) _ _ s;refine Calls.spliced_cons (thn (M pn s G H _ I h) λu s1 Zh=>?_);obtain⟨x,H1,Z,j,B⟩:=Zh;exact thn (hr pos pn s1 G H1 _ Z B) λus s2 ⟨xs,H2,N,r2,q⟩=>⟨x::xs,H2,N,.cons j r2,q⟩
def tTup(t:TA):TE:=λG H Q=>t G H λxs H1=>xs.length<=sizeLine/\∀p,H1 p=none->Q (.ref p) (upd H1 p (.tup xs))
def tLst(t:TA):TE:=λG H Q=>t G H λxs H1=>xs.length<=sizeLine/\∀p,H1 p=none->Q (.ref p) (upd H1 p (.lst xs))
def P2 {x1} (h:PA X es t):PE X (.Tuple es x1 pos) (tTup t):=by
 intro pn s G H Q I B;refine wpAny_Tuple_spliced (thn (h pos pn s G H _ I B) λus s1 ⟨xs,H1,j,r,z,q⟩=>⟨by rw[<- r.length];exact z,?_⟩)
 have M:H1 s1.heap.objs.size=none:=j.hok.fresh (zaj _);refine⟨.ref s1.heap.objs.size,upd H1 s1.heap.objs.size (.tup xs),j.laid (t':=s1.toks) (λb u e=>zac _ e) (zaj _) ?_,rfl,q _ M⟩;exact⟨z,us,r,⟨_,zad _ rfl,rfl,_,rfl⟩,_,zad _ rfl,rfl⟩
def Jd(h:PA X es t):PE X (.List es pos) (tLst t):=by
 intro pn s G H Q I B;refine wpAny_List_spliced (thn (h pos pn s G H _ I B) λus s1 ⟨xs,H1,j,r,z,q⟩=>⟨by rw[<- r.length];exact z,?_⟩)
 have M:H1 s1.heap.objs.size=none:=j.hok.fresh (zaj _);refine⟨.ref s1.heap.objs.size,upd H1 s1.heap.objs.size (.lst xs),j.laid (t':=s1.toks) (λb u e=>zac _ e) (zaj _) ?_,rfl,q _ M⟩;exact⟨z,us,0,r,zad _ rfl⟩
end
abbrev Sp:=List V->Hp->VK->XK->Prop
abbrev CXT:=List Env->Hp->Shared->XK->Value->Shared->Prop
structure Env0(P:Program)(w:World)(K:W.Frag)(mg:Str->Option Value)(base:Heap)(A:Around)(outer:List Env)(s:Shared)(H:Hp):Prop where
 frames:A.frames=some outer
 mod:Mod K mg base
 bs:∀b o,base.get? b=some o->s.heap.get? b=some o/\H b=none
 bsz:base.objs.size<=s.heap.objs.size
 funs:s.heap.FunFrames base outer
 frf:∀b∈frs outer,H b=none
 hok:HOk P w H s.heap
 bare:AllBare s.gens
def CE(outer:List Env)(P:Program)(w:World)(H:Hp)(s:Shared)(Q:VK)(u:Value)(s':Shared):Prop :=
 ∃v H',s'.os=s.os/\AllBare s'.gens/\Un (frs outer) [] H H' s.heap s'.heap/\HOk P w H' s'.heap/\RelV v u/\Q v H'
def CR(CX:CXT)(outer:List Env)(P:Program)(w:World)(H:Hp)(s:Shared)(Q:VK)(E:XK)(r:Result)(s':Shared):Prop :=
 match r with
 |.ok (.ret u)=>CE outer P w H s Q u s'
 |.ok _=>False
 |.error e=>CX outer H s E e s'
structure FnOk(P:Program)(w:World)(K:W.Frag)(mg:Str->Option Value)(base:Heap)(CX:CXT)(k:Nat)(f:Addr)(fd:FuncData)(ps:List Str)(sp:Sp):Prop where
 len:∀vs H Q E,sp vs H Q E->vs.length=ps.length
 run:∀(A:Around)(outer:List Env)(s:Shared)(H:Hp)(args:Args)(us:List Value)(vs:List V)(Q:VK)(E:XK),Room k A->Env0 P w K mg base A outer s H->BindsTo s fd args (ps.zip us)->Vals vs us->sp vs H Q E ->
  codeAny (model P w) A (.call (.ref f) args) (CR CX outer P w H s Q E) s
def Env0.make{P:Program}{w:World}{K:W.Frag}{mg:Str->Option Value}{base:Heap}{A:Around}{outer:List Env}{s:Shared}{H:Hp}(e:Env0 P w K mg base A outer s H)(C:Addr)(us:List Value)(j:List (Str×Value)) :
  Env0 P w K mg base (A.under (.builtin "type.__call__" ⟨.ref C::us,j⟩)) outer s H:=⟨by first|exact e.frames|(simpa [Around.under,Code.envs,Code.isFrame,pushEnvs] using e.frames),e.mod,e.bs,e.bsz,e.funs,e.frf,e.hok,e.bare⟩
variable{s':Shared}
def Inv.env0(I:Inv X pn G H s):Env0 X.prog X.w X.K X.mg X.base X.A X.stack s H :=
 ⟨I.ok.frames,I.ok.mod,I.bs,zak I.ok.bsz I.sz,I.stack,I.stkFree,I.hok,I.bare⟩
def Inv.after{Q:VK}(I:Inv X pn G H s)(h:CE X.stack X.prog X.w H s Q u s'):EP X pn G Q u s':=by
 obtain⟨v,H',os,j,un,M,r,q⟩:=h;obtain⟨N,g,d,t,B⟩:=s';obtain rfl:B=s.os:=os;exact⟨v,H',I.call (h':=N) (g':=g) (d':=d) (t':=t) (ch:=[]) un M j (λb z=>absurd z (by simp)),r,q⟩
def Dm(sp:Sp)(dvs:List V)(E:XK)(t:TA):TE:=λG H Q=>t G H λvs H1=>sp (vs++dvs) H1 Q E
def Nv(C:Addr)(m:Str)(sp:Sp)(dvs:List V)(E:XK)(ta:TE)(t:TA):TE:=λG H Q=>ta G H λx H1=>∃a dx fs,x=.ref a/\H1 a=some (.ins C dx fs)/\fs.lookup m=none /\
 t G H1 λvs H2=>sp (x::(vs++dvs)) H2 Q E
def Z1(C:Addr)(sp:Sp)(dvs:List V)(E:XK)(t:TA):TE:=λG H Q=>t G H λvs H1=>∀x dx,H1 x=none->H1 dx=none->dx≠x ->
 sp (.ref x::(vs++dvs)) (upd (upd H1 dx (.own x)) x (.ins C dx [])) (λv H2=>v=.non/\Q (.ref x) H2) E
def u0(K:W.Frag)(fd:FuncData)(ps:List Str)(ds:List Value):Prop :=
 ∀(s:Shared)(us:List Value),K.In s.heap->(us++ds).length=ps.length->BindsTo s fd ⟨us,[]⟩ (ps.zip (us++ds))
def u0.all{K:W.Frag}{fd:FuncData}{ps:List Str}(h:∀ us:List Value,us.length=ps.length->bindArgs fd ⟨us,[]⟩=pure (ps.zip us)):u0 K fd ps []:=λs us _ hl=>by
 rw[List.append_nil]at hl ⊢;exact .of_eq (h us hl)
def dg(CX:CXT)(X:Cx)(E:XK):Prop:=∀(pn:List (Addr×Obj))(G:St)(H:Hp)(s:Shared)(e:Value)(s':Shared),Inv X pn G H s->CX X.stack H s E e s'->X.xe e s'
section
variable{CX:CXT}{k:Nat}{f:Addr}{fd:FuncData}{ps:List Str}{sp:Sp}{dvs:List V}{ds:List Value}{E:XK}{x m:Str}{p apos:Pos}{e o:Expr}{es:List Expr}{t:TA}
def Ua{Q:VK}(F:FnOk X.prog X.w X.K X.mg X.base CX k f fd ps sp)(hr:Room k X.A)(M:u0 X.K fd ps ds)(B:Vals dvs ds)(q:dg CX X E)(I:Inv X pn G H s)(r:Vals vs us)(h:sp (vs++dvs) H Q E):wpAny (model X.prog X.w) X.A (call (.ref f) us) (EP X pn G Q) X.xe s:=by
 have r2:Vals (vs++dvs) (us++ds):=r.append B;have hl:(us++ds).length=ps.length:=by rw[<- r2.length];exact F.len _ _ _ _ h
 refine wpAny_call (codeAny_mono (F.run X.A X.stack s H ⟨us,[]⟩ (us++ds) (vs++dvs) Q E hr I.env0 (M s us I.kIn hl) r2 h) λr s' j=>?_);cases r with
 |error e=>exact q pn G H s e s' I j
 |ok fl =>
  cases fl with
  |ret u=>exact I.after j
  |next=>exact False.elim j
  |brk=>exact False.elim j
  |cont=>exact False.elim j
def Fi(F:FnOk X.prog X.w X.K X.mg X.base CX k f fd ps sp)(hr:Room k X.A)(hg:Gl X x)(Z:X.mg x=some (.ref f))(hk:W.keepIn X.K (.ref f)=true)(hb:u0 X.K fd ps ds)(hd:Vals dvs ds)(N:dg CX X E)(ha:PA X (e::es) t)(B:D_ x:=by decide)(he:S_ X e es:=by rfl)(j:B_ X es pos:=by rfl) :
  PE X (.Call (.Name x p) (e::es) [] pos) (Dm sp dvs E t):=by
 intro pn s G H Q I h;refine wpAny_Call_Name_kw (Zh I hg Z ?_ B);refine W.callWith_K (h₀:=X.base) I.ok.mod.kin hk (thn (ha pos pn s G H _ I h) λus s1 ⟨vs,H1,M,r,q⟩=>⟨M.kIn,?_⟩) he j;exact Ua F hr hb hd N M r q
def P3{pl:Sem Bool}(he:PE X o ta)(c:Cls X.K C)(N:Meth X.K C m f)(F:FnOk X.prog X.w X.K X.mg X.base CX k f fd ps sp)(hr:Room k X.A)(hb:u0 X.K fd ps ds)(hd:Vals dvs ds)(hx:dg CX X E)(ha:PA X (e::es) t)(j:S_ X e es:=by rfl)(B:B_ X es pos:=by rfl)(ht:eval (.Call (.Attribute o m apos) (e::es) [] pos) X.env=(do
   let M <- eval o X.env
   standAt apos.atName
   let (f,first) <- holding [M] (getMethod M m pl)
   callWith pos f first (backTo pos (starEach (e::es) X.env)) (backToKw pos (keywordEach [] X.env))):=by rfl) :
  PE X (.Call (.Attribute o m apos) (e::es) [] pos) (Nv C m sp dvs E ta t):=by
 intro pn s G H Q I h;refine W.methodCall_KW (pl:=pl) (thn (he pn s G H _ I h) λu s1 Zh=>?_) ht;obtain⟨x,H1,I1,rx,a,dx,fs,ex,ea,l,q⟩:=Zh;subst ex;obtain rfl:u=Value.ref a:=rx;refine bj I1 ea c N l ?_;refine W.callWith_K (first:=[.ref a]) (h₀:=X.base) I.ok.mod.kin N.kp (thn (ha pos pn s1 G H1 _ I1 q) λus s2 ⟨vs,H2,Z,r,q2⟩=>⟨Z.kIn,?_⟩) j B
 exact Ua (us:=.ref a::us) (vs:=.ref a::vs) F hr hb hd hx Z (.cons rfl r) q2
def Uw{pl:Sem Bool}(he:PE X o ta)(c:Cls X.K C)(M:Meth X.K C m f)(F:FnOk X.prog X.w X.K X.mg X.base CX k f fd ps sp)(hr:Room k X.A)(hb:u0 X.K fd ps ds)(hd:Vals dvs ds)(Z:dg CX X E)(ht:eval (.Call (.Attribute o m apos) [] [] pos) X.env=(do
   let B <- eval o X.env
   standAt apos.atName
   let (f,first) <- holding [B] (getMethod B m pl)
   callWith pos f first (backTo pos (starEach [] X.env)) (backToKw pos (keywordEach [] X.env))):=by rfl) :
  PE X (.Call (.Attribute o m apos) [] [] pos) (Nv C m sp dvs E ta tNil):=by
 intro pn s G H Q I h;refine W.methodCall_KW (pl:=pl) (thn (he pn s G H _ I h) λu s1 Zh=>?_) ht;obtain⟨x,H1,j,N,a,dx,fs,ex,ea,l,q⟩:=Zh;subst ex;obtain rfl:u=Value.ref a:=N;refine bj j ea c M l ?_;exact W.callWith_K0 (first:=[.ref a]) j.kIn M.kp (Ua (us:=[.ref a]) (vs:=[.ref a]) F hr hb hd Z j (.cons rfl .nil) q)
structure Mk(K:W.Frag)(C f:Addr):Prop where
 makes:W.makesIn K C=true
 init:W.findIn K (.ref C) "__init__" = some (some (.ref f))
 fn:W.isFn K (.ref f)=true
 kp:W.keepIn K (.ref C)=true
def M5{Q:VK}(M:Mk X.K C f)(F:FnOk X.prog X.w X.K X.mg X.base CX k f fd ps sp)(hr:Room (k+1) X.A)(hb:u0 X.K fd ps ds)(hd:Vals dvs ds)(hx:dg CX X E)(I:Inv X pn G H s)(r:Vals vs us)(h:∀ x dx,H x=none->H dx=none->dx≠x->sp (.ref x::(vs++dvs)) (upd (upd H dx (.own x)) x (.ins C dx [])) (λv H2=>v=.non/\Q (.ref x) H2) E) :
  wpAny (model X.prog X.w) X.A (call (.ref C) us) (EP X pn G Q) X.xe s:=by
 have B:=h (s.heap.objs.size+1) s.heap.objs.size (I.hok.fresh (Nat.le_succ _)) (I.hok.fresh (zaj _)) (Nat.ne_of_lt (Nat.lt_succ_self _));have q:=Inv.made (C:=C) I;have r2:Vals (V.ref (s.heap.objs.size+1)::(vs++dvs)) (Value.ref (s.heap.objs.size+1)::(us++ds)):=.cons rfl (r.append hd);have hl:(Value.ref (s.heap.objs.size+1)::us++ds).length=ps.length:=by
  have e:=r2.length;rw[F.len _ _ _ _ B]at e;exact e.symm
 refine wpAny_call (Mt (f:=f) I.kIn M.makes M.init (beq_iff_eq.mp M.fn) (codeAny_mono (F.run _ X.stack _ _ ⟨Value.ref (s.heap.objs.size+1)::us,[]⟩ (Value.ref (s.heap.objs.size+1)::(us++ds)) _ _ E (hr.make C us [])
  (q.env0.make C us []) (hb _ (Value.ref (s.heap.objs.size+1)::us) q.kIn hl) r2 B) λr s' j=>?_))
 cases r with
 |error e=>exact hx pn G _ _ e s' q j
 |ok fl =>
  cases fl with
  |ret u =>
   obtain⟨v,H',I3,N,ev,Z⟩:=q.after j;subst ev;exact⟨N,⟨V.ref (s.heap.objs.size+1),H',I3,rfl,Z⟩⟩
  |next=>exact False.elim j
  |brk=>exact False.elim j
  |cont=>exact False.elim j
def Fc(M:Mk X.K C f)(F:FnOk X.prog X.w X.K X.mg X.base CX k f fd ps sp)(hr:Room (k+1) X.A)(hg:Gl X x)(hm:X.mg x=some (.ref C))(hb:u0 X.K fd ps ds)(hd:Vals dvs ds)(Z:dg CX X E)(ha:PA X (e::es) t)(B:D_ x:=by decide)(he:S_ X e es:=by rfl)(j:B_ X es pos:=by rfl) :
  PE X (.Call (.Name x p) (e::es) [] pos) (Z1 C sp dvs E t):=by
 intro pn s G H Q I h;refine wpAny_Call_Name_kw (Zh I hg hm ?_ B);refine W.callWith_K (h₀:=X.base) I.ok.mod.kin M.kp (thn (ha pos pn s G H _ I h) λus s1 ⟨vs,H1,N,r,q⟩=>⟨N.kIn,?_⟩) he j;exact M5 M F hr hb hd Z N r q
end
def PK(X:Cx)(j:List Keyword)(t:TA):Prop :=
 ∀(pos:Pos)(pn:List (Addr×Obj))(s:Shared)(G:St)(H:Hp)(Q:List V->Hp->Prop),Inv X pn G H s->t G H Q->wpAny (model X.prog X.w) X.A (evalAll ((backToKw pos (keywordEach j X.env)).map (·.2))) (AP X pn G Q) X.xe s
structure zj(N P:List Str)(sc:Scope):Prop where
 kind:sc.kind=.function
 co:sc.isCoroutine=false
 gen:sc.isGenerator=false
 nd:N.Nodup
 pre:N.take P.length=P
 par:∀x∈P,sc.names.lookup x=some .local\/sc.names.lookup x=some .cell
 nofree:∀y∈sc.names,y.2≠.free
theorem W8{j:Str->Option NameKind}{x:Str}:∀{binds:List (Str×Value)}{m:Str->Option Value},(∀v,(x,v)∉binds)->bindL j binds m x=m x
 |[],_,_=>rfl
 |(n,v)::r,m,h=>by
  unfold bindL;rw[W8 λw q=>h w (zal _ q)];split
  ·have:x≠n:=by rintro rfl;exact h v zao
   simp[this]
  rfl
theorem Wa{j:Str->Option NameKind}{x:Str}:∀{binds:List (Str×Value)}{m:Str->Option Value},(∀v,(x,v)∉binds)->bindC j binds m x=m x
 |[],_,_=>rfl
 |(n,v)::r,m,h=>by
  unfold bindC;rw[Wa λw q=>h w (zal _ q)];split
  ·rfl
  have:x≠n:=by rintro rfl;exact h v zao
  simp[this]
theorem W9{j:Str->Option NameKind}{x:Str}{v:Value}:∀{P:List Str}{vs:List Value}{i:Nat}{m:Str->Option Value},P.Nodup->P[i]?=some x->vs[i]?=some v->j x=some .local ->
  bindL j (P.zip vs) m x=some v
 |[],_,_,_,_,h,_,_=>by simp at h
 |_::_,[],_,_,_,_,h,_=>by simp at h
 |p::P,w::vs,0,m,nd,h1,h2,hk=>by
  simp at h1 h2;subst h1;subst h2;show bindL j ((p,w)::P.zip vs) m p=_;unfold bindL;rw[W8 λv q=>(List.nodup_cons.mp nd).1 (List.of_mem_zip q).1,if_pos hk];simp
 |p::P,w::vs,i+1,m,nd,h1,h2,hk=>by
  show bindL j ((p,w)::P.zip vs) m x=_;unfold bindL;exact W9 (i:=i) (List.nodup_cons.mp nd).2 (by simpa using h1) (by simpa using h2) hk
theorem Wb{j:Str->Option NameKind}{x:Str}{v:Value}:∀{P:List Str}{vs:List Value}{i:Nat}{m:Str->Option Value},P.Nodup->P[i]?=some x->vs[i]?=some v->j x≠some .local ->
  bindC j (P.zip vs) m x=some v
 |[],_,_,_,_,h,_,_=>by simp at h
 |_::_,[],_,_,_,_,h,_=>by simp at h
 |p::P,w::vs,0,m,nd,h1,h2,hk=>by
  simp at h1 h2;subst h1;subst h2;show bindC j ((p,w)::P.zip vs) m p=_;unfold bindC;rw[Wa λv q=>(List.nodup_cons.mp nd).1 (List.of_mem_zip q).1,if_neg hk];simp
 |p::P,w::vs,i+1,m,nd,h1,h2,hk=>by
  show bindC j ((p,w)::P.zip vs) m x=_;unfold bindC;exact Wb (i:=i) (List.nodup_cons.mp nd).2 (by simpa using h1) (by simpa using h2) hk
def start(N:List Str)(vs:List V):St:=vs.map some++List.replicate (N.length-vs.length) none
def cxOf(CX:CXT)(P:Program)(w:World)(K:W.Frag)(mg:Str->Option Value)(base:Heap)(N:List Str)(j:Str)(scope:Scope)(f:Addr)(B:Value)(A:Around)(outer:List Env)(s:Shared)(H:Hp)(E:XK):Cx where
 prog:=P
 w:=w
 K:=K
 mg:=mg
 base:=base
 A:=A.deeper (envOfC j scope s.heap.objs.size f B)
 N:=N
 s₀:=s
 H_:=H
 env:=envOfC j scope s.heap.objs.size f B
 outer:=outer
 stack:=envOfC j scope s.heap.objs.size f B::outer
 ex:=[]
 calm:=true
 fn:=λ_=>true
 pn:=[]
 xe:=λe s'=>wpAny (model P w) (A.deeper (envOfC j scope s.heap.objs.size f B)) (leaving (envOfC j scope s.heap.objs.size f B) e) (λ_ q=>CX outer H s E e q) (λI q=>CX outer H s E I q) s'
def Ts{j:Scope}{n:Nat}{x:Str}(h:j.names.lookup x=some .cell):∃c,(cellsFrom n j.names []).lookup x=some c:=by
 have q:=W.cellsFrom_some j.names n [] (.inl h);exact Option.isSome_iff_exists.mp q
def Py{CX:CXT}{P:Program}{w:World}{K:W.Frag}{mg:Str->Option Value}{base:Heap}{N ps:List Str}{j:Str}{scope:Scope}{f:Addr}{cd:Value}{A:Around}{outer:List Env}{s s1:Shared}{H:Hp}{E:XK}{us:List Value}{vs:List V}(S:zj N ps scope)(hd:A.handled=none)(B:Env0 P w K mg base A outer s H)(hl:vs.length=ps.length)(r:Vals vs us)(x:InCallC s s.heap.objs.size (bindL (envOfC j scope s.heap.objs.size f cd).kindOf (ps.zip us) λ_=>none) (cellsFrom (s.heap.objs.size+1) scope.names []) (bindC (envOfC j scope s.heap.objs.size f cd).kindOf (ps.zip us) λ_=>none) s1) :
  Inv (cxOf CX P w K mg base N j scope f cd A outer s H E) [] (start N vs) H s1:=by
 have a0:ps.length<=N.length:=by have:=congrArg List.length S.pre;rw[List.length_take]at this;omega
 obtain⟨h1,tk,rfl,hk⟩:=x.done;have I:∀b:Addr,b∉(cxOf CX P w K mg base N j scope f cd A outer s H E).ex:=λb z=>absurd (show b∈([]:List Addr) from z) (by simp)
 refine⟨⟨B.mod,S.kind,rfl,rfl,zaj _,λy z c h1 h2=>?_,λy M=>?_,λy c _ h=>?_,λ_=>hd,Around.frames_deeper B.frames,.inr ⟨rfl,rfl⟩,λb z=>absurd z (I b),B.bs,B.bsz,λb _ _=>I b,λb z=>absurd z (I b),B.funs,B.frf⟩,
  rfl,B.bare,Un.kept hk,⟨_,x.toInCall.ns,λi y v h1 h2 h3=>?_⟩,λy c h=>⟨_,x.cell y c h⟩,B.hok.fresh (zaj _),λy c h=>?_,λp hp=>absurd (show p∈([]:List (Addr×Obj)) from hp) (by simp),B.hok.kept hk,?_⟩
 ·exact name_of_addr x.apart (PySem.mem_of_lookup h1) (PySem.mem_of_lookup h2)
 ·have M:scope.names.lookup y=some .cell\/scope.names.lookup y=some .free:=M;rcases M with M|M
  ·exact Ts M
  exact absurd rfl (S.nofree _ (PySem.mem_of_lookup M))
 ·exact Nat.le_of_lt (x.above y c (PySem.mem_of_lookup h))
 ·have hi:i<vs.length:=by
   unfold start at h2;by_cases hi:i<vs.length
   ·exact hi
   rw[List.getElem?_append_right (by simpa using hi)]at h2
   rw[List.getElem?_replicate]at h2;split at h2 <;> cases h2
  have ha:vs[i]?=some v:=by
   unfold start at h2;rw[List.getElem?_append_left (by simpa using hi),zai]at h2
   cases e:vs[i]? with
   |none=>rw[e]at h2;cases h2
   |some a=>rw[e]at h2;cases h2;rfl
  obtain⟨u,hu,rv⟩:=r.get ha;have hp:ps[i]?=some y:=by
   rw[<- S.pre,List.getElem?_take_of_lt (by omega)];exact h1
  have Z:ps.Nodup:=by rw[<- S.pre];exact S.nd.sublist (List.take_sublist _ _)
  refine⟨u,rv,?_⟩;rcases S.par y (zan hp) with k|k
  ·exact .inl ⟨k,W9 Z hp hu k⟩
  obtain⟨c,e⟩:=Ts (n:=s.heap.objs.size+1) k;refine .inr ⟨.inl k,c,e,?_⟩;have q:=x.cell y c e;rw[Wb Z hp hu (by show scope.names.lookup y≠_;rw[k];decide)]at q
  exact q
 ·exact B.hok.fresh (Nat.le_of_lt (x.above y c (PySem.mem_of_lookup h)))
 unfold start;show _=N.length;rw[zLa,zLm,List.length_replicate];omega
def Al{K:W.Frag}{mg:Str->Option Value}{k:Nat}{f:Addr}{dV kV a1 pm qZ ct oc:Value}{an od:Option Addr}{a2:Array (Option Value)}{sp:Sp}(lk:K.lookup f=some ⟨oc,od,.func (W.fnOf name qual params body scope dV kV a1 pm an qZ ct),a2⟩)(a4:W.codeIn K qZ qual=true)(S:zj N ps scope)(M:∀ vs H Q E,sp vs H Q E->vs.length=ps.length)(qY:∀ (A:Around) (outer:List Env) (s:Shared) (H:Hp) (vs:List V) (Q:VK) (E:XK),Room k (A.deeper (envOfC qual scope s.heap.objs.size f qZ))->sp vs H Q E ->
   ∃ t,PSs (cxOf CX P w K mg base N qual scope f qZ A outer s H E) body t/\t {nx:=λ_ H'=>Q .non H',rt:=Q} (start N vs) H) :
  FnOk P w K mg base CX (k+1) f (W.fnOf name qual params body scope dV kV a1 pm an qZ ct) ps sp:=by
 refine⟨M,λA outer s H a5 us vs Q E hr e0 hb r Z=>?_⟩;have hl:=M _ _ _ _ Z;have KX:K.In s.heap:=e0.mod.kin.keeps λb o e=>(e0.bs b o e).1;have a3:s.heap.NoLimit:=e0.mod.nolimit.keeps λb o e=>(e0.bs b o e).1;have B:∀y∈ps.zip us,scope.names.lookup y.1=some .local\/(scope.names.lookup y.1=some .cell/\((cellsFrom (s.heap.objs.size+1) scope.names []).lookup y.1).isSome=true):=λ⟨n,v⟩ hy=>by
  rcases S.par n (List.of_mem_zip hy).1 with q|q
  ·exact .inl q
  exact .inr ⟨q,W.cellsFrom_some _ _ _ (.inl q)⟩
 refine codeAny_call_function hr.depth (KX _ _ lk) rfl S.co S.gen rfl (W.codeRec_of KX a4) (hb _ _ _ _ ?_);refine wpAny_newFunctionEnv_cells S.kind B λenv he s1 x=>?_;subst he;refine⟨a3.keeps x.toInCall.keep,codeAny_func ?_⟩;obtain⟨t,ht,hq⟩:=qY A outer s H vs Q E (hr.deeper _) Z;have I:Inv (cxOf CX P w K mg base N qual scope f qZ A outer s H E) [] (start N vs) H s1:=Py S hr.hd e0 hl r x;refine wpAny_mono (ht [] s1 (start N vs) H _ I hq) (λfl s' hs=>?_) λe s' hs=>hs;have a0:∀{j:St}{H':Hp}{v:V}{u:Value},Inv (cxOf CX P w K mg base N qual scope f qZ A outer s H E) [] j H' s'->RelV v u->Q v H'->CE outer P w H s Q u s' :=
  λ{j H' v u} J rv q=>⟨v,H',J.os,J.bare,J.base,J.hok,rv,q⟩
 cases fl with
 |ret u =>
  obtain⟨v,j,H',J,rv,q⟩:=hs;exact a0 J rv q
 |next =>
  obtain⟨j,H',J,q⟩:=hs;exact a0 (v:=V.non) (u:=Value.none) J rfl q
 |brk =>
  obtain⟨_,_,_,q⟩:=hs;exact False.elim q
 |cont =>
  obtain⟨_,_,_,q⟩:=hs;exact False.elim q
section
variable{x:Str}{p:Pos}{e:Expr}{es:List Expr}{t:TA}{id T:String}{r:List V->Hp->VK->Prop}
def tCB(r:List V->Hp->VK->Prop)(t:TA):TE:=λG H Q=>t G H λvs H1=>r vs H1 Q
def Zb(hc:vz X (.builtin id) r)(hg:Gl X x)(hm:X.mg x=none)(N:bootBuiltins x=some (.builtin id))(ha:PA X (e::es) t)(Z:x≠"__name__":=by decide)(q:D_ x:=by decide)(he:S_ X e es:=by rfl)(j:B_ X es pos:=by rfl):PE X (.Call (.Name x p) (e::es) [] pos) (tCB r t):=by
 intro pn s G H Q I h;refine wpAny_Call_Name_kw (su I hg hm N ?_ Z q);exact PyProof.Rows.callWith_builtin1 (thn (ha pos pn s G H _ I h) λus s1 ⟨vs,H1,I1,B,M⟩=>hc pn s1 G H1 vs us Q I1 B M) he j
def ga(hc:vz X (.type T) r)(hg:Gl X x)(hm:X.mg x=none)(N:bootBuiltins x=some (.type T))(ha:PA X (e::es) t)(Z:x≠"__name__":=by decide)(q:D_ x:=by decide)(he:S_ X e es:=by rfl)(j:B_ X es pos:=by rfl):PE X (.Call (.Name x p) (e::es) [] pos) (tCB r t):=by
 intro pn s G H Q I h;refine wpAny_Call_Name_kw (su I hg hm N ?_ Z q);exact PyProof.Rows.callWith_type1 (thn (ha pos pn s G H _ I h) λus s1 ⟨vs,H1,I1,B,M⟩=>hc pn s1 G H1 vs us Q I1 B M) he j
end
section
open PySem.SeqAt
open PySem.AutoSeq1 (wpAny_loadPart')
open PySem.MeetsSeq PySem.MeetsSeq2 PySem.MeetsSeq3
end
def cat_tup{t b:Addr}(ht:IsTup s.heap t vs.toArray)(hb:IsTup s.heap b ws.toArray)(hv:vs≠[])(h1:ws=[]->Q (.ref t) s)(h2:ws≠[]->Q (.ref s.heap.objs.size) {s with heap:=s.heap.push {cls:=.type "tuple",data:=.seq (vs++ws).toArray}})(hsz:vs.length+ws.length<=sizeLine):wpAny (model prog w) A (binaryOp .Add (.ref t) (.ref b)) Q E s:=by
 obtain⟨⟨cls,dd,data,Z⟩,ho,hc,n,hd⟩:=id ht;obtain⟨⟨a0,M,N,q⟩,j,I,n2,B⟩:=id hb;simp only at hc hd I B;subst hc hd I B;have e:vs.toArray++ws.toArray=(vs++ws).toArray:=by simp
 by_cases hw:ws=[]
 ·exact concat_meets ⟨_,ho,rfl⟩ ⟨_,j,rfl⟩ noFill_tuple_add seq_tuple_add PySem.F.slot_tuple_add PySem.F.entry_tuple_add (PySem.F.args_tuple_add_2 _ _)
   (tuple_addW1 t b vs.toArray ws.toArray n n2 dd M Z q (by simpa using hv) (by simp[hw])) ⟨ho,j,h1 hw⟩
 refine concat_meets ⟨_,ho,rfl⟩ ⟨_,j,rfl⟩ noFill_tuple_add seq_tuple_add PySem.F.slot_tuple_add PySem.F.entry_tuple_add (PySem.F.args_tuple_add_2 _ _)
  (tuple_addW2 t b vs.toArray ws.toArray n n2 dd M Z q (by simpa using hv) (by simpa using hw) (by rw[zap,zap];exact hsz)) ⟨ho,j,?_⟩
 rw[e];exact h2 hw
def sIx(n d:Nat):Option Int->Nat
 |none=>d
 |some v=>if v<0 then(v+(n:Int)).toNat else min v.toNat n
def Dr(n d:Nat)(j:d<=n)(o:Option Int):sIx n d o<=n:=by
 cases o with
 |none=>exact j
 |some v =>
  show(if v<0 then(v+(n:Int)).toNat else min v.toNat n)<=n
  by_cases hv:v<0
  ·rw[if_pos hv];omega
  rw[if_neg hv];exact Nat.min_le_right _ _
def N0(v:Int)(n d:Nat):(if v<0 then max (v+(n:Int)) 0 else min v (n:Int))=((sIx n d (some v):Nat):Int):=by
 show(if v<0 then max (v+(n:Int)) 0 else min v (n:Int))=(((if v<0 then(v+(n:Int)).toNat else min v.toNat n):Nat):Int)
 by_cases hv:v<0
 ·simp only[if_pos hv];omega
 simp only[if_neg hv];omega
def Rp(lo hi:Option Int)(n:Nat):Builtin.Slice.sliceAdjust lo hi 1 (n:Int)=(((sIx n 0 lo:Nat):Int),((sIx n n hi:Nat):Int)):=by
 have h1:¬ ((1:Int)<0):=by omega
 unfold Builtin.Slice.sliceAdjust;simp only[h1,if_false];refine Prod.ext ?_ ?_
 ·cases lo with
  |none=>rfl
  |some v=>exact N0 v n 0
 cases hi with
 |none=>rfl
 |some v=>exact N0 v n n
def Sk(i j:Nat):Builtin.Slice.slicePlaces (i:Int) (j:Int) 1=j-i:=by
 unfold Builtin.Slice.slicePlaces;have h1:(1:Int) > 0:=by omega
 simp only[h1,if_true,Int.ediv_one];split <;> omega
def cx{v:Value}{o:Option Int}{Q:Option Int->Shared->Prop}(p:IsPart v o)(h:Q o s):wpAny (model prog w) A (Builtin.Slice.slicePartIndex v) Q E s:=by
 cases p with
 |none=>exact slicePart_none h
 |int i t=>exact slicePart_int h
def j6{M:Addr}{I B:Value}{lo hi:Option Int}{n:Nat}{Q:Int×Int×Nat->Shared->Prop}(hs:s.heap.IsSliceOf M I B .none)(pl:IsPart I lo)(N:IsPart B hi)(h:Q (((sIx n 0 lo:Nat):Int),1,sIx n n hi-sIx n 0 lo) s):wpAny (model prog w) A (Builtin.Slice.sliceApplied (.ref M) (pure (n:Int))) Q E s:=by
 obtain⟨os,j,Z,q⟩:=id hs;unfold Builtin.Slice.sliceApplied Builtin.Slice.sliceFields;refine zaa (zaa (wpAny_field j q (x:=I) rfl (zaa (wpAny_field j q (x:=B) rfl (zaa (wpAny_field j q (x:=.none) rfl (zab ?_)))))));refine zaa (slicePart_none ?_);show wpAny _ _ (if ((1:Int)==0)=true then _ else _) _ _ s
 rw[if_neg (by decide)]
 refine zaa (cx pl (zaa (cx N (zaa (zab ?_)))));show wpAny _ _ (match Builtin.Slice.sliceAdjust lo hi 1 (n:Int) with|(lo,hi)=>pure (lo,(1:Int),Builtin.Slice.slicePlaces lo hi 1)) _ _ s
 rw[Rp lo hi n];show wpAny _ _ (pure (((sIx n 0 lo:Nat):Int),(1:Int),Builtin.Slice.slicePlaces ((sIx n 0 lo:Nat):Int) ((sIx n n hi:Nat):Int) 1)) _ _ s;rw[Sk];exact zab h
def Mm(xs:Array Value)(i k:Nat):((List.range k).filterMap λ(m:Nat)=>xs[((i:Int)+(m:Int)*1).toNat]?).toArray=((xs.toList.drop i).take k).toArray:=by
 have e:(λ(m:Nat)=>xs[((i:Int)+(m:Int)*1).toNat]?)=λm=>xs[i+m]?:=by
  funext m
  have:((i:Int)+(m:Int)*1).toNat=i+m:=by omega
  rw[this]
 rw[e];have:=pick_run xs i k;rw[List.filterMap_map]at this;have e2:((λx=>xs[x]?) ∘ λx=>i+x)=λm=>xs[i+m]?:=rfl;rw[e2]at this;rw[this]
def getItem_tuple_cut{t I:Addr}{items:Array Value}{vl vu:Value}{lo hi:Option Int}{Q:Value->Shared->Prop}(B:IsTup s.heap t items)(hs:s.heap.IsSliceOf I vl vu .none)(pl:IsPart vl lo)(pu:IsPart vu hi)(hw:¬ (sIx items.size 0 lo=0/\sIx items.size items.size hi=items.size))(h:Q (.ref s.heap.objs.size) {s with heap:=s.heap.push {cls:=.type "tuple",data:=.seq ((items.toList.drop (sIx items.size 0 lo)).take (sIx items.size items.size hi-sIx items.size 0 lo)).toArray}})(hsz:items.size<=sizeLine):wpAny (model prog w) A (getItem (.ref t) (.ref I)) Q E s:=by
 have j:sizeOk (.seq ((items.toList.drop (sIx items.size 0 lo)).take (sIx items.size items.size hi-sIx items.size 0 lo)).toArray):=by
  show((items.toList.drop (sIx items.size 0 lo)).take (sIx items.size items.size hi-sIx items.size 0 lo)).toArray.size<=sizeLine;rw[zap,List.length_take,List.length_drop,Array.length_toList];omega
 have hj:sIx items.size items.size hi<=items.size:=Dr _ _ (zaj _) hi;obtain⟨os,M,Z,a1⟩:=id hs;have a0:s.TypeIs (.ref I) "slice":=⟨os,M,Z⟩;unfold getItem
 try with_reducible refine wpAny_holding ?_
 first|refine zaa (zab ?_)|skip
 refine zaa (wpAny_sequenceKey B.typeIs (by decide) ?_)
 refine zaa (wpAny_callSpecial?_slot (name:=Str.ofString "__getitem__") B.typeIs PyProof.Rows.slot_tuple_getitem
  (wpAny_call_entry PyProof.Rows.slot_tuple_getitem B.typeIs entry_tuple_getitem ?_ (args_tuple_getitem _ _)))
 show wpAny _ _ (Builtin.Tuple.tupleItemsOf (.ref t) >>= _) _ _ s;refine zaa (tupleItemsOf_ B ?_);refine zaa (wpAny_typeOf a0 ?_);rw[if_pos (by decide)]
 refine zaa (j6 hs pl pu ?_);have N:¬ ((((sIx items.size 0 lo:Nat):Int)==0&&(1:Int)==1&&(sIx items.size items.size hi-sIx items.size 0 lo)==items.size)=true):=by
  intro q;rw[Bool.and_eq_true,Bool.and_eq_true]at q;have q1:((sIx items.size 0 lo:Nat):Int)=0:=eq_of_beq q.1.1;have q2:sIx items.size items.size hi-sIx items.size 0 lo=items.size:=eq_of_beq q.2;exact hw ⟨by omega,by omega⟩
 show wpAny _ _ (if (((sIx items.size 0 lo:Nat):Int)==0&&(1:Int)==1&&(sIx items.size items.size hi-sIx items.size 0 lo)==items.size)=true then _ else _) _ _ s
 rw[if_neg N,Mm]
 first
  |exact zaa (m:=Builtin.Tuple.tupleExact _) (wpAny_newObj_type (zab ⟨_,rfl,zab h⟩) j)
  |exact zaa (m:=Builtin.Tuple.tupleExact _) (wpAny_newObj_type (zaa (zab (zab ⟨_,rfl,zab h⟩))) j)
  |exact zaa (zaa (m:=Builtin.Tuple.tupleExact _) (wpAny_newObj_type (zab (zab ⟨_,rfl,zab h⟩)) j))
  |exact zaa (zaa (m:=Builtin.Tuple.tupleExact _) (wpAny_newObj_type (zab ⟨_,rfl,zab h⟩) j))
abbrev TO:=St->Hp->(Option Int->Hp->Prop)->Prop
def PO(X:Cx)(e:Option Expr)(t:TO):Prop :=
 ∀(pn:List (Addr×Obj))(s:Shared)(G:St)(H:Hp)(Q:Option Int->Hp->Prop),Inv X pn G H s->t G H Q ->
  wpAny (model X.prog X.w) X.A (evalPart e X.env) (λu s'=>∃o H',Inv X pn G H' s'/\IsPart u o/\Q o H') X.xe s
def Hh:TO:=λ_ H Q=>Q none H
def z0h(t:TE):TO:=λG H Q=>t G H λx H1=>∃i,x=.int i/\Q (some i) H1
def k9:∀{us:List Value},Vals (ns.map V.int) us->IntsAre us ns:=by
 induction ns with
 |nil=>intro us r;rw[List.map_nil]at r;cases r;exact .nil
 |cons n ns ih =>
  intro us r;rw[List.map_cons]at r;cases r with
  |cons r1 r2 =>
   obtain⟨t,e⟩:=r1;subst e;exact .cons n t (ih r2)
section
variable{e:Expr}{te:TE}{lo hi:Option Expr}{tl th:TO}{p2:Pos}
def Gw:PO X none Hh:=by
 intro pn s G H Q I h;rw[evalPart_none];exact zab ⟨none,H,I,.none,h⟩
def Gv(h:PE X e te):PO X (some e) (z0h te):=by
 intro pn s G H Q I M;rw[evalPart_some];refine thn (h pn s G H _ I M) λu s1 Zh=>?_;obtain⟨x,H1,N,j,B⟩:=Zh;obtain⟨i,rfl,q⟩:=B;obtain⟨t,rfl⟩:=j;exact⟨some i,H1,N,.int i t,q⟩
def SlR(X:Cx)(r:V->Option Int->Option Int->Hp->VK->Prop):Prop :=
 ∀(pn:List (Addr×Obj))(s:Shared)(G:St)(H:Hp)(x:V)(v vl vu:Value)(lo hi:Option Int)(sl:Addr)(Q:VK),Inv X pn G H s->RelV x v->s.heap.IsSliceOf sl vl vu .none->IsPart vl lo->IsPart vu hi->r x lo hi H Q ->
  ∃T id,typeLookup (.type T) "__getitem__" = pure (some (.builtin id))/\s.TypeIs v T/\wpAny (model X.prog X.w) X.A (getItem v (.ref sl)) (EP X pn G Q) X.xe s
def SlR.or(h:SlR X r)(h':SlR X r'):SlR X (λx lo hi H Q=>r x lo hi H Q\/r' x lo hi H Q):=by
 intro pn s G H x v B j lo hi M Q I N hs pl Z q;rcases q with q|q
 ·exact h pn s G H x v B j lo hi M Q I N hs pl Z q
 exact h' pn s G H x v B j lo hi M Q I N hs pl Z q
def tSl(r:V->Option Int->Option Int->Hp->VK->Prop)(te:TE)(tl th:TO):TE:=λG H Q=>te G H λx H1=>tl G H1 λl H2=>th G H2 λu j=>r x l u j Q
def Mn{r:V->Option Int->Option Int->Hp->VK->Prop}(hr:SlR X r)(he:PE X e te)(hl:PO X lo tl)(hu:PO X hi th):PE X (.Subscript e (.Slice lo hi none p2) pos) (tSl r te tl th):=by
 intro pn s G H Q I h;refine Subscript_ (thn (he pn s G H _ I h) λv s1 Zh=>?_);obtain⟨x,H1,I1,Z,q1⟩:=Zh;refine wpAny_Slice (thn (hl pn s1 G H1 _ I1 q1) λM s2 ⟨l,H2,I2,pl,q2⟩=>thn (hu pn s2 G H2 _ I2 q2) λB j Zh=>?_);obtain⟨u,N,I3,pu,q3⟩:=Zh;rw[evalPart_none];refine zab ?_;have I4:Inv X pn G N {j with heap:=j.heap.push {cls:=.type "slice",data:=.fields #[M,B,.none]}}:=I3.kept (t':=j.toks) λb ob q=>zac _ q;obtain⟨T,id,hT,ht,hg⟩:=hr pn {j with heap:=j.heap.push {cls:=.type "slice",data:=.fields #[M,B,.none]}} G N x v M B l u j.heap.objs.size Q I4 Z (Heap.IsSliceOf.new ..) pl pu q3;show wpAny (model X.prog X.w) X.A (subscriptTail e (.Slice lo hi none p2) v (.ref j.heap.objs.size)) (EP X pn G Q) X.xe {j with heap:=j.heap.push {cls:=.type "slice",data:=.fields #[M,B,.none]}};exact tail_any (ops:=[.ref j.heap.objs.size,v]) ht hT hg (by with_unfolding_all rfl)
def cutV(xs:List V)(lo hi:Option Int):List V:=(xs.drop (ZZ.sIx xs.length 0 lo)).take (ZZ.sIx xs.length xs.length hi-ZZ.sIx xs.length 0 lo)
def fu(xs:List V)(lo hi:Option Int):(cutV xs lo hi).length<=xs.length:=by
 unfold cutV;rw[List.length_take,List.length_drop];omega
def rSlT(K:W.Frag):V->Option Int->Option Int->Hp->VK->Prop:=λx lo hi H Q=>∃a xs,x=.ref a/\SqT K H a xs /\
 ¬ (ZZ.sIx xs.length 0 lo=0/\ZZ.sIx xs.length xs.length hi=xs.length)/\∀p,H p=none->Q (.ref p) (upd H p (.tup (cutV xs lo hi)))
def Do:SlR X (rSlT X.K):=by
 intro pn s G H x v vl vu lo hi sl Q I N hs pl Z h;obtain⟨a,xs,rfl,hx,hw,q⟩:=h;cases N;obtain⟨its,r,M,B⟩:=I.tuple hx;have j:its.toArray.size=xs.length:=by rw[zap];exact r.length.symm
 refine⟨"tuple",_,PyProof.Rows.slot_tuple_getitem.lookup,M.typeIs,?_⟩;refine ZZ.getItem_tuple_cut M hs pl Z (by rw[j];exact hw) ?_ (by rw[j];exact B)
 rw[j];refine⟨.ref s.heap.objs.size,_,I.laid (t':=s.toks) (o:=.tup (cutV xs lo hi)) (λb ob q=>zac _ q) (zaj _) ?_,rfl,q _ (I.hok.fresh (zaj _))⟩;exact⟨zak (fu xs lo hi) B,_,(r.drop (ZZ.sIx xs.length 0 lo)).take (ZZ.sIx xs.length xs.length hi-ZZ.sIx xs.length 0 lo),IsTup.new _ _,_,zad _ rfl,rfl⟩
def C3(K:W.Frag):R2:=λx y H Q=>∃a b xs ys,x=.ref a/\y=.ref b/\SqT K H a xs/\SqT K H b ys/\xs≠[]/\xs.length+ys.length<=sizeLine /\
 (ys=[]->Q (.ref a) H)/\(ys≠[]->∀p,H p=none->Q (.ref p) (upd H p (.tup (xs++ys))))
def Vals.nil_iff(r:Vals xs us):us=[] ↔ xs=[]:=by
 cases r with
 |nil=>simp
 |cons _ _=>simp
def P8:OpR X (binaryOp .Add) (C3 X.K):=by
 intro pn s G H x y v u Q I Z N h;obtain⟨a,b,xs,ys,rfl,rfl,ha,hb,hx,M,q1,q2⟩:=h;cases Z;cases N;obtain⟨its,j,p1,_⟩:=I.tuple ha;obtain⟨B,r2,p2,_⟩:=I.tuple hb;refine ZZ.cat_tup p1 p2 (λz=>hx (j.nil_iff.mp z)) (λz=>⟨.ref a,H,I,rfl,q1 (r2.nil_iff.mp z)⟩) (λz=>?_) (by rw[<- j.length,<- r2.length];exact M)
 refine⟨.ref s.heap.objs.size,_,I.laid (t':=s.toks) (o:=.tup (xs++ys)) (λb ob q=>zac _ q) (zaj _) ?_,rfl,q2 (λw=>z (r2.nil_iff.mpr w)) _ (I.hok.fresh (zaj _))⟩;exact⟨by rw[zLa];exact M,_,j.append r2,IsTup.new _ _,_,zad _ rfl,rfl⟩
end
def ixN(n:Nat)(i:Int):Option Nat:=if 0<=i then(if i<n then some i.toNat else none) else if -(n:Int)<=i then some (i+n).toNat else none
def atI{α:Type}(xs:List α)(i:Int):Option α:=(ixN xs.length i).bind λj=>xs[j]?
def V1(h:ixN n i=some j):seqIndex? i n=some j/\j<n/\-(n:Int)<=i/\i<n:=by
 unfold ixN at h;by_cases h0:0<=i
 ·rw[if_pos h0]at h;by_cases h1:i<n
  ·rw[if_pos h1]at h;have e:i.toNat=j:=Option.some.inj h;exact⟨by rw[seqIndex_of h0 h1,e],by omega,by omega,h1⟩
  rw[if_neg h1]at h;cases h
 rw[if_neg h0]at h;by_cases h1:-(n:Int)<=i
 ·rw[if_pos h1]at h;have e:(i+n).toNat=j:=Option.some.inj h;exact⟨by rw[seqIndex_neg (by omega) h1,e],by omega,h1,by omega⟩
 rw[if_neg h1]at h;cases h
def Vw{α:Type}{xs:List α}{i:Int}{v:α}(h:atI xs i=some v):∃j,seqIndex? i xs.length=some j/\xs[j]?=some v/\j<xs.length/\-(xs.length:Int)<=i/\i<xs.length:=by
 unfold atI at h;cases e:ixN xs.length i with
 |none=>rw[e]at h;cases h
 |some j =>
  rw[e]at h;obtain⟨h1,h2,B,q⟩:=V1 e;exact⟨j,h1,h,h2,B,q⟩
def Yg{α:Type}{xs:List α}{j:Nat}{v:α}(h:xs[j]?=some v):atI xs (j:Int)=some v:=by
 have q:j<xs.length:=(zag.mp h).1;have e:ixN xs.length (j:Int)=some j:=by
  unfold ixN;rw[if_pos (by omega),if_pos (by omega)];simp
 unfold atI;rw[e];exact h
def Tx{α:Type}(xs:List α)(v:α):atI (xs++[v]) (-1)=some v:=by
 have hl:(xs++[v]).length=xs.length+1:=by simp
 have e:ixN (xs++[v]).length (-1)=some xs.length:=by
  unfold ixN;rw[hl,if_neg (by decide),if_pos (by omega)]
  congr 1
  omega
 unfold atI;rw[e];show(xs++[v])[xs.length]?=some v;simp
def Vy(b:Expr):Prop:=∀o i,subscripted b false o i=operate [o,i] (getItem o i)
def IxR(X:Cx)(r:R2):Prop :=
 ∀(value slice:Expr)(pn:List (Addr×Obj))(s:Shared)(G:St)(H:Hp)(x y:V)(v u:Value)(Q:VK),Inv X pn G H s->RelV x v->RelV y u->r x y H Q ->
  subscripted slice false v u=operate [v,u] (getItem v u)->wpAny (model X.prog X.w) X.A (subscriptTail value slice v u) (EP X pn G Q) X.xe s
def MtR(X:Cx)(id:String)(r:V->List V->Hp->VK->Prop):Prop :=
 ∀(pn:List (Addr×Obj))(s:Shared)(G:St)(H:Hp)(x:V)(xs:List V)(v:Value)(us:List Value)(Q:VK),Inv X pn G H s->RelV x v->Vals xs us->r x xs H Q ->
  wpAny (model X.prog X.w) X.A (call (.builtin id) (v::us)) (EP X pn G Q) X.xe s
variable{a b:Expr}
def IxR.or(h:IxR X r)(h':IxR X r'):IxR X (λx y H Q=>r x y H Q\/r' x y H Q):=by
 intro value j pn s G H x y v u Q I M B q hs;rcases q with q|q
 ·exact h value j pn s G H x y v u Q I M B q hs
 exact h' value j pn s G H x y v u Q I M B q hs
def Cu(hr:IxR X r)(N:PE X a ta)(M:PE X b tb)(hs:Vy b):PE X (.Subscript a b pos) (tOp r ta tb):=by
 intro pn s G H Q I h;exact Subscript_ (binT N M I h λv u s2 x y H2 Z B j q=>hr a b pn s2 G H2 x y v u Q Z B j q (hs _ _))
def rIxL(K:W.Frag):R2:=λx y H Q=>∃p xs i v,x=.ref p/\y=.int i/\SqL K H p xs/\atI xs i=some v/\Q v H
def rIxT(K:W.Frag):R2:=λx y H Q=>∃p xs i v,x=.ref p/\y=.int i/\SqT K H p xs/\atI xs i=some v/\Q v H
def rIxS:R2:=λx y H Q=>∃z i c,x=.str z/\y=.int i/\z.length<=sizeLine/\atI z.cps.toList i=some c/\Q (.str ⟨#[c]⟩) H
def E5:IxR X (rIxL X.K):=by
 intro value M pn s G H x y v u Q I rx ry h hs;obtain⟨p,xs,i,z,rfl,rfl,hq,he,q⟩:=h;cases rx;obtain⟨t,rfl⟩:=ry;obtain⟨its,r,pl,hz⟩:=I.list hq;obtain⟨j,h1,h2,h3,h4,h5⟩:=Vw he;obtain⟨w,ew,N⟩:=r.get h2;have hl:=r.length;have hn:=rm;have B:EP X pn G Q w s:=⟨z,H,I,N,q⟩;by_cases h0:0<=i
 ·have Z:i.toNat=j:=by
   rw[seqIndex_of h0 h5]at h1;exact Option.some.inj h1
  exact item_listR pl.isList h0 (by omega) (by rw[Z];simpa using ew) B hs
 have Z:(i+(its.toArray.size:Int)).toNat=j:=by
  rw[seqIndex_neg (by omega) h4]at h1
  rw[zap,<- hl];exact Option.some.inj h1
 exact subscriptTail_builtinR (x:=w) pl.isList.typeIs slot_list_getitem.lookup
  (wpAny_getItem_list_neg (Q:=λr s'=>r=w/\EP X pn G Q r s') pl.isList (by omega) (by rw[zap] <;> omega) (by omega) (by rw[Z];simpa using ew) ⟨rfl,B⟩) hs
def Bz:IxR X (rIxT X.K):=by
 intro value B pn s G H x y v u Q I rx Z h hs;obtain⟨p,xs,i,z,rfl,rfl,hq,he,q⟩:=h;cases rx;obtain⟨t,rfl⟩:=Z;obtain⟨its,r,pl,hz⟩:=I.tuple hq;obtain⟨j,h1,h2,h3,h4,h5⟩:=Vw he;obtain⟨w,ew,M⟩:=r.get h2;have hl:=r.length;have hn:=rm;have N:EP X pn G Q w s:=⟨z,H,I,M,q⟩;exact subscriptTail_builtinR (x:=w) pl.typeIs slot_tuple_getitem.lookup
  (getItem_tuple (j:=j) (Q:=λr s'=>r=w/\EP X pn G Q r s') pl (by omega) (by omega) (by rw[zap,<- hl];exact h1) (by simpa using ew) ⟨rfl,N⟩) hs
def A0:IxR X rIxS:=by
 intro value B pn s G H x y v u Q I N M h hs;obtain⟨z,i,c,rfl,rfl,hz,Z,q⟩:=h;obtain⟨t,rfl⟩:=N;obtain⟨t',rfl⟩:=M;obtain⟨j,h1,h2,h3,h4,h5⟩:=Vw Z;have hl:z.cps.toList.length=z.length:=by simp[Str.length]
 rw[hl]at h1 h4 h5;have hn:=rm;exact tail_any (typeIs_str s z t) slot_str_getitem.lookup (getItem_str (c:=c) (by
  have e1:decide (i < -(2 ^ 63:Int))=false:=decide_eq_false (by omega)
  have e2:decide (i ≥ 2 ^ 63)=false:=decide_eq_false (by omega)
  rw[e1,e2,Bool.or_false]) (by rw[h1];simpa using h2) ⟨.str ⟨#[c]⟩,H,I.tok _,⟨_,rfl⟩,q⟩) hs
def rIx(K:W.Frag):R2:=λx y H Q=>rIxL K x y H Q\/rIxT K x y H Q\/rIxS x y H Q
def Jm:IxR X (rIx X.K):=E5.or (Bz.or A0)
def Sv(its:List Value)(n j:Nat)(u:Value):Obj.mapSeq (·.setIfInBounds j u) {cls:=.type "list",data:=.seq its.toArray n}={cls:=.type "list",data:=.seq (its.set j u).toArray n}:=by
 simp[Obj.mapSeq]
theorem Inv.lst(I:Inv X pn G H s)(h:H p=some (.lst xs)) :
  ∃(its:List Value)(n:Nat),Vals xs its/\s.heap.get? p=some {cls:=.type "list",data:=.seq its.toArray n}/\xs.length<=sizeLine:=by
 obtain⟨z,its,n,r,e⟩:=I.hok p _ h;exact⟨its,n,r,e,z⟩
def Inv.lstUpd{H:Hp}{its its':List Value}{n j:Nat}{f:Obj->Obj}(I:Inv X pn G H s)(h:H p=some (.lst xs))(ho:s.heap.get? p=some {cls:=.type "list",data:=.seq its.toArray n})(B:f {cls:=.type "list",data:=.seq its.toArray n}={cls:=.type "list",data:=.seq its'.toArray j})(r:Vals ys its')(M:ys.length<=sizeLine)(t:Nat) :
  Inv X pn G (upd H p (.lst ys)) {s with heap:=s.heap.update p f,toks:=t}:=by
 have e:(s.heap.update p f).get? p=some {cls:=.type "list",data:=.seq its'.toArray j}:=by
  rw[Heap.get?_update_self f ho (by rw[B] <;> rfl),B]
 refine I.write (x:=p) (e:=p) (by rw[h];trivial) (.inl rfl) (λb u N q=>(Heap.get?_update_other _ _ (Ne.symm N)).trans q) ⟨_,e⟩ ?_
 exact⟨M,its',j,r,e⟩
def z0o:V->V->V->Hp->(Hp->Prop)->Prop:=λo i v H Q=>∃p xs k j,o=.ref p/\i=.int k/\H p=some (.lst xs)/\ixN xs.length k=some j/\Q (upd H p (.lst (xs.set j v)))
def U7:PSet X z0o:=by
 intro pn s G H o i v ov iv u Q I ro ri rv h;obtain⟨p,xs,k,j,rfl,rfl,M,hj,q⟩:=h;cases ro;obtain⟨t,rfl⟩:=ri;obtain⟨its,n,r,ho,hz⟩:=I.lst M;obtain⟨h1,h2,Z,N⟩:=V1 hj;have hl:=r.length;have hn:=rm;have I':Inv X pn G (upd H p (.lst (xs.set j v))) {s with heap:=s.heap.update p (Obj.mapSeq (·.setIfInBounds j u))} :=
  I.lstUpd M ho (Sv its n j u) (r.set rv j) (by rw[List.length_set];exact hz) s.toks
 by_cases h0:0<=k
 ·have B:k.toNat=j:=by
   rw[seqIndex_of h0 N]at h1;exact Option.some.inj h1
  exact W.ki_setAt ho h0 (by omega) (by rw[zap,<- hl];exact N) (by rw[B];exact⟨_,I',q⟩)
 have B:(k+(its.toArray.size:Int)).toNat=j:=by
  rw[seqIndex_neg (by omega) Z]at h1
  rw[zap,<- hl];exact Option.some.inj h1
 exact W.ki_setBack ho (by omega) (by rw[zap,<- hl];exact Z) (by omega) (by rw[B];exact⟨_,I',q⟩)
def Yn(lo hi:Option Int)(n:Nat):(sliceBounds lo hi none n).1=((ZZ.sIx n 0 lo:Nat):Int)/\(sliceBounds lo hi none n).2.1=((ZZ.sIx n n hi:Nat):Int)/\(sliceBounds lo hi none n).2.2=1:=by
 refine⟨?_,?_,rfl⟩
 ·cases lo with
  |none=>simp[sliceBounds,ZZ.sIx]
  |some i =>
   simp only[sliceBounds,ZZ.sIx,Option.getD_none,show(1:Int) > 0 by decide,if_true]
   by_cases h:i<0
   ·simp only[h,if_true] <;> omega
   simp only[h,if_false] <;> omega
 cases hi with
 |none=>simp[sliceBounds,ZZ.sIx]
 |some i =>
  simp only[sliceBounds,ZZ.sIx,Option.getD_none,show(1:Int) > 0 by decide,if_true]
  by_cases h:i<0
  ·simp only[h,if_true] <;> omega
  simp only[h,if_false] <;> omega
def Z5(its:List Value)(lo hi:Option Int):slicePick its.toArray lo hi none=((its.drop (ZZ.sIx its.length 0 lo)).take (ZZ.sIx its.length its.length hi-ZZ.sIx its.length 0 lo)).toArray:=by
 obtain⟨h1,h2,j⟩:=Yn lo hi its.toArray.size;unfold slicePick;rw[h1,h2,j];simp only[sliceRange_one,pick_run,zap] <;> rfl
def rSlL(K:W.Frag):V->Option Int->Option Int->Hp->VK->Prop:=λx lo hi H Q=>∃a xs,x=.ref a/\SqL K H a xs/\∀p,H p=none->Q (.ref p) (upd H p (.lst (cutV xs lo hi)))
def Hl:SlR X (rSlL X.K):=by
 intro pn s G H x v vl vu lo hi sl Q I M hs pl N h;obtain⟨a,xs,rfl,hx,q⟩:=h;cases M;obtain⟨its,r,B,Z⟩:=I.list hx;have j:=r.length;refine⟨"list",_,slot_list_getitem.lookup,B.isList.typeIs,?_⟩;refine wpAny_getItem_list_slice B.isList hs pl N .none (by simp) ?_ (by rw[zap] <;> omega)
 rw[Z5,<- j];refine⟨.ref s.heap.objs.size,_,I.laid (t':=s.toks) (o:=.lst (cutV xs lo hi)) (λb ob q=>zac _ q) (zaj _) ?_,rfl,q _ (I.hok.fresh (zaj _))⟩;exact⟨zak (fu xs lo hi) Z,_,0,(r.drop (ZZ.sIx xs.length 0 lo)).take (ZZ.sIx xs.length xs.length hi-ZZ.sIx xs.length 0 lo),zad _ rfl⟩
def dy:V->Bool
 |.non=>true
 |.bl _=>true
 |.int _=>true
 |.str _=>true
 |_=>false
def eqV:V->V->Bool
 |.non,.non=>true
 |.bl a,.bl b=>a==b
 |.bl a,.int b=>(if a then 1 else 0)==b
 |.int a,.bl b=>a==(if b then 1 else 0)
 |.int a,.int b=>a==b
 |.str a,.str b=>a==b
 |_,_=>false
def Aq{y x:V}{u v:Value}(q:RelV y u)(j:RelV x v)(I:dy y=true)(B:dy x=true):SeqAt.EqAt A s u v (eqV y x):=by
 cases y with
 |non =>
  cases q
  cases x with
  |non=>cases j;exact SeqAt.EqAt.same _
  |bl b=>cases j;exact SeqAt.EqAt.none_bool b
  |int b=>obtain⟨t,rfl⟩:=j;exact SeqAt.EqAt.none_int b t
  |str b=>obtain⟨t,rfl⟩:=j;exact SeqAt.EqAt.none_str b t
  |_=>exact absurd (show false=true from B) Bool.false_ne_true
 |bl a =>
  cases q
  cases x with
  |non=>cases j;exact SeqAt.EqAt.bool_none a
  |bl b=>cases j;exact SeqAt.EqAt.bool_bool a b
  |int b=>obtain⟨t,rfl⟩:=j;exact SeqAt.EqAt.bool_int a b t
  |str b=>obtain⟨t,rfl⟩:=j;exact SeqAt.EqAt.bool_str a b t
  |_=>exact absurd (show false=true from B) Bool.false_ne_true
 |int a =>
  obtain⟨t',rfl⟩:=q;cases x with
  |non=>cases j;exact SeqAt.EqAt.int_none a t'
  |bl b=>cases j;exact SeqAt.EqAt.int_bool a t' b
  |int b=>obtain⟨t,rfl⟩:=j;exact SeqAt.EqAt.int_int a t' b t
  |str b=>obtain⟨t,rfl⟩:=j;exact SeqAt.EqAt.int_str a t' b t
  |_=>exact absurd (show false=true from B) Bool.false_ne_true
 |str a =>
  obtain⟨t',rfl⟩:=q;cases x with
  |non=>cases j;exact SeqAt.EqAt.str_none a t'
  |bl b=>cases j;exact SeqAt.EqAt.str_bool a t' b
  |int b=>obtain⟨t,rfl⟩:=j;exact SeqAt.EqAt.str_int a t' b t
  |str b=>obtain⟨t,rfl⟩:=j;exact SeqAt.EqAt.str_str a t' b t
  |_=>exact absurd (show false=true from B) Bool.false_ne_true
 |_=>exact absurd (show false=true from I) Bool.false_ne_true
def eqU(x:V)(u:Value):Bool:=match u with
 |.none=>eqV .non x
 |.bool b=>eqV (.bl b) x
 |.int i _=>eqV (.int i) x
 |.str z _=>eqV (.str z) x
 |_=>false
def Ju{x y:V}(r:RelV y u)(f:dy y=true):eqU x u=eqV y x:=by
 cases y with
 |non=>cases r;rfl
 |bl b=>cases r;rfl
 |int i=>obtain⟨t,rfl⟩:=r;rfl
 |str z=>obtain⟨t,rfl⟩:=r;rfl
 |_=>exact absurd (show false=true from f) Bool.false_ne_true
theorem db{x:V}:∀{xs:List V}{us:List Value},Vals xs us->xs.all dy=true->us.any (eqU x)=xs.any λy=>eqV y x
 |_,_,.nil,_=>rfl
 |y::xs,u::us,.cons r t,f=>by
  rw[List.all_cons,Bool.and_eq_true]at f;rw[List.any_cons,List.any_cons,Ju r f.1,db t f.2]
theorem rj{x:V}{v:Value}(j:RelV x v)(q:dy x=true):∀{xs:List V}{us:List Value},Vals xs us->xs.all dy=true->∀u∈us,SeqAt.EqAt A s u v (eqU x u)
 |_,_,.nil,_=>λu hu=>by cases hu
 |y::xs,u::us,.cons r t,f=>λB hu=>by
  rw[List.all_cons,Bool.and_eq_true]at f;rcases zam.mp hu with rfl|hu
  ·rw[Ju r f.1];exact Aq r j f.1 q
  exact rj j q t f.2 B hu
def inV(x:V)(xs:List V):Bool:=xs.any λy=>eqV y x
def rIn(K:W.Frag)(j:Bool):R2:=λx y H Q=>∃p xs,y=.ref p/\(SqL K H p xs\/SqT K H p xs)/\dy x=true/\xs.all dy=true/\Q (.bl (if j then !inV x xs else inV x xs)) H
def P7:OpR X (compareOp .In) (rIn X.K false):=by
 intro pn s G H x y v u Q I M Z h;obtain⟨p,xs,rfl,j,N,fs,q⟩:=h;cases Z;rcases j with j|j
 ·obtain⟨its,r,pl,hz⟩:=I.list j;refine SeqAt.in_listAt (eqU x) pl.isList (λw B=>rj M N r fs w (by simpa using B)) ⟨.bl _,H,I,rfl,?_⟩
  rw[show its.toArray.any (eqU x)=its.any (eqU x) by simp,db r fs]
  exact q
 obtain⟨its,r,pl,hz⟩:=I.tuple j;refine SeqAt.in_tupleAt (eqU x) pl (λw B=>rj M N r fs w (by simpa using B)) ⟨.bl _,H,I,rfl,?_⟩
 rw[show its.toArray.any (eqU x)=its.any (eqU x) by simp,db r fs]
 exact q
def Yw:OpR X (compareOp .NotIn) (rIn X.K true):=by
 intro pn s G H x y v u Q I M Z h;obtain⟨p,xs,rfl,j,N,fs,q⟩:=h;cases Z;rcases j with j|j
 ·obtain⟨its,r,pl,hz⟩:=I.list j;refine SeqAt.notIn_listAt (eqU x) pl.isList (λw B=>rj M N r fs w (by simpa using B)) ⟨.bl _,H,I,rfl,?_⟩
  rw[show its.toArray.any (eqU x)=its.any (eqU x) by simp,db r fs]
  exact q
 obtain⟨its,r,pl,hz⟩:=I.tuple j;refine SeqAt.notIn_tupleAt (eqU x) pl (λw B=>rj M N r fs w (by simpa using B)) ⟨.bl _,H,I,rfl,?_⟩
 rw[show its.toArray.any (eqU x)=its.any (eqU x) by simp,db r fs]
 exact q
def Yv:OpR X (compareOp .NotIn) (λx y H Q=>∃i j,x=.str i/\y=.str j/\Q (.bl (!(!(Builtin.Str.occurrences j i 0 j.length 1).isEmpty))) H):=by
 intro pn s G H x y v u Q I M B h;obtain⟨i,j,rfl,rfl,q⟩:=h;obtain⟨t,rfl⟩:=M;obtain⟨t',rfl⟩:=B;exact notIn_str ⟨.bl _,H,I,rfl,q⟩
def kz:vz X (.builtin "len") (λxs H Q=>∃p ys,xs=[.ref p]/\(SqL X.K H p ys\/SqT X.K H p ys)/\Q (.int ys.length) H):=by
 intro pn s G H xs us Q I r h;obtain⟨p,ys,rfl,B,q⟩:=h;obtain⟨u,rfl,N⟩:=uz r;cases N;have hn:=rm;rcases B with B|B
 ·obtain⟨its,M,pl,Z⟩:=I.list B;have j:=M.length;exact Calls.call_len_list pl.isList (by simp only[zap] <;> omega) ⟨.int ys.length,H,I.tok _,⟨s.toks+1,by rw[zap,j]⟩,q⟩
 obtain⟨its,M,pl,Z⟩:=I.tuple B;have j:=M.length;exact len_tuple pl (by simp only[zap] <;> omega) ⟨.int ys.length,H,I.tok _,⟨s.toks+1,by rw[zap,j]⟩,q⟩
def W3:vz X (.builtin "len") (λxs H Q=>∃z,xs=[.str z]/\z.length<=sizeLine/\Q (.int z.length) H):=by
 intro pn s G H xs us Q I r h;obtain⟨z,rfl,j,q⟩:=h;obtain⟨u,rfl,t,rfl⟩:=uz r;have B:=rm;exact len_str (by omega) ⟨.int z.length,H,I.tok _,⟨_,rfl⟩,q⟩
def vz.or{f:Value}{r j:List V->Hp->VK->Prop}(h:vz X f r)(h':vz X f j):vz X f (λxs H Q=>r xs H Q\/j xs H Q):=by
 intro pn s G H xs us Q I rs q;rcases q with q|q
 ·exact h pn s G H xs us Q I rs q
 exact h' pn s G H xs us Q I rs q
def W2:vz X (.type "list") (λxs H Q=>∃p ys,xs=[.ref p]/\(SqL X.K H p ys\/SqT X.K H p ys)/\∀l,H l=none->Q (.ref l) (upd H l (.lst ys))):=by
 intro pn s G H xs us Q I r h;obtain⟨p,ys,rfl,Z,q⟩:=h;obtain⟨u,rfl,rx⟩:=uz r;cases rx;have a1:∀(its:List Value),Vals ys its->ys.length<=sizeLine->∀(h':Heap)(B:Nat),(∀b o',s.heap.get? b=some o'->h'.get? b=some o') ->
   h'.get? s.heap.objs.size=some {cls:=.type "list",dict:=none,data:=.seq its.toArray B,slots:=#[]}->EP X pn G Q (.ref s.heap.objs.size) {s with heap:=h'}:=λits j N h' B M e =>
  ⟨.ref s.heap.objs.size,_,I.laid (t':=s.toks) M (zaj _) (show wm X.prog X.w _ h' _ (.lst ys) from⟨N,its,B,j,e⟩),rfl,q _ (I.hok.fresh (zaj _))⟩
 rcases Z with Z|Z
 ·obtain⟨its,j,pl,N⟩:=I.list Z;have a0:=j.length;obtain⟨o,ho,hc,n,hd⟩:=pl.isList;exact call_list_seq p (.inl rfl) ho hc hd (λh' B M e=>a1 its j N h' B M e) (by simp only[zap] <;> omega)
 obtain⟨its,j,pl,N⟩:=I.tuple Z;have a0:=j.length;obtain⟨o,ho,hc,n,hd⟩:=pl;exact call_list_seq p (.inr rfl) ho hc hd (λh' B M e=>a1 its j N h' B M e) (by simp only[zap] <;> omega)
def Yb:vz X (.type "tuple") (λxs H Q=>∃p ys,xs=[.ref p]/\((SqL X.K H p ys/\∀l,H l=none->Q (.ref l) (upd H l (.tup ys)))\/(SqT X.K H p ys/\Q (.ref p) H))):=by
 intro pn s G H xs us Q I r h;obtain⟨p,ys,rfl,h⟩:=h;obtain⟨u,rfl,rx⟩:=uz r;cases rx;rcases h with⟨B,q⟩|⟨B,q⟩
 ·obtain⟨its,j,pl,M⟩:=I.list B;have N:=j.length;refine call_tuple_list pl.isList (λh' kp=>?_) (by simp only[zap] <;> omega)
  have Z:Inv X pn G H {s with heap:=h'}:=I.kept (t':=s.toks) kp;have I2:Inv X pn G (upd H h'.objs.size (.tup ys)) {s with heap:=h'.push {cls:=.type "tuple",data:=.seq its.toArray}} :=
   Z.laid (t':=s.toks) (λb o e=>zac _ e) (zaj _) (show wm X.prog X.w _ _ _ (.tup ys) from⟨M,its,j,IsTup.new _ _,_,zad _ rfl,rfl⟩)
  exact⟨.ref h'.objs.size,_,I2,rfl,q _ (Z.hok.fresh (zaj _))⟩
 obtain⟨its,j,pl,M⟩:=I.tuple B;exact call_tuple_same pl ⟨.ref p,H,I,rfl,q⟩
def tyV(K:W.Frag)(T:String)(x:V)(H:Hp):Prop:=match x with
 |.str _=>T = "str"
 |.int _=>T = "int"
 |.ref p=>(T = "list"/\∃xs,SqL K H p xs)\/(T = "tuple"/\∃o,K.lookup p=some o/\o.cls=.type "tuple"/\o.dict=none) \/
   (T = "dict"/\((∃kvs,H p=some (.dK kvs))\/∃kvs,H p=some (.dT kvs)))\/(T = "set"/\∃S n,H p=some (.set S n))
 |_=>False
def Ko{x:V}{v:Value}(I:Inv X pn G H s)(r:RelV x v)(ty:tyV X.K T x H) :
  s.TypeIs v T/\∀a,v=.ref a->∃ob,s.heap.get? a=some ob/\ob.dict=none:=by
 cases x with
 |str z =>
  obtain⟨t,rfl⟩:=r;cases (show T = "str" from ty);exact⟨typeIs_str s z t,λ_ e=>nomatch e⟩
 |int i =>
  obtain⟨t,rfl⟩:=r;cases (show T = "int" from ty);exact⟨typeIs_int s i t,λ_ e=>nomatch e⟩
 |ref p =>
  cases r
  rcases ty with⟨rfl,xs,B⟩|⟨rfl,o,j,M,q⟩|⟨rfl,j⟩|⟨rfl,S,n,j⟩
  ·obtain⟨its,_,pl,_⟩:=I.list B;refine⟨pl.isList.typeIs,λa e=>?_⟩;cases e;obtain⟨o,n,e,c,q,_⟩:=pl;exact⟨o,e,q⟩
  ·refine⟨⟨o,I.kIn p o j,M⟩,λa e=>?_⟩;cases e;exact⟨o,I.kIn _ o j,q⟩
  ·have z:∃o,s.heap.get? p=some o/\o.ExactDict:=by
    rcases j with⟨kvs,j⟩|⟨kvs,j⟩
    ·obtain⟨_,_,_,_,o,_,_,e,ex,_⟩:=I.hok p _ j;exact⟨o,e,ex⟩
    obtain⟨_,_,_,_,o,_,_,e,ex,_⟩:=I.hok p _ j;exact⟨o,e,ex⟩
   obtain⟨o,e,ex⟩:=z;refine⟨⟨o,e,ex.1⟩,λa e2=>?_⟩;cases e2;exact⟨o,e,ex.2.1⟩
  obtain⟨o,_,_,_,e,ex,_⟩:=I.hok p _ j;refine⟨⟨o,e,ex.1⟩,λa e2=>?_⟩;cases e2;exact⟨o,e,ex.2.1⟩
 |_=>exact False.elim ty
def tBM0(K:W.Frag)(T:String)(r:V->List V->Hp->VK->Prop)(to:TE):TE:=λG H Q=>to G H λx H1=>tyV K T x H1/\r x [] H1 Q
def tBM(K:W.Frag)(T:String)(r:V->List V->Hp->VK->Prop)(to:TE)(t:TA):TE:=λG H Q=>to G H λx H1=>tyV K T x H1/\t G H1 λxs H2=>r x xs H2 Q
section
variable{o e:Expr}{es:List Expr}{to:TE}{t:TA}{apos cpos:Pos}{T id:String}{r:V->List V->Hp->VK->Prop}
def Jf(pa:PlainAttrs T)(slot:Slot T name id)(B:typeOf (.builtin id)=pure (.type "method_descriptor"))(hm:MtR X id r)(ho:PE X o to)(q:attributeBase o name X.env (eval o X.env)=eval o X.env:=by rfl)(j:(apos.endLine==cpos.line)=true:=by rfl):PE X (.Call (.Attribute o name apos) [] [] cpos) (tBM0 X.K T r to):=by
 intro pn s G H Q I h;refine wpAny_Call_method0_late q j (thn (ho pn s G H _ I h) λv s1 Zh=>?_);obtain⟨x,H1,N,M,ty,Z⟩:=Zh;obtain⟨h1,h2⟩:=Ko N M ty;exact⟨T,id,pa,slot,B,h1,h2,Calls.callWith_builtin rfl (PySem.evalArgs_none (hm pn s1 G H1 x [] v [] Q N M .nil Z))⟩
def Sn(pa:PlainAttrs T)(slot:Slot T name id)(N:typeOf (.builtin id)=pure (.type "method_descriptor"))(hm:MtR X id r)(ho:PE X o to)(ha:PA X (e::es) t)(B:attributeBase o name X.env (eval o X.env)=eval o X.env:=by rfl)(M:((backTo cpos (starEach (e::es) X.env)).all (λx=>!x.1)&&(backToKw cpos (keywordEach [] X.env)).all (λx=>x.1.isSome)
   && decide ((e::es).length+([]:List Keyword).length+(if ([]:List Keyword).isEmpty then 0 else 1)<30))=true:=by rfl)(q:(apos.endLine==cpos.line)=true:=by rfl)(hs:S_ X e es:=by rfl)(j:B_ X es cpos:=by rfl) :
  PE X (.Call (.Attribute o name apos) (e::es) [] cpos) (tBM X.K T r to t):=by
 intro pn s G H Q I h;refine wpAny_Call_method_late B M q rfl (thn (ho pn s G H _ I h) λv s1 Zh=>?_);obtain⟨x,H1,I1,Z,ty,q1⟩:=Zh;obtain⟨h1,h2⟩:=Ko I1 Z ty;refine⟨T,id,pa,slot,N,h1,h2,?_⟩;have hA:=ha cpos pn s1 G H1 _ I1 q1;rw[hs]at hA ⊢;refine Calls.callWith_builtin (by show(false || (backTo cpos (starEach es X.env)).any (·.1))=false;rw[j] <;> rfl) (Calls.evalArgs_plain ?_)
 exact thn hA λus s2 ⟨vs,H2,I2,r2,q2⟩=>hm pn s2 G H2 x vs v us Q I2 Z r2 q2
end
def MtM(X:Cx)(id:String)(r:V->List V->Hp->VK->Prop):Prop :=
 ∀(pn:List (Addr×Obj))(s:Shared)(G:St)(H:Hp)(x:V)(xs:List V)(v:Value)(us:List Value)(Q:VK),Inv X pn G H s->RelV x v->Vals xs us->r x xs H Q ->
  wpAny (model X.prog X.w) X.A (call (.builtin id) (v::us)) (EP X pn G Q) X.xe s
def Vals.one:∀{x:V}{us:List Value},Vals [x] us->∃u,us=[u]/\RelV x u
 |_,_,.cons r .nil=>⟨_,rfl,r⟩
def Vals.zero:∀{us:List Value},Vals [] us->us=[]
 |_,.nil=>rfl
theorem Vals.dropLast(h:Vals xs us):Vals xs.dropLast us.dropLast:=by
 induction h with
 |nil=>exact .nil
 |cons r t ih =>
  cases t with
  |nil=>exact .nil
  |cons q t'=>exact .cons r ih
theorem Vals.reverse(h:Vals xs us):Vals xs.reverse us.reverse:=by
 induction h with
 |nil=>exact .nil
 |cons r t ih=>rw[List.reverse_cons,List.reverse_cons];exact Vals.append ih (.cons r .nil)
theorem Vals.rep(h:Vals xs us):∀k:Nat,Vals (List.replicate k xs).flatten (List.replicate k us).flatten
 |0=>.nil
 |k+1=>by
  rw[List.replicate_succ,List.replicate_succ,List.flatten_cons,List.flatten_cons];exact Vals.append h (Vals.rep h k)
def Ri{α:Type}(l:List α):l.eraseIdx (l.length-1)=l.dropLast:=by
 induction l with
 |nil=>rfl
 |cons a r ih =>
  cases r with
  |nil=>rfl
  |cons b r =>
   have e:(a::b::r).length-1=((b::r).length-1)+1:=by
    have h1:(a::b::r).length=r.length+2:=rfl;have h2:(b::r).length=r.length+1:=rfl;omega
   rw[e,List.eraseIdx_cons_succ,ih]
   all_goals rfl
theorem Xi(its:List Value):∀(k:Nat)(acc:List Value),
  List.foldl (λq j=>q++j) acc.toArray (List.replicate k its.toArray)=(acc++(List.replicate k its).flatten).toArray
 |0,acc=>by simp
 |k+1,acc=>by
  have e:acc.toArray++its.toArray=(acc++its).toArray:=by simp
  have e2:(acc++its)++(List.replicate k its).flatten=acc++(List.replicate (k+1) its).flatten:=by
   rw[List.replicate_succ,List.flatten_cons,List.append_assoc]
  rw[<- e2,<- Xi its k (acc++its),<- e,List.replicate_succ,List.foldl_cons]
variable{l:Addr}
def Inv.lset{its its':List Value}{n:Nat}{f:Array Value->Array Value}{t':Nat}(I:Inv X pn G H s)(Z:H l=some (.lst xs))(e:s.heap.get? l=some {cls:=.type "list",data:=.seq its.toArray n})(M:f its.toArray=its'.toArray)(B:Vals ys its')(j:ys.length<=sizeLine) :
  Inv X pn G (upd H l (.lst ys)) {s with heap:=s.heap.update l (Obj.mapSeq f),toks:=t'}:=by
 have q:=PySem.IsL.update e f;rw[M]at q;refine I.write (x:=l) (e:=l) (by rw[Z];exact trivial) (.inl rfl) (λb' u N hu=>(Heap.get?_update_other s.heap (Obj.mapSeq f) (Ne.symm N)).trans hu) ⟨_,q⟩ ?_
 exact⟨j,its',_,B,q⟩
def Inv.lnew(I:Inv X pn G H s)(B:Vals ys its)(j:ys.length<=sizeLine) :
  Inv X pn G (upd H s.heap.objs.size (.lst ys)) {s with heap:=s.heap.push {cls:=.type "list",data:=.seq its.toArray},toks:=t'} :=
 I.laid (λ_ _ q=>zac _ q) (zaj _) ⟨j,its,0,B,zad _ rfl⟩
theorem Inv.fresh(I:Inv X pn G H s):H s.heap.objs.size=none:=I.hok.fresh (zaj _)
def Inv.lstM(I:Inv X pn G H s)(j:H l=some (.lst xs)):xs.length<=sizeLine/\∃(its:List Value)(n:Nat),Vals xs its/\xs.length=its.length/\s.heap.get? l=some {cls:=.type "list",data:=.seq its.toArray n}:=by
 obtain⟨z,its,n,r,e⟩:=I.hok l _ j;exact⟨z,its,n,r,r.length,e⟩
def Uy(h:n<=sizeLine):Builtin.List.listTooLong n=false:=by
 unfold Builtin.List.listTooLong;exact decide_eq_false (by omega)
def Wt:V->List V->Hp->VK->Prop:=λx vs H Q=>∃l xs y,x=.ref l/\vs=[y]/\H l=some (.lst xs)/\xs.length<sizeLine/\Q .non (upd H l (.lst (xs++[y])))
def gh:MtM X "list.append" Wt:=by
 intro pn s G H x vs v us Q I B M h;obtain⟨l,xs,y,rfl,rfl,j,Z,q⟩:=h;cases B;obtain⟨u,rfl,N⟩:=M.one;obtain⟨z,its,n,r,hl,e⟩:=I.lstM j;refine call_meets F.slot_list_append ⟨_,e,rfl⟩ F.entry_list_append (F.args_list_append_2 _ _) (PySem.list_append l its.toArray n u (by rw[zap];omega)) ⟨e,?_⟩
 refine⟨.non,_,I.lset (its':=its++[u]) j e (by simp) (r.append (.cons N .nil)) ?_,rfl,q⟩
 rw[zLa,List.length_singleton];omega
def Za:V->List V->Hp->VK->Prop:=λx vs H Q=>∃l b xs zs,x=.ref l/\vs=[.ref b]/\H l=some (.lst xs)/\H b=some (.lst zs)/\xs.length+zs.length<=sizeLine/\Q .non (upd H l (.lst (xs++zs)))
def gf:MtM X "list.extend" Za:=by
 intro pn s G H x vs v us Q I N Z h;obtain⟨l,b,xs,zs,rfl,rfl,M,hB,hz,q⟩:=h;cases N;obtain⟨u,rfl,ru⟩:=Z.one;cases ru;obtain⟨z,its,n,r,hl,e⟩:=I.lstM M;obtain⟨z2,j,n2,r2,a0,e2⟩:=I.lstM hB;have hsz:its.toArray.size+j.toArray.size<=sizeLine:=by rw[zap,zap];omega
 have B:¬ (!its.toArray.isEmpty&&Builtin.List.listTooLong (its.toArray.size+j.toArray.size))=true:=by
  rw[Uy hsz,Bool.and_false];exact Bool.false_ne_true
 refine call_meets F.slot_list_extend ⟨_,e,rfl⟩ F.entry_list_extend (F.args_list_extend_2 _ _)
  (AutoSeq1.list_extend_list_list_0 l its.toArray n b j.toArray n2 B (by rw[zap];omega) (by omega)) ⟨e,e2,?_⟩
 refine⟨.non,_,I.lset (its':=its++j) M e (by simp) (r.append r2) ?_,rfl,q⟩
 rw[zLa];omega
def rPop:V->List V->Hp->VK->Prop:=λx vs H Q=>∃l xs y,x=.ref l/\vs=[]/\H l=some (.lst xs)/\xs[xs.length-1]?=some y/\Q y (upd H l (.lst xs.dropLast))
def Jh:MtM X "list.pop" rPop:=by
 intro pn s G H x vs v us Q I N Z h;obtain⟨l,xs,y,rfl,rfl,M,hy,q⟩:=h;cases N;have B:=Z.zero;subst B;obtain⟨z,its,n,r,hl,e⟩:=I.lstM M;obtain⟨u,hu,ru⟩:=r.get hy;have j:its.toArray[its.toArray.size-1]?=some u:=by
  show its.toArray[its.length-1]?=some u;rw[<- Array.getElem?_toList,<- hl];exact hu
 refine call_meets F.slot_list_pop ⟨_,e,rfl⟩ F.entry_list_pop (F.args_list_pop_1 _) (MeetsSeq.list_pop_last l its.toArray n u j (by rw[zap];omega)) ⟨e,?_⟩
 refine⟨y,_,I.lset (its':=its.dropLast) M e ?_ r.dropLast ?_,ru,q⟩
 ·show its.toArray.eraseIdxIfInBounds (its.toArray.size-1)=its.dropLast.toArray;rw[zap,List.eraseIdxIfInBounds_toArray,Ri]
 rw[List.length_dropLast];omega
def rCat:R2:=λx y H Q=>∃l b xs zs,x=.ref l/\y=.ref b/\H l=some (.lst xs)/\H b=some (.lst zs)/\xs.length+zs.length<=sizeLine/\∀p,H p=none->Q (.ref p) (upd H p (.lst (xs++zs)))
def Ba:OpR X (binaryOp .Add) rCat:=by
 intro pn s G H x y v u Q I M B h;obtain⟨l,b,xs,zs,rfl,rfl,Z,hB,hz,q⟩:=h;cases M;cases B;obtain⟨z,its,n,r,hl,e⟩:=I.lstM Z;obtain⟨z2,j,n2,r2,N,e2⟩:=I.lstM hB;refine PySem.P.add_list e e2 ?_ (by rw[zap,zap];omega)
 have ea:its.toArray++j.toArray=(its++j).toArray:=by simp
 rw[ea];exact⟨.ref _,_,I.lnew (t':=s.toks) (r.append r2) (by rw[zLa];omega),rfl,q _ I.fresh⟩
def rRep:R2:=λx y H Q=>∃l k xs,x=.ref l/\y=.int k/\H l=some (.lst xs)/\-(2 ^ 63)<=k/\k<2 ^ 63/\xs.length*k.toNat<=sizeLine /\
 ∀p,H p=none->Q (.ref p) (upd H p (.lst (List.replicate k.toNat xs).flatten))
def E3{α:Type}(xs:List α)(k:Nat):(List.replicate k xs).flatten.length=k*xs.length:=by
 induction k with
 |zero=>simp
 |succ k ih=>rw[List.replicate_succ,List.flatten_cons,zLa,ih,Nat.succ_mul,Nat.add_comm]
def Cz:OpR X (binaryOp .Mult) rRep:=by
 intro pn s G H x y v u Q I rx ry h;obtain⟨l,k,xs,rfl,rfl,hH,h1,h2,hz,q⟩:=h;cases rx;obtain⟨t,rfl⟩:=ry;obtain⟨z,its,n,r,hl,e⟩:=I.lstM hH;have M:its.toArray.size*k.toNat<=sizeLine:=by rw[zap,<- hl];exact hz
 have Z:¬ its.toArray.size*k.toNat > (2 ^ 63-1) / 8:=by
  have:(sizeLine:Nat)<=(2 ^ 63-1) / 8:=by decide
  omega
 have N:¬ (!Builtin.List.listFitsIndex k)=true:=by
  rw[fitsIndex_both h1 h2];exact Bool.false_ne_true
 have j:¬ Builtin.List.listTooLong (its.toArray.size*k.toNat)=true:=by
  rw[Uy M];exact Bool.false_ne_true
 have B:List.foldl (λx1 x2=>x1++x2) #[] (List.replicate (if its.toArray.isEmpty=true then 0 else k.toNat) its.toArray)=(List.replicate k.toNat its).flatten.toArray:=by
  have f0:∀m:Nat,List.foldl (λx1 x2=>x1++x2) #[] (List.replicate m its.toArray)=(List.replicate m its).flatten.toArray:=λm=>by
   have:=Xi its m [];rw[List.nil_append]at this;exact this
  rw[f0];cases its with
  |nil=>simp
  |cons a r'=>rw[if_neg (by simp)]
 refine wpAny_binaryOp_repeat_ref (T:="list") (U:="int") (by decide) ⟨_,e,rfl⟩ (λs'=>typeIs_int s' k t) noFill_list_mul F.fills_int_mul F.slot_int_rmul repeat_list F.slot_int_index.lookup
  (call_meets F.slot_int_rmul (typeIs_int s k t) F.entry_int_rmul (F.args_int_rmul_2 _ _) (int___rmul___int_list k t l its.toArray n)
   ⟨e,rfl,⟨_,e,rfl⟩,call_meets F.slot_list_mul ⟨_,e,rfl⟩ F.entry_list_mul (F.args_list_mul_2 _ _) (AutoListH.list___mul___list_int_3 l its.toArray n k t N Z j) ⟨e,?_⟩⟩)
 rw[B];exact⟨.ref _,_,I.lnew (t':=s.toks) (r.rep k.toNat) (by rw[E3,Nat.mul_comm];exact hz),rfl,q _ I.fresh⟩
section
open PySem PySem.W PySem.Calls PyProof.Rows
def gy{P:Params}:∀(ns:List Int)(vs:List Value),WellAll P h vs (ns.map WData.int)->IntsAre vs ns:=by
 intro ns
 induction ns with
 |nil =>
  intro vs w;rw[List.map_nil]at w;cases w;exact .nil
 |cons n ns ih =>
  intro vs w;rw[List.map_cons]at w;cases w with
  |cons a b =>
   cases a
   exact .cons _ _ (ih _ b)
def Qh{l:OpenLaw}{n:Nat}(hn:l.most=some n){P:Params}(j:l.row.toRowW.claim.pre args=true)(N:WellAll P h vals args) :
  ∃a vs ns,vals=[Value.ref a]/\args=[WData.list (ns.map WData.int)]/\h.get? a=some {cls:=.type "list",data:=.seq vs.toArray}/\IntsAre vs ns/\ns.length<=n:=by
 have Z:WShape.hasAll [] args [.list .int]=true:=(pre_splitW j).1;have hc:l.pre.holds [] {args:=args}=true:=(pre_splitW j).2;obtain⟨d,r,rfl,h1,h2⟩:=hasAllW_cons Z;obtain rfl:=hasAllW_nil h2;obtain⟨xs,rfl,h3⟩:=hasW_list h1;obtain⟨ns,rfl⟩:=items_int h3;have B:ns.length<=n:=by
  unfold OpenLaw.pre at hc;have M:(WTm.not (.lt (.lit (.int (n:Int))) (.len (.arg 0)))).holds [] {args:=[.list (ns.map .int)]}=true:=by
   have M:=(holds_andW hc).1;rw[hn]at M;exact M
  have I:=condW_of M (w_not (w_lt w_lit (w_len_list (w_arg rfl))));rw[zLm]at I;refine Nat.le_of_not_lt λq=>?_;have q':(n:Int)<((ns.length:Nat):Int):=by omega
  first
   |(rw[decide_eq_true q']at I;exact absurd I (by decide))
   |(simp at I;omega)
 cases N with
 |cons w1 w2 =>
  cases w2
  cases w1 with
  |list ho hall=>exact⟨_,_,ns,rfl,rfl,ho,gy ns _ hall,B⟩
def Qv(l:OpenLaw)(args:List WData):l.row.toRowW.claim.post args (.bool true) args=true :=
 postW_of (r:=l.row.toRowW) (X:=(true==true))
  (show WShape.has [] (.bool true) .bool=true by first|rfl|decide|simp[WShape.has,WShape.arms,WShape.armsAll])
  (show(WTm.eq .res (.lit (.bool true))).value [] {args:=args,res:=some (.bool true),after:=args}=some (.bool (true==true)) from w_eq_bool (w_res rfl) w_lit) rfl
def attach_call{l:OpenLaw}{n:Nat}{XP:(Str->Option Value)->Heap->Prop}{YP:World->Heap->Prop}{d:DefRec}(hn:l.most=some n)(a3:d.params.defaults=[])(call:∀ (w:World) (B j:Shared) (mg mb:Str->Option Value) (fa:Addr) (o:Obj) (pm cd M:Value) (a:Addr) (vs:List Value) (ns:List Int),
   Ground q loose [] XP w B mg mb j.heap->YP w j.heap ->
   j.heap.get? fa=some o->o.data=.func (docDef d.name d.params d.body d.scope pm cd M)->j.heap.CodeRec cd d.name->mg d.name=some (.ref fa) ->
   j.heap.get? a=some {cls:=.type "list",data:=.seq vs.toArray}->IntsAre vs ns->ns.length<=n->j.gens=#[] ->
   codeAny (model l.prog w) callerA (.call (.ref fa) ⟨[.ref a],[]⟩) (λr s'=>r=.ok (.ret (.bool true))/\OldK j.heap s'.heap/\s'.os=j.os/\AllBare s'.gens) j) :
  WalkO q loose XP YP l.row.toRowW d [] (λf vs=>PySem.call f vs):=by
 intro w B j mg mb G Y fa o pm cd M dV kV ho hd a4 hD a2 hg a7 a5 as N a6 a8 a1 a9;obtain rfl:dV=.none:=Dflts.none hD a3;obtain rfl:kV=.none:=Dflts.noKw hD;obtain⟨a,vs,ns,rfl,rfl,Z,I,a0⟩:=Qh hn N a1;refine enter_call (codeAny_mono (call w B j mg mb fa o pm cd M a vs ns G Y ho (fd_plain hd) a4 a2 Z I a0 hg) λr s' hq=>?_);obtain⟨rfl,h2,h3,h4⟩:=hq;exact⟨.inl ⟨.bool true,.bool true,[],rfl,λ_=>rfl,.bool true,Qv l _,λ_=>⟨List.Pairwise.nil,λ_ hm=>(nomatch hm)⟩⟩,h2,h3,h4⟩
end
theorem jm:∀{vs:List Value}{ns:List Int},IntsAre vs ns->Vals (ns.map V.int) vs
 |_,_,.nil=>.nil
 |_,_,.cons n t h=>.cons ⟨t,rfl⟩ (jm h)
def Only(H:Hp):Prop:=∀b,H b=none\/∃o xs,H b=some (.frz o (.lst xs))
def L5{K:W.Frag}{mg mb:Str->Option Value}{k:Nat}{fa a:Addr}{x:Str}{sp:Sp}{s₁:Shared}{vs:List Value}(KX:K.In s₁.heap)(a3:s₁.heap.Ns mainGlobals mg)(B:s₁.heap.Ns builtinsNs mb)(a9:∀ x:Str,x≠"__name__"->mb x=bootBuiltins x)(a4:s₁.heap.NoLimit)(hg:s₁.gens=#[])(ha:s₁.heap.get? a=some {cls:=.type "list",data:=.seq vs.toArray})(hi:IntsAre vs ns)(hl:ns.length<=sizeLine)(hr:Room k callerA)(F:∀ base:Heap,K.In base->base.Ns mainGlobals mg->FnOk P w K mg base CX k fa fd [x] sp)(N:∀ (s:Shared) (u:Value),BindsTo s fd ⟨[u],[]⟩ [(x,u)])(a8:∀ H:Hp,Only H->SqL K H a (ns.map V.int)->sp [.ref a] H (λv _=>v=.bl true) λ_ _ _=>False)(b0:∀ H e s',CX [] H s₁ (λ_ _ _=>False) e s'->False) :
  codeAny (model P w) callerA (.call (.ref fa) ⟨[.ref a],[]⟩) (λr s'=>r=.ok (.ret (.bool true))/\OldK s₁.heap s'.heap/\s'.os=s₁.os/\AllBare s'.gens) s₁:=by
 have rv:=jm hi;have a0:=hi.length;have M:∀H:Hp,Only H->SqL K H a (ns.map V.int)->HOk P w H s₁.heap->(∀b,H b≠none->b=a)->(H a≠none->K.lookup a=none) ->
   codeAny (model P w) callerA (.call (.ref fa) ⟨[.ref a],[]⟩) (λr s'=>r=.ok (.ret (.bool true))/\OldK s₁.heap s'.heap/\s'.os=s₁.os/\AllBare s'.gens) s₁:=by
  intro H hO hS a2 hA hK;have j:∀{b:Addr}{o:Obj},s₁.heap.get? b=some o->H b=none->(hidT s₁.heap H).get? b=some o:=λe n=>Le e n;have a7:∀{b:Addr}{o:Obj}{es:Array DictEntry}{ep:Nat},s₁.heap.get? b=some o->o.data=.dict es ep->H b=none:=λ{b o es ep} e d=>by
   cases q:H b with
   |none=>rfl
   |some u =>
    have e':b=a:=hA b (by rw[q];simp)
    subst e';rw[ha]at e;cases e;have d':Data.seq vs.toArray _=Data.dict es ep:=d;cases d'
  have I:∀{b:Addr}{m:Str->Option Value},s₁.heap.Ns b m->(hidT s₁.heap H).Ns b m:=λ{b m} ⟨o,es,ep,e,d,r⟩=>⟨o,es,ep,j e (a7 e d),d,r⟩;have a5:K.In (hidT s₁.heap H):=λb o e=>j (KX b o e) (by
   cases q:H b with
   |none=>rfl
   |some u =>
    have e':b=a:=hA b (by rw[q];simp)
    subst e';rw[hK (by rw[q];simp)]at e;cases e)
  have hM:Mod K mg (hidT s₁.heap H):=⟨a5,I a3,⟨mb,I B,a9⟩,let ⟨mc,h1,h2⟩:=a4;⟨mc,I h1,h2⟩⟩
  have e0:Env0 P w K mg (hidT s₁.heap H) callerA [] s₁ H:=⟨rfl,hM,λb o e=>Fu e,Nat.le_of_eq (O3 _ _),trivial,λb B=>absurd (show b∈([]:List Addr) from B) (by simp),a2,.of_eq hg⟩
  refine codeAny_mono ((F _ a5 (I a3)).run callerA [] s₁ H ⟨[.ref a],[]⟩ [.ref a] [.ref a] _ _ hr e0 (N s₁ (.ref a)) (.cons rfl .nil) (a8 H hO hS)) λr s' h=>?_;cases r with
  |error e=>exact(b0 H e s' h).elim
  |ok fl =>
   cases fl with
   |next=>exact False.elim h
   |brk=>exact False.elim h
   |cont=>exact False.elim h
   |ret u =>
    obtain⟨v,H',os,a6,un,a1,r',q⟩:=h;have q':v=.bl true:=q;subst q';obtain rfl:u=Value.bool true:=r';refine⟨rfl,OldK.of_keep λb o e=>?_,os,a6⟩;cases q:H b with
    |none=>exact un.keep b o e q (by intro z;exact absurd (show b∈([]:List Addr) from z) (by simp)) (by simp)
    |some u =>
     rcases hO b with z|⟨ob,xs,z⟩
     ·rw[q]at z;cases z
     have z2:=un.frzs b ob _ z;obtain⟨e1,_⟩:=a2 b _ z;obtain⟨e2,_⟩:=a1 b _ z2;rw[e]at e1;cases e1;exact e2
 cases hk:K.lookup a with
 |some o =>
  have e:=KX a o hk;rw[ha]at e;cases e;refine M (λ_=>none) (λ_=>.inl rfl) (.inr ⟨_,vs.toArray,_,hk,rfl,rfl,rfl,by rw[zap,a0];exact hl,by simpa using rv⟩) (λb u z=>by have Z:(none:Option HO)=some u:=z;cases Z) (λb z=>absurd rfl z) λz=>absurd rfl z
 |none =>
  refine M (λb=>if b=a then some (.frz {cls:=.type "list",data:=.seq vs.toArray} (.lst (ns.map V.int))) else none) (λb=>?_) (.inl (.inr ⟨{cls:=.type "list",data:=.seq vs.toArray},if_pos rfl⟩)) (λb u z=>?_) (λb z=>?_) λ_=>hk
  ·by_cases B:b=a
   ·exact .inr ⟨_,_,if_pos B⟩
   exact .inl (if_neg B)
  ·by_cases B:b=a
   ·have Z:=(if_pos B).symm.trans z;cases Z;subst B;exact⟨ha,by rw[zLm];exact hl,vs,_,rv,ha⟩
   have Z:=(if_neg B).symm.trans z;cases Z
  by_cases B:b=a
  ·exact B
  exact absurd (if_neg B) z
abbrev KOf{K:W.Frag}(_:K.In h):W.Frag:=K
def walk_of{l:W.OpenLaw}{n k:Nat}{XP:(Str->Option Value)->Heap->Prop}{YP:World->Heap->Prop}{d:DefRec}{K:Params->W.Frag}{CX:World->CXT}{sp:World->Sp}{x:Str}(hn:l.most=some n)(a0:n<=sizeLine)(a2:d.params.defaults=[])(hr:Room k callerA)(hY:∀ (w:World) (h:Heap),YP w h->(K w.params).In h)(F:∀ (w:World) (mg:Str->Option Value) (N:Addr) (h:Heap),(K w.params).In h->h.Ns mainGlobals mg->mg d.name=some (.ref N) ->
   ∃ fd:FuncData,(∀ (s:Shared) (u:Value),BindsTo s fd ⟨[u],[]⟩ [(x,u)]) /\
    ∀ base:Heap,(K w.params).In base->base.Ns mainGlobals mg->FnOk l.prog w (K w.params) mg base (CX w) k N fd [x] (sp w))(Z:∀ (w:World) (H:Hp) (a:Addr) (ns:List Int),ns.length<=n->Only H->SqL (K w.params) H a (ns.map V.int)->sp w [.ref a] H (λv _=>v=.bl true) λ_ _ _=>False)(a3:∀ (w:World) (H:Hp) (s:Shared) (e:Value) (s':Shared),CX w [] H s (λ_ _ _=>False) e s'->False) :
  W.WalkO q loose XP YP l.row.toRowW d [] (λf vs=>PySem.call f vs):=by
 refine ZZ.attach_call hn a2 λw a4 I mg mb N o pm cd a6 a vs ns G Y ho hd a5 a1 M B j hg=>?_;have KX:=hY w _ Y;obtain⟨fd,hb,hF⟩:=F w mg N _ KX G.T.g a1;exact L5 KX G.T.g G.T.b G.T.builtins G.T.nolimit hg M B (zak j a0) hr hF hb (λH hO hS=>Z w H a ns j hO hS) λH e s'=>a3 w H I e s'
abbrev CX0:CXT:=λ_ _ _ _ _ _=>False
abbrev E0:XK:=λ_ _ _=>False
def Ww:dg CX0 X E0:=λ_ _ _ _ _ _ _ h=>h.elim
structure Fun(K:W.Frag)(x qual:Str)(st:Stmt)(f:Addr)(fd:FuncData):Prop where
 ex:∃(oc:Value)(od:Option Addr)(kV doc pm:Value)(an:Option Addr)(qZ ct:Value)(osl:Array (Option Value)),
  fd=W.fnOf x qual (wu st) (yi st) (zb st) .none kV doc pm an qZ ct/\K.lookup f=some ⟨oc,od,.func fd,osl⟩/\W.codeIn K qZ qual=true
 kp:W.keepIn K (.ref f)=true
variable{mg:Str->Option Value}{base:Heap}
def Fun.ok{x j:Str}{st:Stmt}{f:Addr}{fd:FuncData}{N ps:List Str}{k:Nat}{sp:Sp}(F:Fun K x j st f fd)(S:zj N ps (zb st))(B:∀ vs H Q E,sp vs H Q E->vs.length=ps.length)(Z:∀ (qZ:Value) (A:Around) (outer:List Env) (s:Shared) (H:Hp) (vs:List V) (Q:VK) (E:XK),Room k (A.deeper (envOfC j (zb st) s.heap.objs.size f qZ))->sp vs H Q E ->
   ∃ t,PSs (cxOf CX0 P w K mg base N j (zb st) f qZ A outer s H E).nox (yi st) t/\t {nx:=λ_ H'=>Q .non H',rt:=Q} (start N vs) H):FnOk P w K mg base CX0 (k+1) f fd ps sp:=by
 obtain⟨oc,od,kV,a1,pm,an,qZ,ct,a0,rfl,lk,M⟩:=F.ex;refine Al lk M S B λA outer s H vs Q E hr I=>?_;obtain⟨t,h,q⟩:=Z qZ A outer s H vs Q E hr I;exact⟨t,h.nox,q⟩
def Fun.binds{x j:Str}{st:Stmt}{f:Addr}{fd:FuncData}{ps:List Str}(F:Fun K x j st f fd)(h:∀ (kV q B:Value) (M:Option Addr) (qZ I:Value) (us:List Value),us.length=ps.length->bindArgs (W.fnOf x j (wu st) (yi st) (zb st) .none kV q B M qZ I) ⟨us,[]⟩=pure (ps.zip us)):u0 K fd ps []:=by
 obtain⟨oc,od,kV,q,B,M,qZ,I,N,rfl,lk,Z⟩:=F.ex;exact .all (h kV q B M qZ I)
def Js{x j:Str}{st:Stmt}{f:Addr}{oc:Value}{Z N:Option Addr}{B:Array (Option Value)}{kV q I qZ M:Value}(l:K.lookup f=some ⟨oc,Z,.func (W.fnOf x j (wu st) (yi st) (zb st) .none kV q I N qZ M),B⟩)(c:W.codeIn K qZ j=true)(k:W.keepIn K (.ref f)=true):Fun K x j st f (W.fnOf x j (wu st) (yi st) (zb st) .none kV q I N qZ M):=⟨⟨oc,Z,kV,q,I,N,qZ,M,B,rfl,l,c⟩,k⟩
def iteF{A B:Prop}(h:B):if false=true then A else B:=by
 rw[if_neg Bool.false_ne_true];exact h
def iteT{A B:Prop}(h:A):if true=true then A else B:=by
 rw[if_pos rfl];exact h
def Same(H H':Hp):Prop:=∀b o,H b=some o->H' b=some o
def Same.refl(H:Hp):Same H H:=λ_ _ h=>h
def Same.trans(a:Same H H1)(b:Same H1 H2):Same H H2:=λc o h=>b c o (a c o h)
def Same.free(e:Same H H')(h:H' l=Option.none):H l=Option.none:=by
 cases q:H l with
 |none=>rfl
 |some o =>
  rw[e l o q]at h;cases h
theorem O9{α j:Type}{f:α->j->Sem (ForInStep j)}(R:List α->j->Prop)(h:∀ x l c,R (x::l) c->∃ c',f x c=pure (.yield c')/\R l c') :
  ∀(l:List α)(c:j),R l c->∃c',forIn l c f=pure c'/\R [] c'
 |[],c,r=>⟨c,rfl,r⟩
 |x::l,c,r=>by
  obtain⟨I,e,q⟩:=h x l c r;obtain⟨B,e2,r2⟩:=O9 R h l I q;exact⟨B,by rw[List.forIn_cons,e,pure_bind];exact e2,r2⟩
def Vt{x:Str}{c:Addr}(h:env.cells.lookup x=some c):cellOf env x=pure c:=by
 unfold cellOf;rw[h]
def bt(h:∀ y∈scope.names,y.2=.free->∃ c,env.cells.lookup y.1=some c) :
  ∃cl,closureFor scope env=pure cl/\(∀x c,cl.lookup x=some c->env.cells.lookup x=some c)/\∀y∈scope.names,y.2=.free->∃c,cl.lookup y.1=some c:=by
 let f:Str×NameKind->List (Str×Addr)->Sem (ForInStep (List (Str×Addr))):=λx r=>match x with
  |(name,kind)=>if (kind==.free)=true then(do let a <- cellOf env name;pure (.yield ((name,a)::r))) else pure (.yield r)
 have q:=O9 (f:=f) (λI cs=>(∀x c,cs.lookup x=some c->env.cells.lookup x=some c)/\(∀y∈scope.names,y.2=.free->(∃c,cs.lookup y.1=some c)\/y∈I)/\∀y∈I,y∈scope.names) ?_ scope.names []
  ⟨λx c e=>(by cases e),λy j _=>.inr j,λ_ j=>j⟩
 ·obtain⟨cl,e,M,p2,_⟩:=q;refine⟨cl,?_,M,λy j B=>(p2 y j B).elim (λz=>z) λz=>(by cases z)⟩
  have e1:closureFor scope env=(forIn scope.names [] f >>= λr=>pure r):=rfl;rw[e1,e,pure_bind]
 rintro⟨n,k⟩ l cs ⟨M,p2,p3⟩;have hm:=p3 _ (zao ..);by_cases hk:k=.free
 ·subst hk;obtain⟨c,Z⟩:=h _ hm rfl;refine⟨(n,c)::cs,?_,λx N e=>?_,λy j B=>?_,λy j=>p3 y (zal _ j)⟩
  ·show(if ((NameKind.free==NameKind.free)=true) then _ else _)=_
   rw[if_pos (by decide),Vt Z,pure_bind]
  ·rw[List.lookup_cons]at e;cases hx:x==n with
   |true =>
    rw[hx]at e;have ex:x=n:=eq_of_beq hx;subst ex;cases e;exact Z
   |false =>
    rw[hx]at e;exact M x N e
  rcases p2 y j B with⟨N,e⟩|z
  ·refine .inl ?_;rw[List.lookup_cons];cases hx:y.1==n with
   |true=>exact⟨c,rfl⟩
   |false=>exact⟨N,e⟩
  rcases zam.mp z with rfl|z
  ·exact .inl ⟨c,by rw[List.lookup_cons];simp⟩
  exact .inr z
 refine⟨cs,?_,M,λy j B=>?_,λy j=>p3 y (zal _ j)⟩
 ·show(if ((k==NameKind.free)=true) then _ else _)=_
  rw[if_neg (by simpa using hk)]
 rcases p2 y j B with z|z
 ·exact .inl z
 rcases zam.mp z with rfl|z
 ·exact absurd B hk
 exact .inr z
theorem vq{env:Env}:∀{names:List (Str×NameKind)}{x:Str},names.lookup x=some .free ->
  (names.map λ(n,k)=>if (k==NameKind.free&&env.scope.kind==.function&&env.kindOf n==some .cell) then(n,NameKind.cell) else(n,k)).lookup x=some .cell \/
  (names.map λ(n,k)=>if (k==NameKind.free&&env.scope.kind==.function&&env.kindOf n==some .cell) then(n,NameKind.cell) else(n,k)).lookup x=some .free
 |[],_,h=>by cases h
 |(n,k)::r,x,h=>by
  have j:=@vq env r x;rw[List.map_cons];cases hx:x==n with
  |true =>
   rw[List.lookup_cons,hx]at h;cases h;by_cases hc:(NameKind.free==NameKind.free&&env.scope.kind==.function&&env.kindOf n==some .cell)=true
   ·refine .inl ?_;show List.lookup x ((if (NameKind.free==NameKind.free&&env.scope.kind==.function&&env.kindOf n==some .cell)=true then(n,NameKind.cell) else(n,NameKind.free))::_)=_
    rw[if_pos hc,List.lookup_cons,hx]
   refine .inr ?_;show List.lookup x ((if (NameKind.free==NameKind.free&&env.scope.kind==.function&&env.kindOf n==some .cell)=true then(n,NameKind.cell) else(n,NameKind.free))::_)=_
   rw[if_neg hc,List.lookup_cons,hx]
  |false =>
   rw[List.lookup_cons,hx]at h;have e:∀(b:Bool)(l:List (Str×NameKind)),List.lookup x ((if b=true then(n,NameKind.cell) else(n,k))::l)=l.lookup x:=λb l=>by
    cases b with
    |true=>rw[if_pos rfl,List.lookup_cons,hx]
    |false=>rw[if_neg Bool.false_ne_true,List.lookup_cons,hx]
   rcases j h with q|q
   ·exact .inl ((e _ _).trans q)
   exact .inr ((e _ _).trans q)
def kn(B:∀ y∈scope.names,y.2≠.cell){x:Str}(h:(relabel scope env).names.lookup x=some k)(N:k=.cell\/k=.free) :
  ∃y∈scope.names,y.1=x/\y.2=.free:=by
 have M:=PySem.mem_of_lookup h;obtain⟨⟨n,j⟩,I,e⟩:=zah.mp M;refine⟨(n,j),I,?_⟩;have q:(if (j==NameKind.free&&env.scope.kind==.function&&env.kindOf n==some .cell)=true then(n,NameKind.cell) else(n,j))=(x,k):=e
 by_cases hc:(j==NameKind.free&&env.scope.kind==.function&&env.kindOf n==some .cell)=true
 ·rw[if_pos hc]at q;cases q;refine⟨rfl,?_⟩;rw[Bool.and_eq_true,Bool.and_eq_true]at hc;exact eq_of_beq hc.1.1
 rw[if_neg hc]at q;cases q;rcases N with rfl|rfl
 ·exact absurd rfl (B _ I)
 exact⟨rfl,rfl⟩
abbrev x8(X:Cx)(N':List Str)(scope:Scope)(cl:List (Str×Addr))(C:Addr)(fp:List Addr)(s₀:Shared)(H_:Hp):Cx :=
 {X with N:=N',s₀:=s₀,H_:=H_,env:=compEnvC scope cl C X.env,outer:=X.stack,ex:=fp,fn:=λ_=>false,pn:=[],xe:=λ_ _=>False}
structure y8(psc scope:Scope)(T F:List Str):Prop where
 kind:scope.kind=.function
 nocell:∀y∈scope.names,y.2≠.cell
 loc:∀y∈scope.names,y.2=.local->scope.names.lookup y.1=some .local
 fr:∀y∈scope.names,y.2=.free->psc.names.lookup y.1=some .cell\/psc.names.lookup y.1=some .free
 nd:(T++F).Nodup
 ffree:∀x∈F,scope.names.lookup x=some .free
section
variable{scope:Scope}{T F:List Str}{cl:List (Str×Addr)}{fp:List Addr}{js:List Nat}
def d6(I:Inv X pn G H s)(S:y8 X.env.scope scope T F):∀y∈scope.names,y.2=.free->∃c,X.env.cells.lookup y.1=some c:=λy j q=>I.ok.has y.1 (S.fr y j q)
def Fp(I:Inv X pn G H s)(S:y8 X.env.scope scope T F)(N:∀ x c,cl.lookup x=some c->X.env.cells.lookup x=some c)(p2:∀ y∈scope.names,y.2=.free->∃ c,cl.lookup y.1=some c)(hC:s.heap.objs.size<=C)(M:∀ b∈fp,FpOk X pn H b)(a0:∀ b∈fp,b<s.heap.objs.size) :
  (x8 X (T++F) scope cl C fp s H).Ok where
 mod:=I.ok.mod
 kind:=S.kind
 glob:=I.ok.glob
 blt:=I.ok.blt
 above:=hC
 inj:=λx y c j Z=>I.ok.inj x y c (N x c j) (N y c Z)
 has:=λx j=>by
  have q:∃y∈scope.names,y.1=x/\y.2=.free:=by
   rcases j with j|j
   ·exact kn (env:=X.env) S.nocell (show(relabel scope X.env).names.lookup x=some .cell from j) (.inl rfl)
   exact kn (env:=X.env) S.nocell (show(relabel scope X.env).names.lookup x=some .free from j) (.inr rfl)
  obtain⟨y,Z,rfl,M⟩:=q;exact p2 y Z M
 cab:=λx c h=>by cases h
 hd:=I.ok.hd
 frames:=I.ok.frames
 stk:=.inl rfl
 exf:=λb B=>⟨Nat.ne_of_lt (Nat.lt_of_lt_of_le (a0 b B) hC),λx c e=>(M b B).2.2.2.2.1 x c (N x c e)⟩
 bs:=I.bs
 bsz:=zak I.ok.bsz I.sz
 noex:=λb o e B=>by
  rcases(M b B).2.2.2.1 with z|z
  ·exact I.ok.noex b o e z
  exact absurd (Nat.lt_of_lt_of_le (zae (I.ok.bs b o e).1) z) (Nat.lt_irrefl _)
 exfs:=λb B z=>by
  rcases zam.mp (I.stkSub b z) with q|q
  ·exact(M b B).2.1 q
  exact(M b B).2.2.1 q
 funs:=I.stack
 frf:=I.stkFree
def st0(T:List Str)(js:List Nat)(G:St):St:=List.replicate T.length none++js.map λj=>(G[j]?).join
theorem qy{α j:Type}{R:α->j->Prop}:∀{l:List α}{r:List j}{i:Nat}{b:j},Paired R l r->r[i]?=some b->∃a,l[i]?=some a/\R a b
 |_,_,_,_,.nil,e=>by simp at e
 |_,_,0,_,.cons h _,e=>by simp at e;subst e;exact⟨_,rfl,h⟩
 |_,_,i+1,b,.cons _ t,e=>by
  obtain⟨a,B,q⟩:=qy (i:=i) (b:=b) t (by simpa using e)
  exact⟨a,by simpa using B,q⟩
def Lc(I:Inv X pn G H s)(S:y8 X.env.scope scope T F)(p1:∀ x c,cl.lookup x=some c->X.env.cells.lookup x=some c)(p2:∀ y∈scope.names,y.2=.free->∃ c,cl.lookup y.1=some c)(a3:Paired (λx j=>X.N[j]?=some x) F js)(hC:s.heap.objs.size<=C)(hf:∀ b∈fp,FpOk X pn H b)(a7:∀ b∈fp,b<s.heap.objs.size)(hn:h₁.Ns C m)(hk:∀ b o,s.heap.get? b=some o->h₁.get? b=some o):Inv (x8 X (T++F) scope cl C fp s H) [] (st0 T js G) H {s with heap:=h₁,toks:=t'}:=by
 refine⟨Fp I S p1 p2 hC hf a7,rfl,I.bare,Un.kept hk,⟨m,hn,λi x v h1 h2 h3=>?_⟩,λx c e=>?_,I.hok.fresh hC,λx c e=>I.freeC x c (p1 x c e),λp hp=>(by cases hp),I.hok.kept hk,?_⟩
 ·have hi:T.length<=i:=by
   rcases Nat.lt_or_ge i T.length with z|z
   ·exfalso;unfold st0 at h2;rw[List.getElem?_append_left (by simpa using z),List.getElem?_replicate]at h2
    split at h2 <;> cases h2
   exact z
  unfold st0 at h2;rw[List.getElem?_append_right (by simpa using hi),zai,List.length_replicate]at h2
  cases ej:js[i-T.length]? with
  |none=>rw[ej]at h2;cases h2
  |some j =>
   rw[ej]at h2;have M:(G[j]?).join=some v:=Option.some.inj h2;obtain⟨x',a2,hX⟩:=qy a3 ej;have a5:(T++F)[i]?=some x:=h1;rw[List.getElem?_append_right hi,a2]at a5;cases a5;have a1:G[j]?=some (some v):=by
    cases e:G[j]? with
    |none=>rw[e]at M;cases M
    |some o=>rw[e]at M;cases M;rfl
   have a6:x∈F:=zan a2;have B:=S.ffree x a6;have Z:=S.fr _ (PySem.mem_of_lookup B) rfl;obtain⟨m0,_,look⟩:=I.loc;obtain⟨u,ru,lk⟩:=look j x v hX a1 (.inr Z);refine⟨u,ru,?_⟩;rcases lk with⟨k,_⟩|⟨_,c,hc,a0⟩
   ·exfalso;have k':X.env.scope.names.lookup x=some .local:=k;rcases Z with z|z
    ·rw[k']at z;cases z
    rw[k']at z;cases z
   obtain⟨c',a4⟩:=p2 _ (PySem.mem_of_lookup B) rfl;have e2:=p1 x c' a4;rw[hc]at e2;cases e2;refine .inr ⟨?_,c,a4,a0.keeps hk⟩;exact vq (env:=X.env) B
 ·obtain⟨v,q⟩:=I.cell x c (p1 x c e);exact⟨v,q.keeps hk⟩
 show(st0 T js G).length=(T++F).length;unfold st0;rw[zLa,zLa,List.length_replicate,zLm,(Paired.length a3)]
def Ld(I:Inv X pn G H s)(J:Inv (x8 X N' scope cl C fp s H) [] σ' H' s')(j:∀ b∈fp,FpOk X pn H b):Inv X pn G H' s' :=
 I.call' (ch:=fp) (show s'.os=s.os from J.os) J.base J.hok J.bare λb q=>⟨(j b q).2.2.2.1,(j b q).2.1,(j b q).2.2.2.2.1,(j b q).2.2.2.2.2⟩
end
section
variable{R:Result->Shared->Prop}
def Rn(I:Nat->Shared->Prop)(a2:∀ n s,I n s->wpAny (model prog w) A (pyNext it) (λr q=>match r with
   |none=>R (.ok .next) q
   | some v=>wpAny (model prog w) A (letOwnedTupleGo target it v) (λ_ Z=>wpAny (model prog w) A (assign target env v) (λ_ N =>
     wpAny (model prog w) A (forIn ifs true λc r=>if r=true then do let ok <- isTrue c env (eval c env);pure (ForInStep.yield ok) else pure (ForInStep.yield r)) (λok j =>
      if ok=true then wpAny (model prog w) A (eval elt env) (λx M=>wpAny (model prog w) A (call (.builtin "list.append") [acc,x]) (λ_ B=>∃ m,m<n/\I m B) (λ_ _=>False) M) (λ_ _=>False) j
      else ∃ m,m<n/\I m j) (λ_ _=>False) N) (λ_ _=>False) Z) (λ_ _=>False) q) (λ_ _=>False) s)(n:Nat)(h:I n s):codeAny (model prog w) A (.compLoop (.ListComp elt [⟨target,iter,ifs,0⟩] scope pos) 0 it acc env) R s:=by
 refine codeAny_loop rfl I (λn s hI=>?_) n h;show wpAny _ A ((compTurn (.ListComp elt [⟨target,iter,ifs,0⟩] scope pos) 0 it acc env).onRaise (λx=>do noteFrame x env;theTreesLotGoes x)) _ _ s
 refine wpAny_noted (wpAny_noRaise ?_);rw[compTurn_list];refine zaa (wpAny_standAt (zaa (thn (a2 n s hI) λr q a1=>?_)));cases r with
 |none=>exact zab a1
 |some v =>
  refine zaa (thn a1 λ_ Z a6=>zaa (thn a6 λ_ N a5=>zaa (thn a5 λok j a0=>?_)));cases ok with
  |false=>exact zab ⟨rfl,a0⟩
  |true=>exact zaa (zaa (thn a0 λx M a4=>zaa (thn a4 λ_ B a3=>zab (zab ⟨rfl,a3⟩))))
end
def PIf(X:Cx)(ifs:List Expr)(t:TT):Prop :=
 ∀(pn:List (Addr×Obj))(s:Shared)(G:St)(H:Hp)(Q:Bool->Hp->Prop),Inv X pn G H s->t G H Q ->
  wpAny (model X.prog X.w) X.A (forIn ifs true λc r=>if r=true then do let ok <- isTrue c X.env (eval c X.env);pure (ForInStep.yield ok) else pure (ForInStep.yield r)) (TP X pn G Q) X.xe s
def tYes:TT:=λ_ H Q=>Q true H
def Gy:PIf X [] tYes:=λ_ _ _ H _ I h=>wpAny_tests_nil ⟨H,I,h⟩
def Gx{c:Expr}(h:PT X c tc):PIf X [c] tc:=λpn s G H Q I q=>wpAny_tests_one (h pn s G H Q I q)
def xv(n:Nat)(G j:St):Prop:=j.length=G.length/\∀i,n<=i->j[i]?=G[i]?
def xv.refl(n:Nat)(G:St):xv n G G:=⟨rfl,λ_ _=>rfl⟩
theorem xv.trans{n:Nat}{a b c:St}(x:xv n a b)(y:xv n b c):xv n a c:=⟨y.1.trans x.1,λi h=>(y.2 i h).trans (x.2 i h)⟩
theorem xv.set{n i:Nat}{G:St}{v:V}(h:i<n):xv n G (G.set i (some v)):=⟨by simp,λj q=>by rw[List.getElem?_set_ne (by omega)]⟩
def We(n:Nat)(g:TG):Prop:=∀v G H Q,g v G H Q->g v G H λj H'=>Q j H'/\xv n G j
def S6(n:Nat)(g:TGs):Prop:=∀vs G H Q,g vs G H Q->g vs G H λj H'=>Q j H'/\xv n G j
def yo(h:i<n):We n (rq i):=λv G H Q q=>⟨q,xv.set h⟩
def Xh:S6 n gNil:=λvs G H Q q=>⟨q.1,q.2,xv.refl n G⟩
def ub(mono:∀ v G H Q Q',(∀ j H',Q j H'->Q' j H')->t v G H Q->t v G H Q')(B:∀ v G H Q Q',(∀ j H',Q j H'->Q' j H')->u v G H Q->u v G H Q')(h1:We n t)(h2:S6 n u):S6 n (dt t u):=λvs G H Q q=>by
 obtain⟨v,r,e,q⟩:=q;refine⟨v,r,e,mono _ _ _ _ _ (λj H' z=>?_) (h1 v G H _ q)⟩;exact B _ _ _ _ _ (λI H2 y=>⟨y.1,z.2.trans y.2⟩) (h2 r j H' Q z.1)
def Xg{K:W.Frag}{n k:Nat}{t:TGs}(h:S6 n t):We n (gTup K k t):=λv G H Q q=>by
 obtain⟨a,xs,e,j,hl,q⟩:=q;exact⟨a,xs,e,j,hl,h xs G H Q q⟩
def w8:∀v G H (Q Q':St->Hp->Prop),(∀σ' H',Q σ' H'->Q' σ' H')->rq i v G H Q->rq i v G H Q':=λ_ _ _ _ _ f q=>f _ _ q
def sv:∀v G H (Q Q':St->Hp->Prop),(∀σ' H',Q σ' H'->Q' σ' H')->gNil v G H Q->gNil v G H Q':=λ_ _ _ _ _ f q=>⟨q.1,f _ _ q.2⟩
def gz(mono:∀ v G H Q Q',(∀ j H',Q j H'->Q' j H')->t v G H Q->t v G H Q')(B:∀ v G H Q Q',(∀ j H',Q j H'->Q' j H')->u v G H Q->u v G H Q') :
  ∀v G H (Q Q':St->Hp->Prop),(∀j H',Q j H'->Q' j H')->dt t u v G H Q->dt t u v G H Q':=λvs G H Q Q' f q=>by
 obtain⟨v,r,e,q⟩:=q;exact⟨v,r,e,mono _ _ _ _ _ (λj H' z=>B _ _ _ _ _ f z) q⟩
def Dj(J:It)(g:TG)(tc:TT)(te:TE)(q:St)(D:Addr)(Z:Hp->Prop)(H:Hp):Prop :=
 ∃W:Nat->Nat->List V->Hp->Prop,(∃m,W 0 m [] H)/\∀i m ys H,W i m ys H->H D=some (.lst ys)/\((J.stop i H/\Z H)\/(J.go i H/\∃N:List V->Hp->Prop,(∀zs H',N zs H'->∃m',m'<m/\W (i+1) m' zs H')/\∀x H',J.yld i H x H' ->
  g x q H' λj H2=>tc j H2 λb I=>if b=true then te j I λy B=>B D=some (.lst ys)/\ys.length<sizeLine/\N (ys++[y]) (upd B D (.lst (ys++[y]))) else N ys I))
def Hj(j:TI)(T:List Str)(js:List Nat)(g:TG)(tc:TT)(te:TE):TE:=λG H Q=>j G H λJ H1=>∀D,H1 D=none->Dj J g tc te (st0 T js G) D (Q (.ref D)) (upd H1 D (.lst []))
section
variable{H2:Hp}{s2:Shared}{scope:Scope}{T F:List Str}{cl:List (Str×Addr)}{fp:List Addr}{js:List Nat}{tg iter elt:Expr}{ifs:List Expr}{g:TG}{tc:TT}{te:TE}{J:It}{it:Addr}{tn:Nat->Heap->Prop}{RR:Value->Addr->Result->Shared->Prop}
def bq(hc:X.calm=true)(S:y8 X.env.scope scope T F)(c4:Paired (λx j=>X.N[j]?=some x) F js)(hg:∀ cl C fp s H,PG (x8 X (T++F) scope cl C fp s H) tg g)(hk:We T.length g)(ht:∀ cl C fp s H,PIf (x8 X (T++F) scope cl C fp s H) ifs tc)(he:∀ cl C fp s H,PE (x8 X (T++F) scope cl C fp s H) elt te)(p1:∀ x c,cl.lookup x=some c->X.env.cells.lookup x=some c)(p2:∀ y∈scope.names,y.2=.free->∃ c,cl.lookup y.1=some c)(I2:Inv X pn G H2 s2)(Tn:Turn X.prog X.w X.K tg J fp it tn)(b8:tn 0 s2.heap)(f2:∀ b∈fp,FpOk X pn H2 b)(Z:Addr->Hp->Prop)(b9:∀ D,H2 D=none->Dj J g tc te (st0 T js G) D (Z D) (upd H2 D (.lst [])))(c5:∀ D C H' s' m',s'.heap.Ns C m'->FpOk X pn H' C->Inv X pn G H' s'->Z D H'->RR (.ref D) C (.ok .next) s') :
  wpAny (model X.prog X.w) X.A (newList []) (λc1 b3=>wpAny (model X.prog X.w) X.A (newFunctionEnv scope X.env.globals cl [] X.env.qual none .none (some X.env)) (λa5 b0 =>
   codeAny (model X.prog X.w) X.A (.compStart (.ListComp elt [⟨tg,iter,ifs,0⟩] scope pos) 0 (.ref it) c1 {a5 with scope:=relabel scope X.env}) (RR c1 a5.locals) b0) E b3) E s2:=by
 refine wpAny_newObj_type (wpAny_newFunctionEnv S.nocell (by intro y hy;cases hy) (λh₁ a8 a7=>?_) S.kind)
 dsimp only at a8 a7 ⊢
 have I3:Inv X pn G (upd H2 s2.heap.objs.size (.lst [])) {s2 with heap:=s2.heap.push {cls:=.type "list",data:=.seq ([]:List Value).toArray}}:=I2.lnew (its:=[]) (t':=s2.toks) .nil (Nat.zero_le _);have a4:∀b∈fp,b<s2.heap.objs.size:=λb B=>by
  obtain⟨o,e,_⟩:=Tn.obj _ _ b8 b B;exact zae e
 have f3:∀b∈fp,FpOk X pn (upd H2 s2.heap.objs.size (.lst [])) b:=λb B=>⟨by rw[y0 (Nat.ne_of_lt (a4 b B))];exact(f2 b B).1,(f2 b B).2⟩
 obtain⟨W,⟨m0,w0⟩,a9⟩:=b9 s2.heap.objs.size I2.fresh;generalize hs3:({s2 with heap:=s2.heap.push {cls:=.type "list",data:=.seq ([]:List Value).toArray}}:Shared)=q at I3;have e3:s2.heap.push {cls:=.type "list",dict:=none,data:=.seq ([]:List Value).toArray}=q.heap:=by rw[<- hs3]
 rw[e3]at a8 a7 ⊢;have b4:q.heap.objs.size=s2.heap.objs.size+1:=by rw[<- e3,Heap.size_push]
 have a3:∀b o,q.heap.get? b=some o->h₁.get? b=some o:=λb o e=>a7.extBut b o (Nat.ne_of_lt (zae e)) (zac _ e);have M:∀b∈fp,b<q.heap.objs.size:=λb B=>by rw[b4];exact Nat.lt_succ_of_lt (a4 b B)
 have J0:Inv (x8 X (T++F) scope cl q.heap.objs.size fp q (upd H2 s2.heap.objs.size (.lst []))) [] (st0 T js G) (upd H2 s2.heap.objs.size (.lst [])) {q with heap:=h₁,toks:=s2.toks+([]:List (Str×Value)).length} :=
  Lc I3 S p1 p2 c4 (zaj _) f3 M a8 a3
 have b6:tn 0 h₁:=Tn.keep _ _ _ b8 λb _ o e=>a3 b o (by rw[<- e3];exact zac _ e)
 have es:({s2 with heap:=h₁,toks:=s2.toks+([]:List (Str×Value)).length}:Shared)={q with heap:=h₁,toks:=s2.toks+([]:List (Str×Value)).length}:=by rw[<- hs3]
 have a2:codeAny (model X.prog X.w) X.A (.compLoop (.ListComp elt [⟨tg,iter,ifs,0⟩] scope pos) 0 (.ref it) (.ref s2.heap.objs.size) (compEnvC scope cl q.heap.objs.size X.env)) (RR (.ref s2.heap.objs.size) q.heap.objs.size)
   {q with heap:=h₁,toks:=s2.toks+([]:List (Str×Value)).length}:=by
  have I:∀{H':Hp},(∀b∈fp,H' b=none)->∀b∈fp,FpOk (x8 X (T++F) scope cl q.heap.objs.size fp q (upd H2 s2.heap.objs.size (.lst []))) [] H' b:=λhn b B =>
   ⟨hn b B,Nat.ne_of_lt (M b B),J0.ok.exfs b B,.inl B,(J0.ok.exf b B).2,λp hp=>(by cases hp)⟩
  refine Rn (λn s'=>∃i ys H',Inv (x8 X (T++F) scope cl q.heap.objs.size fp q (upd H2 s2.heap.objs.size (.lst []))) [] (st0 T js G) H' s'/\tn i s'.heap/\(∀b∈fp,H' b=none)/\W i n ys H') ?_ m0
   ⟨0,[],_,J0,b6,λb B=>(f3 b B).1,w0⟩
  rintro n s4 ⟨i,ys,H4,I4,b7,c0,w4⟩;obtain⟨hD,d0⟩:=a9 i n ys H4 w4;rcases d0 with⟨b5,z⟩|⟨go,N,hN,step⟩
  ·refine thn (Tn.done (x8 X (T++F) scope cl q.heap.objs.size fp q (upd H2 s2.heap.objs.size (.lst []))) rfl rfl rfl hc i [] s4 _ H4 (λ_ _=>False) I4 (I c0) b7 b5) λr s5 ⟨hr,I5⟩=>?_;subst hr;obtain⟨m5,n5,_⟩:=I5.loc;have fC:FpOk X pn H4 q.heap.objs.size:=I2.fpOk (by rw[b4];exact Nat.le_succ _) I5.free
   exact c5 _ _ H4 s5 m5 n5 fC ((Ld I3 I5 f3)) z
  refine thn (Tn.item (x8 X (T++F) scope cl q.heap.objs.size fp q (upd H2 s2.heap.objs.size (.lst []))) rfl rfl rfl hc i [] s4 _ H4 (λ_ _=>False) I4 (I c0) b7 go) λr s5 Zh=>?_;obtain⟨u,hr,h5⟩:=Zh;subst hr;refine thn h5 λ_ s6 Zh=>?_;obtain⟨x,H6,I6,r6,y6,a6,c7⟩:=Zh;have d4:=I6.pinned (I c7) (Tn.obj _ _ a6);refine thn (hg _ _ _ _ _ _ s6 _ H6 x u _ d4 r6 (hk x _ H6 _ (step x H6 y6))) λ_ s7 Zh=>?_;obtain⟨a1,H7,I7,q7,kp⟩:=Zh;refine thn (ht _ _ _ _ _ _ s7 a1 H7 _ I7 q7) λok s8 Zh=>?_;obtain⟨H8,I8,q8⟩:=Zh;have a0:∀{s9:Shared}{H9:Hp},Inv (x8 X (T++F) scope cl q.heap.objs.size fp q (upd H2 s2.heap.objs.size (.lst []))) ([]++Yu fp s6.heap) a1 H9 s9->∀{zs:List V},(∃m',m'<n/\W (i+1) m' zs H9) ->
    ∃m,m<n/\∃i ys H',Inv (x8 X (T++F) scope cl q.heap.objs.size fp q (upd H2 s2.heap.objs.size (.lst []))) [] (st0 T js G) H' s9/\tn i s9.heap/\(∀b∈fp,H' b=none)/\W i m ys H':=λ{s9 H9} I9 {zs} q9=>by
   obtain⟨m',hm,w9⟩:=q9;have d3:=I9.unpinned;refine⟨m',hm,i+1,zs,H9,d3.weak kp.1.symm (λa v ea=>?_),Tn.keep _ _ _ a6 λb B o e=>(I9.pin (b,o) (List.mem_append_right _ (List.mem_append_right _ (se B e)))).1,λb B=>?_,w9⟩
   ·have ha:T.length<=a:=by
     rcases Nat.lt_or_ge a T.length with z|z
     ·exfalso;unfold st0 at ea;rw[List.getElem?_append_left (by simpa using z),List.getElem?_replicate]at ea
      split at ea <;> cases ea
     exact z
    rw[kp.2 a ha];exact ea
   obtain⟨o,e,d⟩:=Tn.obj _ _ a6 b B;exact(I9.pin (b,o) (List.mem_append_right _ (List.mem_append_right _ (se B e)))).2.1
  cases ok with
  |false =>
   rw[if_neg Bool.false_ne_true]at q8 ⊢;exact a0 I8 (hN _ _ q8)
  |true =>
   rw[if_pos rfl]at q8 ⊢;refine thn (he _ _ _ _ _ _ s8 a1 H8 _ I8 q8) λy s9 Zh=>?_;obtain⟨v9,H9,I9,r9,c6,c3,q9⟩:=Zh;refine thn (gh _ s9 a1 H9 (.ref s2.heap.objs.size) [v9] (.ref s2.heap.objs.size) [y] (λ_ c2=>c2=upd H9 s2.heap.objs.size (.lst (ys++[v9]))) I9 rfl (.cons r9 .nil) ⟨_,_,_,rfl,rfl,c6,c3,rfl⟩) λ_ e0 Zh=>?_;obtain⟨_,c2,d5,_,c8⟩:=Zh;subst c8;exact a0 d5 (hN _ _ q9)
 show codeAny _ _ _ _ ({s2 with heap:=h₁,toks:=s2.toks+([]:List (Str×Value)).length}:Shared);rw[es];exact codeAny_compStart_list a2 (Tn.self _ 0 _ _ _ b6 a2)
def Fg(hc:X.calm=true)(hi:PI X tg iter wi)(S:y8 X.env.scope scope T F)(M:Paired (λx j=>X.N[j]?=some x) F js)(hg:∀ cl C fp s H,PG (x8 X (T++F) scope cl C fp s H) tg g)(hk:We T.length g)(ht:∀ cl C fp s H,PIf (x8 X (T++F) scope cl C fp s H) ifs tc)(he:∀ cl C fp s H,PE (x8 X (T++F) scope cl C fp s H) elt te)(hs:∀ x,foldedSetIterable iter X.env x=pure x:=by intro _;rfl):PE X (.ListComp elt [⟨tg,iter,ifs,0⟩] scope pos) (Hj wi T js g tc te):=by
 intro pn s G H Q I h;obtain⟨cl,Z,p1,p2⟩:=bt (d6 I S);rw[eval_ListComp];refine wpAny_comprehension_free (use:=none) rfl hs Z S.kind S.loc (thn (hi pn s G H _ I h) λv s1 h1=>thn h1 λa1 s2 h2=>?_);obtain⟨it,fp,tn,J,H2,e,I2,Tn,B,f2,q⟩:=h2;subst e;refine bq (RR:=λa0 C=>compPost (model X.prog X.w) X.A X.xe none (EP X pn G Q) a0 C) hc S M hg hk ht he p1 p2 I2 Tn B f2 (λD H'=>Q (.ref D) H') q ?_;intro D C H' s' m' hn fC I' z;obtain⟨f0,f1,f2,f3,f4,f5⟩:=fC;exact⟨m',hn,λh' sb=>⟨.ref D,H',I'.turned (t':=s'.toks) (λb o hb e=>(sb.2 b hb).trans e) f0 f1 f3 f4 f5,rfl,z⟩⟩
def Sj(hc:X.calm=true)(hN:X.N.Nodup)(hy:X.N[i]?=some y)(hl:X.env.scope.names.lookup y=some .local\/X.env.scope.names.lookup y=some .cell)(hi:PI X tg iter wi)(S:y8 X.env.scope scope T F)(a2:Paired (λx j=>X.N[j]?=some x) F js)(hg:∀ cl C fp s H,PG (x8 X (T++F) scope cl C fp s H) tg g)(hk:We T.length g)(ht:∀ cl C fp s H,PIf (x8 X (T++F) scope cl C fp s H) ifs tc)(he:∀ cl C fp s H,PE (x8 X (T++F) scope cl C fp s H) elt te)(a1:swapsWith (.ListComp elt [⟨tg,iter,ifs,0⟩] scope pos) (some (.Name y py)) spos.line X.env=pure true:=by rfl)(hs:∀ x,foldedSetIterable iter X.env x=pure x:=by intro _;rfl)(a3:X.fn y=true\/X.env.scope.names.lookup y=some .local:=by first|exact .inl rfl|exact .inr rfl|assumption) :
  PS X (.Assign [.Name y py] (.ListComp elt [⟨tg,iter,ifs,0⟩] scope pos) spos) (λD G H=>Hj wi T js g tc te G H λv H1=>D.nx (G.set i (some v)) H1):=by
 intro pn s G H D I h;obtain⟨cl,a4,p1,p2⟩:=bt (d6 I S);rw[exec_Assign_Name_used _ _ _ _ a1];refine zaa (wpAny_standAt (zaa ?_));show wpAny _ X.A (do let _ <- comprehension (.ListComp elt [⟨tg,iter,ifs,0⟩] scope pos) scope X.env _ (newList []) false (eval iter X.env) (some (assign (.Name y py) X.env))) _ _ s
 refine zaa (thn (wpAny_comprehension_free (use:=some (assign (.Name y py) X.env)) (Q:=λ_ s'=>SP X pn D .next s') rfl hs a4 S.kind S.loc (thn (hi pn s G H _ I h) λv s1 h1=>thn h1 λa8 s2 h2=>?_)) λ_ s' hq=>zab (zab hq));obtain⟨it,fp,tn,J,H2,e,I2,Tn,M,f2,q⟩:=h2;subst e;refine bq (RR:=λa6 C=>compPost (model X.prog X.w) X.A X.xe (some (assign (.Name y py) X.env)) (λ_ s'=>SP X pn D .next s') a6 C) hc S a2 hg hk ht he p1 p2 I2 Tn M f2 (λB H'=>D.nx (G.set i (some (.ref B))) H') q ?_;intro B C H' s' m' hn fC I' z;obtain⟨f0,f1,f2,f3,f4,f5⟩:=fC;show wpAny _ X.A (assign (.Name y py) X.env (.ref B)) _ _ s';refine wpAny_assign_Name (Yl (v:=.ref B) I' hN hy hl rfl (λa0 a7 ch=>?_) a3);obtain⟨a,sb,ha⟩:=ch;have a5:C≠a:=by
  rcases ha with rfl|ha
  ·exact f1
  exact λz=>f4 y a ha z.symm
 exact⟨m',hn.sameBut sb a5,λh' Z=>⟨_,H',a7.turned (t':=a0.toks) (λb o hb e=>(Z.2 b hb).trans e) f0 f1 f3 f4 f5,z⟩⟩
end
def Itv(n:Nat)(val:Nat->V->Prop):It:=⟨λi _=>i<n,λi H x H'=>H'=H/\val i x,λi _=>i=n⟩
def D7(x:Str)(i:Nat)(v:V):Prop:=∃c,x.cps[i]?=some c/\v=.str ⟨#[c]⟩
def Nq{P:Program}{w:World}{K:W.Frag}{tg:Expr}{it:Addr}{x:Str}{t:Tok}{T:String}(W:∀ A:Around,A.handled=none->Walks P w A it [it] [it] x.cps.size (SignAt x) (λi h=>h.IsStrIter it T x t i))(hs:∀ (A:Around) (i:Nat) (s:Shared) (Q:Value->Shared->Prop) (E:Value->Shared->Prop),s.heap.IsStrIter it T x t i->Q (.ref it) s->wpAny (model P w) A (pyIter (.ref it)) Q E s)(hT:["enumerate","zip","dict_itemiterator","dict_reverseitemiterator","odict_iterator","itertools.zip_longest","itertools.pairwise"].contains T=false) :
  Turn P w K tg (Itv x.cps.size (D7 x)) [it] it (λi h=>h.IsStrIter it T x t i) where
 mem:=by simp
 obj:=λi h st b j=>by
  have e:b=it:=by simpa using j
  subst e;obtain⟨o,e,c,d⟩:=st;exact⟨o,e,λv z=>by rw[d]at z;cases z⟩
 keep:=λi h h' st k=>let ⟨o,e,r⟩:=st;⟨o,k it (by simp) o e,r⟩
 item:=by
  intro X hP N hK hc i pn s G H E I B st Z;subst hP N hK;obtain⟨f0,f1,f2,f3,f4,f5⟩:=B it (by simp)
  refine(W X.A (I.ok.hd hc)).item i s _ _ Z st λv h' tk hv q M=>?_;obtain⟨c,u,hx,rfl⟩:=hv;have I1:Inv X pn G H {s with heap:=h',toks:=tk}:=I.turned (λb o j e=>M b o (by simpa using j) e) f0 f1 f3 f4 f5
  obtain⟨o,e,c',d⟩:=id q;exact⟨_,rfl,O5 (s:={s with heap:=h',toks:=tk}) e c' d hT ⟨.str ⟨#[c]⟩,H,I1,⟨u,rfl⟩,⟨rfl,c,hx,rfl⟩,q,λb j=>(B b j).1⟩⟩
 done:=by
  intro X hP N hK hc i pn s G H E I B st Z;subst hP N hK;obtain⟨f0,f1,f2,f3,f4,f5⟩:=B it (by simp)
  have e:i=x.cps.size:=Z;subst e;exact(W X.A (I.ok.hd hc)).done s _ _ st λh' tk M=>⟨rfl,I.turned (λb o j e=>M b o (by simpa using j) e) f0 f1 f3 f4 f5⟩
 self:=λA i s Q E st h=>hs A i s Q E st h
def Sb:V->Option Bool
 |.bl b=>some b
 |.int i=>some (i != 0)
 |.non=>some false
 |_=>none
def Wg(ys:List V)(d:Bool)(i:Nat):Bool:=((ys[i]?).bind Sb).getD d
def Wc(ys:List V)(h:∀ y∈ys,(Sb y).isSome=true):(List.range ys.length).all (Wg ys true)=ys.all λy=>Sb y==some true:=by
 rw[Bool.eq_iff_iff,List.all_eq_true,List.all_eq_true];constructor
 ·intro q y B;obtain⟨i,hi,e⟩:=List.getElem_of_mem B;have z:=q i (List.mem_range.mpr hi);unfold Wg at z;rw[zaf hi,Option.bind_some,e]at z;obtain⟨b,I⟩:=Option.isSome_iff_exists.mp (h y B);rw[I]at z ⊢;simpa using z
 intro q i hi;have j:=List.mem_range.mp hi;have z:=q _ (List.getElem_mem j);unfold Wg;rw[zaf j,Option.bind_some,eq_of_beq z];rfl
def U2(d:Bool)(r:Vals ys its)(h:∀ y∈ys,(Sb y).isSome=true):TruthOf P w A (λi v=>its.toArray[i]?=some v) (Wg ys d):=by
 intro i v s Q E I j;obtain⟨y,B,q⟩:=qy r (show its[i]?=some v by simpa using I)
 unfold Wg at j;rw[B,Option.bind_some]at j;have hs:=h y (zan B);cases y with
 |bl b=>cases q;exact wpAny_truthy_bool j
 |int k=>obtain⟨t,rfl⟩:=q;exact PySem.P.truthy_int j
 |non=>cases q;exact truthy_none j
 |_=>cases hs
def X3{s:Shared}{h':Heap}{o:Obj}(j:∀ b x,b∉[s.heap.objs.size]->(s.heap.push o).get? b=some x->h'.get? b=some x):∀b x,s.heap.get? b=some x->h'.get? b=some x :=
 λb x e=>j b x (by simpa using Nat.ne_of_lt (zae e)) (zac _ e)
def rAll(K:W.Frag)(f:List V->Bool):List V->Hp->VK->Prop:=λxs H Q=>∃p ys,xs=[.ref p]/\(SqL K H p ys\/SqT K H p ys)/\(∀y∈ys,(Sb y).isSome=true)/\Q (.bl (f ys)) H
def W4(hc:X.calm=true):vz X (.builtin "all") (rAll X.K λys=>ys.all λy=>Sb y==some true):=by
 intro pn s G H xs us Q I r h;obtain⟨p,ys,rfl,N,Z,q⟩:=h;obtain⟨u,rfl,rx⟩:=uz r;cases rx;rcases N with N|N
 ·obtain⟨its,B,pl,hz⟩:=I.list N;have j:p<s.heap.objs.size:=by obtain⟨_,e,_⟩:=pl.isList;exact zae e
  refine call_all_walk (wpAny_pyIter_list pl.isList ⟨s.heap.objs.size,[s.heap.objs.size,p],[s.heap.objs.size],its.toArray.size,_,_,Wg ys true,rfl,Walks.list (A:=X.A.in1) (I.ok.hd hc) _ p (Nat.ne_of_lt j) its.toArray,
   ⟨⟨_,zad _ rfl,rfl,rfl⟩,pl.isList.push _⟩,U2 true B Z,λh' tk hk=>?_⟩)
  rw[zap,<- B.length,Wc ys Z];exact⟨.bl _,H,I.kept (X3 hk),rfl,q⟩
 obtain⟨its,B,pl,hz⟩:=I.tuple N;have j:p<s.heap.objs.size:=by obtain⟨_,e,_⟩:=pl;exact zae e
 have M:s.heap.IsTuple p its.toArray:=pl;refine call_all_walk (wpAny_pyIter_tuple M ⟨s.heap.objs.size,[s.heap.objs.size,p],[s.heap.objs.size],its.toArray.size,_,_,Wg ys true,rfl,Walks.tuple (A:=X.A.in1) (I.ok.hd hc) _ p (Nat.ne_of_lt j) its.toArray,
  ⟨⟨_,zad _ rfl,rfl,rfl⟩,M.at λo e=>zac _ e⟩,U2 true B Z,λh' tk hk=>?_⟩)
 rw[zap,<- B.length,Wc ys Z];exact⟨.bl _,H,I.kept (X3 hk),rfl,q⟩
theorem nd1(t:Str):([t]++[]).Nodup:=by simp
inductive Cst where
 |int (i:Int)|str (x:Str)|tup (cs:List Cst)
mutual
def CRep(K:W.Frag):Cst->V->Prop
 |.int i,v=>v=.int i
 |.str x,v=>v=.str x
 |.tup cs,v=>∃(a:Addr)(o:Obj)(its:Array Value)(n:Nat)(xs:List V),v=.ref a/\K.lookup a=some o/\o.cls=.type "tuple"/\o.data=.seq its n/\its.size<=sizeLine/\Vals xs its.toList/\Rq K cs xs
def Rq(K:W.Frag):List Cst->List V->Prop
 |[],xs=>xs=[]
 |c::cs,xs=>∃v r,xs=v::r/\CRep K c v/\Rq K cs r
end
inductive D where
 |non|bl (b:Bool)|int (i:Int)|str (x:Str)|ty (n:String)
 |tup (ds:List D)|lst (ds:List D)|dk (ks:List Key) (ds:List D)
  |scr (ns:List Int)
     |cn (c:Cst)
  |ob (C:Addr) (ns:List Str) (ds:List D)
def Scr(K:W.Frag)(H:Hp)(a:Addr)(ns:List Int):Prop :=
 (∃o,H a=some (.frz o (.lst (ns.map V.int)))) \/
  ∃(o:Obj)(its:Array Value)(n:Nat),K.lookup a=some o/\o.cls=.type "list"/\o.dict=none/\o.data=.seq its n/\its.size<=sizeLine/\Vals (ns.map V.int) its.toList
def Scr.seq{K:W.Frag}{H:Hp}{a:Addr}{ns:List Int}(h:Scr K H a ns):SqL K H a (ns.map V.int):=by
 rcases h with⟨o,h⟩|h
 ·exact .inl (.inr ⟨o,h⟩)
 exact .inr h
def dzV(rs:List (List Int×Int)):List (List Key×V):=rs.map λp=>(p.1.map Sum.inl,V.int p.2)
def Dz(H:Hp)(a:Addr)(rs:List (List Int×Int)):Prop:=(∃o,H a=some (.frz o (.dT (dzV rs))))/\(rs.map Prod.fst).Nodup
def SqR(K:W.Frag)(H:Hp)(a:Addr)(xs:List V):Prop:=SqT K H a xs/\H a=some (.tup xs)
mutual
def Rep(K:W.Frag)(H:Hp)(O:List Addr):D->V->Prop
 |.non,v=>v=.non
 |.bl b,v=>v=.bl b
 |.int i,v=>v=.int i
 |.str x,v=>v=.str x
 |.ty n,v=>v=.ty n
 |.cn c,v=>CRep K c v
 |.tup ds,v=>∃a xs,v=.ref a/\SqR K H a xs/\Reps K H O ds xs
 |.lst ds,v=>∃a xs,v=.ref a/\H a=some (.lst xs)/\a∉O/\Reps K H O ds xs
 |.scr ns,v=>∃a,v=.ref a/\Scr K H a ns
 |.dk ks ds,v=>∃a xs,v=.ref a/\H a=some (.dK (ks.zip xs))/\a∉O/\ks.length=ds.length/\ks.Nodup/\Reps K H O ds xs
 |.ob C ns ds,v=>∃a dx xs,v=.ref a/\H a=some (.ins C dx (ns.zip xs))/\a∉O/\ns.length=ds.length/\ns.Nodup/\Reps K H O ds xs
def Reps(K:W.Frag)(H:Hp)(O:List Addr):List D->List V->Prop
 |[],xs=>xs=[]
 |d::ds,xs=>∃v r,xs=v::r/\Rep K H O d v/\Reps K H O ds r
end
structure Grow(O O':List Addr)(H H':Hp):Prop where
 keep:∀b u,H b=some u->b∉O->H' b=some u/\b∉O'
 tups:∀b xs,H b=some (.tup xs)->H' b=some (.tup xs)
 frzs:∀b o u,H b=some (.frz o u)->H' b=some (.frz o u)
def Grow.same(s:Same H H'):Grow O O H H':=⟨λb u h n=>⟨s b u h,n⟩,λb xs h=>s b _ h,λb o u h=>s b _ h⟩
theorem Grow.refl:Grow O O H H:=Grow.same (Same.refl H)
def Grow.trans(a:Grow O O' H H')(b:Grow O' O'' H' H''):Grow O O'' H H'' :=
 ⟨λc u h n=>let ⟨h',n'⟩:=a.keep c u h n;b.keep c u h' n',λc xs h=>b.tups c xs (a.tups c xs h),λc o u h=>b.frzs c o u (a.frzs c o u h)⟩
def Z4{K:W.Frag}{O O':List Addr}{H H':Hp}{a:Addr}{xs:List V}(g:Grow O O' H H')(h:SqT K H a xs):SqT K H' a xs:=by
 rcases h with(h|⟨o,h⟩)|h
 ·exact .inl (.inl (g.tups _ _ h))
 ·exact .inl (.inr ⟨o,g.frzs _ _ _ h⟩)
 exact .inr h
def U6{K:W.Frag}{O O':List Addr}{H H':Hp}{a:Addr}{xs:List V}(g:Grow O O' H H')(h:SqR K H a xs):SqR K H' a xs:=⟨Z4 g h.1,g.tups _ _ h.2⟩
def je{K:W.Frag}{O O':List Addr}{H H':Hp}{a:Addr}{ns:List Int}(g:Grow O O' H H')(h:Scr K H a ns):Scr K H' a ns:=by
 rcases h with⟨o,h⟩|h
 ·exact .inl ⟨o,g.frzs _ _ _ h⟩
 exact .inr h
mutual
theorem Rep.grow{K:W.Frag}{O O':List Addr}{H H':Hp}(g:Grow O O' H H'):∀(d:D)(v:V),Rep K H O d v->Rep K H' O' d v
 |.non,_,h=>h
 |.bl _,_,h=>h
 |.int _,_,h=>h
 |.str _,_,h=>h
 |.ty _,_,h=>h
 |.cn _,_,h=>h
 |.tup ds,v,h=>by
  obtain⟨a,xs,e,q,r⟩:=h;exact⟨a,xs,e,U6 g q,Reps.grow g ds xs r⟩
 |.lst ds,v,h=>by
  obtain⟨a,xs,e,q,n,r⟩:=h;exact⟨a,xs,e,(g.keep _ _ q n).1,(g.keep _ _ q n).2,Reps.grow g ds xs r⟩
 |.scr ns,v,h=>by
  obtain⟨a,e,q⟩:=h;exact⟨a,e,je g q⟩
 |.dk ks ds,v,h=>by
  obtain⟨a,xs,e,q,n,l,nd,r⟩:=h;exact⟨a,xs,e,(g.keep _ _ q n).1,(g.keep _ _ q n).2,l,nd,Reps.grow g ds xs r⟩
 |.ob C ns ds,v,h=>by
  obtain⟨a,dx,xs,e,q,n,l,nd,r⟩:=h;exact⟨a,dx,xs,e,(g.keep _ _ q n).1,(g.keep _ _ q n).2,l,nd,Reps.grow g ds xs r⟩
theorem Reps.grow{K:W.Frag}{O O':List Addr}{H H':Hp}(g:Grow O O' H H'):∀(ds:List D)(xs:List V),Reps K H O ds xs->Reps K H' O' ds xs
 |[],_,h=>h
 |d::ds,xs,h=>by
  obtain⟨v,r,e,q,t⟩:=h;exact⟨v,r,e,Rep.grow g d v q,Reps.grow g ds r t⟩
end
mutual
theorem Rep.sub{K:W.Frag}{O O':List Addr}{H:Hp}(g:∀ a∈O',a∈O):∀(d:D)(v:V),Rep K H O d v->Rep K H O' d v
 |.non,_,h=>h
 |.bl _,_,h=>h
 |.int _,_,h=>h
 |.str _,_,h=>h
 |.ty _,_,h=>h
 |.cn _,_,h=>h
 |.tup ds,v,h=>by
  obtain⟨a,xs,e,q,r⟩:=h;exact⟨a,xs,e,q,Reps.sub g ds xs r⟩
 |.lst ds,v,h=>by
  obtain⟨a,xs,e,q,n,r⟩:=h;exact⟨a,xs,e,q,λz=>n (g a z),Reps.sub g ds xs r⟩
 |.scr _,_,h=>h
 |.dk ks ds,v,h=>by
  obtain⟨a,xs,e,q,n,l,nd,r⟩:=h;exact⟨a,xs,e,q,λz=>n (g a z),l,nd,Reps.sub g ds xs r⟩
 |.ob C ns ds,v,h=>by
  obtain⟨a,dx,xs,e,q,n,l,nd,r⟩:=h;exact⟨a,dx,xs,e,q,λz=>n (g a z),l,nd,Reps.sub g ds xs r⟩
theorem Reps.sub{K:W.Frag}{O O':List Addr}{H:Hp}(g:∀ a∈O',a∈O):∀(ds:List D)(xs:List V),Reps K H O ds xs->Reps K H O' ds xs
 |[],_,h=>h
 |d::ds,xs,h=>by
  obtain⟨v,r,e,q,t⟩:=h;exact⟨v,r,e,Rep.sub g d v q,Reps.sub g ds r t⟩
end
mutual
def zl:D->Prop
 |.tup ds=>zp ds
 |.lst _=>False
 |.dk _ _=>False
 |.ob _ _ _=>False
 |.scr _=>True
 |.non=>True
 |.bl _=>True
 |.int _=>True
 |.str _=>True
 |.ty _=>True
 |.cn _=>True
def zp:List D->Prop
 |[]=>True
 |d::ds=>zl d/\zp ds
end
theorem yg:∀{ds:List D},zp ds ↔ ∀d∈ds,zl d
 |[]=>by simp[zp]
 |d::ds=>by
  rw[zp,yg];simp
mutual
theorem Rep.pure{K:W.Frag}{O O':List Addr}{H:Hp}:∀(d:D)(v:V),zl d->Rep K H O d v->Rep K H O' d v
 |.non,_,_,h=>h
 |.bl _,_,_,h=>h
 |.int _,_,_,h=>h
 |.str _,_,_,h=>h
 |.ty _,_,_,h=>h
 |.cn _,_,_,h=>h
 |.tup ds,v,p,h=>by
  obtain⟨a,xs,e,q,r⟩:=h;exact⟨a,xs,e,q,Reps.pure ds xs p r⟩
 |.scr _,_,_,h=>h
 |.lst ds,v,p,h=>p.elim
 |.dk ks ds,v,p,h=>p.elim
 |.ob C ns ds,v,p,h=>p.elim
theorem Reps.pure{K:W.Frag}{O O':List Addr}{H:Hp}:∀(ds:List D)(xs:List V),zp ds->Reps K H O ds xs->Reps K H O' ds xs
 |[],_,_,h=>h
 |d::ds,xs,p,h=>by
  obtain⟨v,r,e,q,t⟩:=h;exact⟨v,r,e,Rep.pure d v p.1 q,Reps.pure ds r p.2 t⟩
end
mutual
def RepN(K:W.Frag)(H:Hp)(P:Addr->Prop):D->V->Prop
 |.non,v=>v=.non
 |.bl b,v=>v=.bl b
 |.int i,v=>v=.int i
 |.str x,v=>v=.str x
 |.ty n,v=>v=.ty n
 |.cn c,v=>CRep K c v
 |.tup ds,v=>∃a xs,v=.ref a/\SqR K H a xs/\xq K H P ds xs
 |.lst ds,v=>∃a xs,v=.ref a/\H a=some (.lst xs)/\P a/\xq K H P ds xs
 |.scr ns,v=>∃a,v=.ref a/\Scr K H a ns
 |.dk ks ds,v=>∃a xs,v=.ref a/\H a=some (.dK (ks.zip xs))/\P a/\ks.length=ds.length/\ks.Nodup/\xq K H P ds xs
 |.ob C ns ds,v=>∃a dx xs,v=.ref a/\H a=some (.ins C dx (ns.zip xs))/\P a/\ns.length=ds.length/\ns.Nodup/\xq K H P ds xs
def xq(K:W.Frag)(H:Hp)(P:Addr->Prop):List D->List V->Prop
 |[],xs=>xs=[]
 |d::ds,xs=>∃v r,xs=v::r/\RepN K H P d v/\xq K H P ds r
end
mutual
theorem RepN.to{K:W.Frag}{P j:Addr->Prop}{H H':Hp}(s:Same H H')(g:∀ a,P a->j a):∀(d:D)(v:V),RepN K H P d v->RepN K H' j d v
 |.non,_,h=>h
 |.bl _,_,h=>h
 |.int _,_,h=>h
 |.str _,_,h=>h
 |.ty _,_,h=>h
 |.cn _,_,h=>h
 |.tup ds,v,h=>by
  obtain⟨a,xs,e,q,r⟩:=h;exact⟨a,xs,e,U6 (Grow.same (O:=[]) s) q,xq.to s g ds xs r⟩
 |.lst ds,v,h=>by
  obtain⟨a,xs,e,q,n,r⟩:=h;exact⟨a,xs,e,s _ _ q,g a n,xq.to s g ds xs r⟩
 |.scr ns,v,h=>by
  obtain⟨a,e,q⟩:=h;exact⟨a,e,je (Grow.same (O:=[]) s) q⟩
 |.dk ks ds,v,h=>by
  obtain⟨a,xs,e,q,n,l,nd,r⟩:=h;exact⟨a,xs,e,s _ _ q,g a n,l,nd,xq.to s g ds xs r⟩
 |.ob C ns ds,v,h=>by
  obtain⟨a,dx,xs,e,q,n,l,nd,r⟩:=h;exact⟨a,dx,xs,e,s _ _ q,g a n,l,nd,xq.to s g ds xs r⟩
theorem xq.to{K:W.Frag}{P j:Addr->Prop}{H H':Hp}(s:Same H H')(g:∀ a,P a->j a):∀(ds:List D)(xs:List V),xq K H P ds xs->xq K H' j ds xs
 |[],_,h=>h
 |d::ds,xs,h=>by
  obtain⟨v,r,e,q,t⟩:=h;exact⟨v,r,e,RepN.to s g d v q,xq.to s g ds r t⟩
end
mutual
theorem RepN.rep{K:W.Frag}{P:Addr->Prop}{H:Hp}{O:List Addr}(g:∀ a,P a->a∉O):∀(d:D)(v:V),RepN K H P d v->Rep K H O d v
 |.non,_,h=>h
 |.bl _,_,h=>h
 |.int _,_,h=>h
 |.str _,_,h=>h
 |.ty _,_,h=>h
 |.cn _,_,h=>h
 |.tup ds,v,h=>by
  obtain⟨a,xs,e,q,r⟩:=h;exact⟨a,xs,e,q,xq.reps g ds xs r⟩
 |.lst ds,v,h=>by
  obtain⟨a,xs,e,q,n,r⟩:=h;exact⟨a,xs,e,q,g a n,xq.reps g ds xs r⟩
 |.scr _,_,h=>h
 |.dk ks ds,v,h=>by
  obtain⟨a,xs,e,q,n,l,nd,r⟩:=h;exact⟨a,xs,e,q,g a n,l,nd,xq.reps g ds xs r⟩
 |.ob C ns ds,v,h=>by
  obtain⟨a,dx,xs,e,q,n,l,nd,r⟩:=h;exact⟨a,dx,xs,e,q,g a n,l,nd,xq.reps g ds xs r⟩
theorem xq.reps{K:W.Frag}{P:Addr->Prop}{H:Hp}{O:List Addr}(g:∀ a,P a->a∉O):∀(ds:List D)(xs:List V),xq K H P ds xs->Reps K H O ds xs
 |[],_,h=>h
 |d::ds,xs,h=>by
  obtain⟨v,r,e,q,t⟩:=h;exact⟨v,r,e,RepN.rep g d v q,xq.reps g ds r t⟩
end
mutual
theorem Rep.toN{K:W.Frag}{P:Addr->Prop}{O:List Addr}{H:Hp}:∀(d:D)(v:V),zl d->Rep K H O d v->RepN K H P d v
 |.non,_,_,h=>h
 |.bl _,_,_,h=>h
 |.int _,_,_,h=>h
 |.str _,_,_,h=>h
 |.ty _,_,_,h=>h
 |.cn _,_,_,h=>h
 |.tup ds,v,p,h=>by
  obtain⟨a,xs,e,q,r⟩:=h;exact⟨a,xs,e,q,Reps.toN ds xs p r⟩
 |.scr _,_,_,h=>h
 |.lst ds,v,p,h=>p.elim
 |.dk ks ds,v,p,h=>p.elim
 |.ob C ns ds,v,p,h=>p.elim
theorem Reps.toN{K:W.Frag}{P:Addr->Prop}{O:List Addr}{H:Hp}:∀(ds:List D)(xs:List V),zp ds->Reps K H O ds xs->xq K H P ds xs
 |[],_,_,h=>h
 |d::ds,xs,p,h=>by
  obtain⟨v,r,e,q,t⟩:=h;exact⟨v,r,e,Rep.toN d v p.1 q,Reps.toN ds r p.2 t⟩
end
theorem xq.append{K:W.Frag}{P:Addr->Prop}{H:Hp}:∀{ds es:List D}{xs ys:List V},xq K H P ds xs->xq K H P es ys->xq K H P (ds++es) (xs++ys)
 |[],es,xs,ys,h,h'=>by cases h;exact h'
 |d::ds,es,xs,ys,h,h'=>by
  obtain⟨v,r,rfl,q,t⟩:=h;exact⟨v,r++ys,rfl,q,xq.append t h'⟩
theorem xq.length{K:W.Frag}{P:Addr->Prop}{H:Hp}{ds:List D}{xs:List V}(h:xq K H P ds xs):xs.length=ds.length:=by
 induction ds generalizing xs with
 |nil=>cases (show xs=[] from h);rfl
 |cons d ds ih =>
  obtain⟨v,r,rfl,_,t⟩:=h;simp[ih t]
variable{O:List Addr}
theorem Reps.length:∀{ds:List D}{xs:List V},Reps K H O ds xs->xs.length=ds.length
 |[],_,h=>by cases h;rfl
 |d::ds,xs,h=>by
  obtain⟨v,r,e,_,t⟩:=h;subst e;simp[Reps.length t]
theorem Reps.get:∀{ds:List D}{xs:List V}{i:Nat}{d:D},Reps K H O ds xs->ds[i]?=some d->∃v,xs[i]?=some v/\Rep K H O d v
 |[],_,_,_,_,e=>by simp at e
 |d::ds,xs,0,d',h,e=>by
  obtain⟨v,r,rfl,q,_⟩:=h;simp at e;subst e;exact⟨v,rfl,q⟩
 |d::ds,xs,i+1,d',h,e=>by
  obtain⟨v,r,rfl,_,t⟩:=h;obtain⟨j,I,B⟩:=Reps.get (i:=i) t (by simpa using e)
  exact⟨j,by simpa using I,B⟩
theorem Reps.append:∀{ds es:List D}{xs ys:List V},Reps K H O ds xs->Reps K H O es ys->Reps K H O (ds++es) (xs++ys)
 |[],es,xs,ys,h,h'=>by cases h;exact h'
 |d::ds,es,xs,ys,h,h'=>by
  obtain⟨v,r,rfl,q,t⟩:=h;exact⟨v,r++ys,rfl,q,Reps.append t h'⟩
def Reps.one(h:Rep K H O d v):Reps K H O [d] [v]:=⟨v,[],rfl,h,rfl⟩
theorem Reps.take:∀{ds:List D}{xs:List V}(n:Nat),Reps K H O ds xs->Reps K H O (ds.take n) (xs.take n)
 |_,_,0,_=>rfl
 |[],_,n+1,h=>by cases h;rfl
 |d::ds,xs,n+1,h=>by
  obtain⟨v,r,rfl,q,t⟩:=h;exact⟨v,r.take n,rfl,q,Reps.take n t⟩
theorem Reps.drop:∀{ds:List D}{xs:List V}(n:Nat),Reps K H O ds xs->Reps K H O (ds.drop n) (xs.drop n)
 |_,_,0,h=>h
 |[],_,n+1,h=>by cases h;rfl
 |d::ds,xs,n+1,h=>by
  obtain⟨v,r,rfl,q,t⟩:=h;exact Reps.drop n t
theorem Reps.set:∀{ds:List D}{xs:List V}(n:Nat){d:D}{v:V},Rep K H O d v->Reps K H O ds xs->Reps K H O (ds.set n d) (xs.set n v)
 |[],_,_,_,_,_,h=>by cases h;rfl
 |d::ds,xs,0,d',v',q',h=>by
  obtain⟨v,r,rfl,q,t⟩:=h;exact⟨v',r,rfl,q',t⟩
 |d::ds,xs,n+1,d',v',q',h=>by
  obtain⟨v,r,rfl,q,t⟩:=h;exact⟨v,r.set n v',rfl,q,Reps.set n q' t⟩
theorem Reps.ints:∀(ns:List Int),Reps K H O (ns.map D.int) (ns.map V.int)
 |[]=>rfl
 |n::ns=>⟨_,_,rfl,rfl,Reps.ints ns⟩
theorem Reps.dropLast(h:Reps K H O ds xs):Reps K H O ds.dropLast xs.dropLast:=by
 rw[List.dropLast_eq_take,List.dropLast_eq_take,h.length];exact h.take _
theorem Reps.rep(h:Reps K H O ds xs):∀k:Nat,Reps K H O (List.replicate k ds).flatten (List.replicate k xs).flatten
 |0=>rfl
 |k+1=>by
  rw[List.replicate_succ,List.replicate_succ,List.flatten_cons,List.flatten_cons];exact h.append (Reps.rep h k)
def View(K:W.Frag)(H:Hp)(O:List Addr)(d:D)(v:V):Prop:=match d with
 |.lst ds=>∃a xs,v=.ref a/\H a=some (.lst xs)/\Reps K H O ds xs
 |.dk ks ds=>∃a xs,v=.ref a/\H a=some (.dK (ks.zip xs))/\ks.length=ds.length/\ks.Nodup/\Reps K H O ds xs
 |d=>Rep K H O d v
def Con1(K:W.Frag)(H:Hp)(O:List Addr)(d:D)(a:Addr):Prop:=match d with
 |.lst ds=>∃xs,H a=some (.lst xs)/\Reps K H O ds xs
 |.dk ks ds=>∃xs,H a=some (.dK (ks.zip xs))/\ks.length=ds.length/\ks.Nodup/\Reps K H O ds xs
 |_=>False
def Rep.view{K:W.Frag}{H:Hp}{O:List Addr}{d:D}{v:V}(h:Rep K H O d v):View K H O d v:=by
 cases d with
 |lst ds=>obtain⟨a,xs,e,q,_,r⟩:=h;exact⟨a,xs,e,q,r⟩
 |dk ks ds=>obtain⟨a,xs,e,q,_,r⟩:=h;exact⟨a,xs,e,q,r⟩
 |_=>exact h
def Con1.view{K:W.Frag}{H:Hp}{O:List Addr}{d:D}{a:Addr}(h:Con1 K H O d a):View K H O d (.ref a):=by
 cases d with
 |lst ds=>obtain⟨xs,q,r⟩:=h;exact⟨a,xs,rfl,q,r⟩
 |dk ks ds=>obtain⟨xs,q,r⟩:=h;exact⟨a,xs,rfl,q,r⟩
 |_=>exact h.elim
def Con1.rep{K:W.Frag}{H:Hp}{O:List Addr}{d:D}{a:Addr}(h:Con1 K H O d a)(n:a∉O):Rep K H O d (.ref a):=by
 cases d with
 |lst ds=>obtain⟨xs,q,r⟩:=h;exact⟨a,xs,rfl,q,n,r⟩
 |dk ks ds=>obtain⟨xs,q,r⟩:=h;exact⟨a,xs,rfl,q,n,r⟩
 |_=>exact h.elim
def Con1.same{K:W.Frag}{H H':Hp}{O:List Addr}{d:D}{a:Addr}(h:Con1 K H O d a)(s:Same H H'):Con1 K H' O d a:=by
 cases d with
 |lst ds=>obtain⟨xs,q,r⟩:=h;exact⟨xs,s _ _ q,Reps.grow (Grow.same s) _ _ r⟩
 |dk ks ds=>obtain⟨xs,q,l,n,r⟩:=h;exact⟨xs,s _ _ q,l,n,Reps.grow (Grow.same s) _ _ r⟩
 |_=>exact h.elim
def Con1.sub{K:W.Frag}{H:Hp}{O O':List Addr}{d:D}{a:Addr}(h:Con1 K H O d a)(g:∀ a∈O',a∈O):Con1 K H O' d a:=by
 cases d with
 |lst ds=>obtain⟨xs,q,r⟩:=h;exact⟨xs,q,Reps.sub g _ _ r⟩
 |dk ks ds=>obtain⟨xs,q,l,n,r⟩:=h;exact⟨xs,q,l,n,Reps.sub g _ _ r⟩
 |_=>exact h.elim
theorem View.sub{K:W.Frag}{H:Hp}{O O':List Addr}{d:D}{v:V}(h:View K H O d v)(g:∀ a∈O',a∈O):View K H O' d v:=by
 cases d with
 |lst ds=>obtain⟨a,xs,e,q,r⟩:=h;exact⟨a,xs,e,q,Reps.sub g _ _ r⟩
 |dk ks ds=>obtain⟨a,xs,e,q,l,n,r⟩:=h;exact⟨a,xs,e,q,l,n,Reps.sub g _ _ r⟩
 |_=>exact Rep.sub g _ _ h
def View.rep0{K:W.Frag}{H:Hp}{O:List Addr}{d:D}{v:V}(h:View K H O d v):Rep K H [] d v:=by
 have h:=h.sub (O':=[]) (λ_ z=>nomatch z);cases d with
 |lst ds=>obtain⟨a,xs,e,q,r⟩:=h;exact⟨a,xs,e,q,by simp,r⟩
 |dk ks ds=>obtain⟨a,xs,e,q,l,n,r⟩:=h;exact⟨a,xs,e,q,by simp,l,n,r⟩
 |_=>exact h
inductive Kd where|val|own|fre|new
 deriving DecidableEq
structure EV where
 k:Kd
 d:D
abbrev DE:=List (Option EV)
abbrev dv(d:D):EV:=⟨.val,d⟩
abbrev df(d:D):EV:=⟨.fre,d⟩
abbrev dO(d:D):EV:=⟨.own,d⟩
abbrev q_(d:D):Option EV:=some (dv d)
abbrev Q_(d:D):Option EV:=some (dO d)
def RV(K:W.Frag)(H0 H:Hp)(O:List Addr)(r:EV)(v:V):Prop:=match r.k with
 |.val=>Rep K H O r.d v
 |.own=>∃a,v=.ref a/\a∈O/\Con1 K H O r.d a
 |.fre=>∃a,v=.ref a/\H0 a=none/\a∉O/\Con1 K H (a::O) r.d a
 |.new=>RepN K H (λa=>a∉O/\H0 a=none) r.d v
variable{H0 H1:Hp}{r:EV}
def RV.val(h:Rep K H O d v):RV K H0 H O (dv d) v:=h
theorem RV.same(h:RV K H0 H O r v)(s:Same H H'):RV K H0 H' O r v:=by
 obtain⟨k,d⟩:=r;cases k with
 |val=>exact Rep.grow (Grow.same s) _ _ h
 |own=>obtain⟨a,e,m,c⟩:=h;exact⟨a,e,m,c.same s⟩
 |fre=>obtain⟨a,e,m,n,c⟩:=h;exact⟨a,e,m,n,c.same s⟩
 |new=>exact RepN.to s (λ_ z=>z) _ _ h
def RV.start(h:RV K H0 H O r v)(s:Same H1 H0):RV K H1 H O r v:=by
 obtain⟨k,d⟩:=r;cases k with
 |val=>exact h
 |own=>exact h
 |fre=>obtain⟨a,e,m,n,c⟩:=h;exact⟨a,e,s.free m,n,c⟩
 |new=>exact RepN.to (Same.refl H) (λa z=>⟨z.1,s.free z.2⟩) _ _ h
theorem RV.view(h:RV K H0 H O r v):View K H O r.d v:=by
 obtain⟨k,d⟩:=r;cases k with
 |val=>exact Rep.view h
 |own=>obtain⟨a,e,m,c⟩:=h;subst e;exact c.view
 |fre=>obtain⟨a,e,m,n,c⟩:=h;subst e;exact(c.sub λb j=>zal _ j).view
 |new=>exact(RepN.rep (λa z=>z.1) _ _ h).view
def RV.solid(h:RV K H0 H O r v)(j:r.k≠.own):Rep K H O r.d v:=by
 obtain⟨k,d⟩:=r;cases k with
 |val=>exact h
 |own=>exact absurd rfl j
 |fre=>obtain⟨a,e,m,n,c⟩:=h;subst e;exact(c.sub λb q=>zal _ q).rep n
 |new=>exact RepN.rep (λa z=>z.1) _ _ h
structure REnv(K:W.Frag)(H_ H:Hp)(G:St)(L:DE)(o:List (Nat×Addr)):Prop where
 same:Same H_ H
 fresh:∀p∈o,H_ p.2=none
 trk:∀p∈o,∃u,H p.2=some u
 mtb:∀p∈o,(∀xs,H p.2≠some (.tup xs))/\∀ob u,H p.2≠some (.frz ob u)
 nda:(o.map Prod.snd).Nodup
 slots:∀i r,L[i]?=some (some r)->∃v,G[i]?=some (some v)/\((r.k=.val/\Rep K H (o.map Prod.snd) r.d v)\/(r.k=.own/\∃a,v=.ref a/\(i,a)∈o/\Con1 K H (o.map Prod.snd) r.d a))
 len:G.length=L.length
variable{H_:Hp}{L:DE}{o:List (Nat×Addr)}
def REnv.to(R:REnv K H_ H G L o)(s:Same H H'):REnv K H_ H' G L o where
 same:=R.same.trans s
 fresh:=R.fresh
 trk:=λp j=>let ⟨u,e⟩:=R.trk p j;⟨u,s _ _ e⟩
 mtb:=λp j=>by
  obtain⟨u,e⟩:=R.trk p j;obtain⟨I,B⟩:=R.mtb p j;refine⟨λxs z=>?_,λq w z=>?_⟩
  ·rw[s _ _ e]at z;rw[<- e]at z;exact I xs z
  rw[s _ _ e]at z;rw[<- e]at z;exact B q w z
 nda:=R.nda
 slots:=λi r e=>by
  obtain⟨v,M,h⟩:=R.slots i r e;refine⟨v,M,?_⟩;rcases h with⟨k,h⟩|⟨k,a,e1,m,c⟩
  ·exact .inl ⟨k,Rep.grow (Grow.same s) _ _ h⟩
  exact .inr ⟨k,a,e1,m,c.same s⟩
 len:=R.len
def REnv.ofree(R:REnv K H_ H G L o){a:Addr}(h:H a=none):a∉o.map Prod.snd:=λz=>by
 obtain⟨p,j,e⟩:=zah.mp z;obtain⟨u,q⟩:=R.trk p j;rw[e,h]at q;cases q
abbrev TD:=DE->(EV->Prop)->Prop
abbrev TDb:=DE->(Bool->Prop)->Prop
abbrev TDs:=DE->(List EV->Prop)->Prop
structure DZ where
 nx:DE->Prop
 rt:EV->Prop
 bk:DE->Prop:=λ_=>False
 ct:DE->Prop:=λ_=>False
abbrev TDS:=DE->DZ->Prop
def RVs(K:W.Frag)(H0 H:Hp)(O:List Addr):List EV->List V->Prop
 |[],vs=>vs=[]
 |r::rs,vs=>∃v ws,vs=v::ws/\RV K H0 H O r v/\RVs K H0 H O rs ws
theorem RVs.start{K:W.Frag}{H0 H1 H:Hp}{O:List Addr}(s:Same H1 H0):∀{rs:List EV}{vs:List V},RVs K H0 H O rs vs->RVs K H1 H O rs vs
 |[],_,h=>h
 |r::rs,vs,h=>by
  obtain⟨v,ws,e,q,t⟩:=h;exact⟨v,ws,e,q.start s,t.start s⟩
theorem RVs.reps{K:W.Frag}{H0 H:Hp}{O:List Addr}:∀{rs:List EV}{vs:List V},RVs K H0 H O rs vs->(∀r∈rs,r.k≠.own)->Reps K H O (rs.map EV.d) vs
 |[],_,h,_=>h
 |r::rs,vs,h,n=>by
  obtain⟨v,ws,e,q,t⟩:=h;exact⟨v,ws,e,q.solid (n r (zao ..)),t.reps λj h'=>n j (zal _ h')⟩
theorem RVs.reps0{K:W.Frag}{H0 H:Hp}{O:List Addr}:∀{rs:List EV}{vs:List V},RVs K H0 H O rs vs->Reps K H [] (rs.map EV.d) vs
 |[],_,h=>h
 |r::rs,vs,h=>by
  obtain⟨v,ws,e,q,t⟩:=h;exact⟨v,ws,e,q.view.rep0,t.reps0⟩
def dj(K:W.Frag)(H_:Hp)(t:TD):TE:=λG H Q=>∃L o,REnv K H_ H G L o/\∃U,t L U/\∀v r H',Same H H'->RV K H H' (o.map Prod.snd) r v->U r->Q v H'
def Sz(K:W.Frag)(H_:Hp)(t:TDb):TT:=λG H Q=>∃L o,REnv K H_ H G L o/\∃U,t L U/\∀b H',Same H H'->U b->Q b H'
def E2(K:W.Frag)(H_:Hp)(t:TDs):TA:=λG H Q=>∃L o,REnv K H_ H G L o/\∃U,t L U/\∀vs rs H',Same H H'->RVs K H H' (o.map Prod.snd) rs vs->U rs->Q vs H'
def R5(K:W.Frag)(H_:Hp)(t:TDS):TS:=λD G H=>∃L o,REnv K H_ H G L o/\∃Z,t L Z /\
 (∀ρ' σ' H' o',Grow (o.map Prod.snd) (o'.map Prod.snd) H H'->REnv K H_ H' σ' ρ' o'->Z.nx ρ'->D.nx σ' H') /\
 (∀ρ' σ' H' o',Grow (o.map Prod.snd) (o'.map Prod.snd) H H'->REnv K H_ H' σ' ρ' o'->Z.bk ρ'->D.bk σ' H') /\
 (∀ρ' σ' H' o',Grow (o.map Prod.snd) (o'.map Prod.snd) H H'->REnv K H_ H' σ' ρ' o'->Z.ct ρ'->D.ct σ' H') /\
 (∀v r H',Same H_ H'->RV K H_ H' [] r v->Z.rt r->D.rt v H')
def ED(G:Hp->Prop)(X:Cx)(e:Expr)(t:TD):Prop:=∀H_:{H:Hp // G H},PE X e (dj X.K H_.1 t)
def ET(G:Hp->Prop)(X:Cx)(e:Expr)(t:TDb):Prop:=∀H_:{H:Hp // G H},PT X e (Sz X.K H_.1 t)
def EW(G:Hp->Prop)(X:Cx)(e:Expr)(t:TDb):Prop:=∀H_:{H:Hp // G H},PW X e (Sz X.K H_.1 t)
def EA(G:Hp->Prop)(X:Cx)(es:List Expr)(t:TDs):Prop:=∀H_:{H:Hp // G H},PA X es (E2 X.K H_.1 t)
def SD(G:Hp->Prop)(X:Cx)(st:Stmt)(t:TDS):Prop:=∀H_:{H:Hp // G H},PS X st (R5 X.K H_.1 t)
def SDs(G:Hp->Prop)(X:Cx)(st:List Stmt)(t:TDS):Prop:=∀H_:{H:Hp // G H},PSs X st (R5 X.K H_.1 t)
def impE(h:PE X e t)(i:∀ G H Q,t' G H Q->t G H Q):PE X e t':=λpn s G H Q I q=>h pn s G H Q I (i G H Q q)
def impT(h:PT X e t)(i:∀ G H Q,t' G H Q->t G H Q):PT X e t':=λpn s G H Q I q=>h pn s G H Q I (i G H Q q)
def impW(h:PW X e t)(i:∀ G H Q,t' G H Q->t G H Q):PW X e t':=λj pn s G H Q I q=>h j pn s G H Q I (i G H Q q)
def impA(h:PA X es t)(i:∀ G H Q,t' G H Q->t G H Q):PA X es t':=λpos pn s G H Q I q=>h pos pn s G H Q I (i G H Q q)
def impS{X:Cx}{st:Stmt}{t t':TS}(h:PS X st t)(i:∀ D G H,t' D G H->t D G H):PS X st t':=λpn s G H D I q=>h pn s G H D I (i D G H q)
def Vf{X:Cx}{st:List Stmt}{t t':TS}(h:PSs X st t)(i:∀ D G H,t' D G H->t D G H):PSs X st t':=λpn s G H D I q=>h pn s G H D I (i D G H q)
variable{Y:Hp->Prop}
def slot:DE->Nat->Option EV
 |[],_=>none
 |x::_,0=>x
 |_::r,i+1=>slot r i
theorem xn:∀{L:DE}{i:Nat}{r:EV},slot L i=some r->L[i]?=some (some r)
 |[],_,_,h=>by cases h
 |x::_,0,_,h=>by cases h;rfl
 |_::l,i+1,r,h=>by rw[List.getElem?_cons_succ];exact xn (L:=l) h
def Rm(i:Nat):TD:=λL U=>match slot L i with
 |some r=>U r
 |none=>False
def dC(d:D):TD:=λ_ U=>U (dv d)
variable{c e:Expr}{ta tb:TD}
def z0(i:Nat){x:Str}(M:X.N[i]?=some x:=by rfl)(B:Vis X.env.scope x:=by walk_at "o")(I:D_ x:=by decide)(q:(x==("__classdict__" : Str))=false:=by decide):ED Y X (.Name x pos) (Rm i):=λH_=>impE (uw M B I q) λG H Q h=>by
 obtain⟨L,o,R,U,j,k⟩:=h;cases e:slot L i with
 |none =>
  simp only[Rm,e]at j
 |some r =>
  simp only[Rm,e]at j;obtain⟨v,Z,h⟩:=R.slots i r (xn e);refine⟨v,Z,k v r H (Same.refl H) ?_ j⟩;obtain⟨kd,d⟩:=r;rcases h with⟨rfl,h⟩|⟨rfl,a,e1,m,c⟩
  ·exact h
  exact⟨a,e1,zah.mpr ⟨_,m,rfl⟩,c⟩
def ed_c{x:Expr}(h:PE X x (tC v))(hr:∀ H O,Rep X.K H O d v):ED Y X x (dC d):=λH_=>impE h λG H Q h=>by
 obtain⟨L,o,R,U,j,k⟩:=h;exact k v (dv d) H (Same.refl H) (hr H _) j
def zc {j pos}:ED Y X (.Constant (.int i) j pos) (dC (.int i)):=ed_c Cv λ_ _=>rfl
def uu{b:Bool} {j pos}:ED Y X (.Constant (.bool b) j pos) (dC (.bl b)):=ed_c z0s λ_ _=>rfl
def sy {j pos}:ED Y X (.Constant .none j pos) (dC .non):=ed_c Ct λ_ _=>rfl
def zf{x:Str} {j pos}:ED Y X (.Constant (.str x) j pos) (dC (.str x)):=ed_c Cp λ_ _=>rfl
structure GC(K:W.Frag)(mg:Str->Option Value)(x:Str)(d:D):Prop where
 ex:∃u v,mg x=some u/\RelV v u/\∀H O,Rep K H O d v
def kg{x:Str}(G:GC X.K X.mg x d)(q:Gl X x:=by rfl)(B:D_ x:=by decide):ED Y X (.Name x pos) (dC d):=by
 obtain⟨u,v,j,r,h⟩:=G.ex;exact ed_c (Fe q j r B) h
def ck{x:Str}(B:X.mg x=none)(j:bootBuiltins x=some (.type n))(I:Gl X x:=by rfl)(q:x≠"__name__":=by decide)(M:D_ x:=by decide):ED Y X (.Name x pos) (dC (.ty n)) :=
 ed_c (Fj I B j (v:=.ty n) rfl q M) λ_ _=>rfl
def kh(K:W.Frag)(j:R2)(s:D->D->(EV->Prop)->Prop):Prop :=
 ∀(H:Hp)(O:List Addr)(x y:D)(vx vy:V)(U:EV->Prop)(Q:VK),(∀a,H a=none->a∉O)->View K H O x vx->View K H O y vy->s x y U ->
  (∀v r H',Same H H'->RV K H H' O r v->U r->Q v H')->j vx vy H Q
def d2(s:D->D->(EV->Prop)->Prop)(ta tb:TD):TD:=λL U=>ta L λx=>tb L λy=>s x.d y.d U
def L1{s:D->D->(EV->Prop)->Prop}(hl:kh X.K rr s):∀G H Q,dj X.K H_ (d2 s ta tb) G H Q->tOp rr (dj X.K H_ ta) (dj X.K H_ tb) G H Q:=λG H Q h=>by
 obtain⟨L,o,R,U,B,k⟩:=h;refine⟨L,o,R,_,B,λv1 N H1 s1 q h1=>⟨L,o,R.to s1,_,h1,λv2 r2 H2 s2 j h2=>?_⟩⟩;exact hl H2 _ N.d r2.d v1 v2 U Q (λa e=>R.ofree ((s1.trans s2).free e)) (q.same s2).view j.view h2 λv r H' I M h=>k v r H' (s1.trans (s2.trans I)) (M.start (s1.trans s2)) h
def bm{s:D->D->(EV->Prop)->Prop}(ho:OpR X (binaryOp op) rr)(hl:kh X.K rr s)(q:ED Y X a ta)(j:ED Y X b tb):ED Y X (.BinOp a op b pos) (d2 s ta tb):=λH_ =>
 impE (Cq ho (q H_) (j H_)) (L1 hl)
def Tj{s:D->D->(EV->Prop)->Prop}(ho:OpR X (compareOp op) rr)(hl:kh X.K rr s)(B:ED Y X a ta)(q:ED Y X b tb)(j:behindInMarks op b=false):ED Y X (.Compare a [op] [b] pos) (d2 s ta tb):=λH_ =>
 impE (Fh ho (B H_) (q H_) j) (L1 hl)
def Fn:OpR X (binaryOp .Mult) (rI IntMulOk λi j=>.int (i*j)):=opI λ_ _ _ _ _ _ _ B q=>PyProof.Rows.mul_int q B
def FdOk(i j:Int):Prop:=j≠0/\j.natAbs.log2<9000
def Mq:OpR X (binaryOp .FloorDiv) (rI FdOk λi j=>.int (i.fdiv j)):=opI λ_ _ _ _ _ _ _ B q=>floordiv_int B.1 q (.inl (PyProof.noPylong_of_log2 B.2))
def sI(C:Int->Int->Prop)(g:Int->Int->D):D->D->(EV->Prop)->Prop:=λx y U=>match x,y with
 |.int i,.int j=>C i j/\U (dv (g i j))
 |_,_=>False
def Pk{K:W.Frag}{C:Int->Int->Prop}{g:Int->Int->D}{q:Int->Int->V}(M:∀ i j H O,Rep K H O (g i j) (q i j)):kh K (rI C q) (sI C g):=by
 intro H O x y Z N U Q ho I B h k;unfold sI at h;split at h
 ·exact⟨_,_,I,B,h.1,k _ _ H (Same.refl H) (by exact M _ _ H O) h.2⟩
 exact h.elim
def sI0(g:Int->Int->D):D->D->(EV->Prop)->Prop:=λx y U=>match x,y with
 |.int i,.int j=>U (dv (g i j))
 |_,_=>False
def k7{K:W.Frag}{g:Int->Int->D}{q:Int->Int->V}(M:∀ i j H O,Rep K H O (g i j) (q i j)):kh K (rI0 q) (sI0 g):=by
 intro H O x y Z N U Q ho I B h k;unfold sI0 at h;split at h
 ·exact⟨_,_,I,B,k _ _ H (Same.refl H) (by exact M _ _ H O) h⟩
 exact h.elim
abbrev sSub:=sI0 λi j=>.int (i-j)
abbrev sFd:=sI FdOk λi j=>.int (i.fdiv j)
abbrev sMod:=sI (λ_ j=>j≠0) λi j=>.int (i.fmod j)
abbrev sPow:=sI CPow λi j=>.int (i ^ j.toNat)
abbrev sLt:=sI0 λi j=>.bl (decide (i<j))
abbrev sGt:=sI0 λi j=>.bl (decide (j<i))
abbrev sGe:=sI0 λi j=>.bl (decide (j<=i))
def ul(q:ED Y X a ta)(j:ED Y X b tb):ED Y X (.BinOp a .Sub b pos) (d2 sSub ta tb):=bm Cy (k7 λ_ _ _ _=>rfl) q j
def Xz(q:ED Y X a ta)(j:ED Y X b tb):ED Y X (.BinOp a .FloorDiv b pos) (d2 sFd ta tb):=bm Mq (Pk λ_ _ _ _=>rfl) q j
def ve(q:ED Y X a ta)(j:ED Y X b tb):ED Y X (.BinOp a .Mod b pos) (d2 sMod ta tb):=bm Fo (Pk λ_ _ _ _=>rfl) q j
def fq(q:ED Y X a ta)(j:ED Y X b tb):ED Y X (.BinOp a .Pow b pos) (d2 sPow ta tb):=bm B3 (Pk λ_ _ _ _=>rfl) q j
def z1l(q:ED Y X a ta)(j:ED Y X b tb):ED Y X (.Compare a [.Gt] [b] pos) (d2 sGt ta tb):=Tj B8 (k7 λ_ _ _ _=>rfl) q j (sn _)
def z1m(q:ED Y X a ta)(j:ED Y X b tb):ED Y X (.Compare a [.GtE] [b] pos) (d2 sGe ta tb):=Tj B9 (k7 λ_ _ _ _=>rfl) q j (sn _)
def sAdd:D->D->(EV->Prop)->Prop:=λx y U=>match x,y with
 |.int i,.int j=>U (dv (.int (i+j)))
 |.str p,.str q=>p.length+q.length<=sizeLine/\U (dv (.str (p++q)))
 |.lst p,.lst q=>p.length+q.length<=sizeLine/\U (df (.lst (p++q)))
 |.tup p,.tup q=>p≠[]/\q≠[]/\p.length+q.length<=sizeLine/\U (dv (.tup (p++q)))
 |_,_=>False
def y7(h:H p=none)(o:HO):Same H (upd H p o):=λb u q=>by rw[y0 (zg q h)];exact q
def Mb{K:W.Frag}{H:Hp}{O:List Addr}{p:Addr}{o:HO}{ds:List D}{xs:List V}(j:H p=none)(r:Reps K H O ds xs):Reps K (upd H p o) O ds xs:=Reps.grow (Grow.same (y7 j o)) _ _ r
def Zs{o:HO}(j:H p=none):Grow O (p::O) H (upd H p o) :=
 ⟨λb u h n=>⟨y7 j o b u h,λz=>(zam.mp z).elim (λe=>zg h j e) n⟩,λb xs h=>y7 j o b _ h,λb q u h=>y7 j o b _ h⟩
def sk{K:W.Frag}{H:Hp}{O:List Addr}{p:Addr}{ds:List D}{xs:List V}(ho:∀ a,H a=none->a∉O)(j:H p=none)(r:Reps K H O ds xs):RV K H (upd H p (.lst xs)) O (df (.lst ds)) (.ref p) :=
 ⟨p,rfl,j,ho p j,xs,zw,Reps.grow (Zs j) _ _ r⟩
def Yo{K:W.Frag}{H:Hp}{O:List Addr}{p:Addr}{ds:List D}{xs:List V}(j:H p=none)(r:Reps K H O ds xs):RV K H (upd H p (.tup xs)) O (dv (.tup ds)) (.ref p) :=
 ⟨p,xs,rfl,⟨SqT.of zw,zw⟩,Mb j r⟩
def L0:kh X.K (λx y H Q=>rI0 (λi j=>.int (i+j)) x y H Q\/(∃i j,x=.str i/\y=.str j/\i.length+j.length<=sizeLine/\Q (.str (i++j)) H)\/rCat x y H Q\/C3 X.K x y H Q) sAdd:=by
 intro H O x y vx vy U Q ho M I h k;unfold sAdd at h;split at h
 ·exact .inl ⟨_,_,M,I,k _ _ H (Same.refl H) (by exact rfl) h⟩
 ·exact .inr (.inl ⟨_,_,M,I,h.1,k _ _ H (Same.refl H) (by exact rfl) h.2⟩)
 ·obtain⟨a1,xs,rfl,q1,q⟩:=M;obtain⟨a2,ys,rfl,Z,r2⟩:=I;refine .inr (.inr (.inl ⟨a1,a2,xs,ys,rfl,rfl,q1,Z,by rw[q.length,r2.length];exact h.1,λp N=>?_⟩))
  exact k _ _ _ (y7 N _) (sk ho N (q.append r2)) h.2
 ·obtain⟨n1,n2,hz,N⟩:=h;obtain⟨a1,xs,rfl,q1,q⟩:=M;obtain⟨a2,ys,rfl,Z,r2⟩:=I;refine .inr (.inr (.inr ⟨a1,a2,xs,ys,rfl,rfl,q1.1,Z.1,?_,by rw[q.length,r2.length];exact hz,λz=>?_,λ_ p B=>?_⟩))
  ·intro z;have e:=q.length;rw[z]at e;exact n1 (List.eq_nil_of_length_eq_zero e.symm)
  ·exfalso;have e:=r2.length;rw[z]at e;exact n2 (List.eq_nil_of_length_eq_zero e.symm)
  exact k _ _ _ (y7 B _) (Yo B (q.append r2)) N
 exact h.elim
def yz(q:ED Y X a ta)(j:ED Y X b tb):ED Y X (.BinOp a .Add b pos) (d2 sAdd ta tb):=bm (Bb.or (So.or (Ba.or P8))) L0 q j
def sMul:D->D->(EV->Prop)->Prop:=λx y U=>match x,y with
 |.int i,.int j=>IntMulOk i j/\U (dv (.int (i*j)))
 |.lst p,.int k=>-(2 ^ 63)<=k/\k<2 ^ 63/\p.length*k.toNat<=sizeLine/\U (df (.lst (List.replicate k.toNat p).flatten))
 |_,_=>False
mutual
def eqD:D->D->Bool
 |.non,.non=>true
 |.bl a,.bl b=>a==b
 |.bl a,.int b=>(if a then 1 else 0)==b
 |.int a,.bl b=>a==(if b then 1 else 0)
 |.int a,.int b=>a==b
 |.str a,.str b=>a==b
 |.tup a,.tup b=>eqDs a b
 |.lst a,.lst b=>eqDs a b
 |_,_=>false
def eqDs:List D->List D->Bool
 |[],[]=>true
 |a::as,b::bs=>eqD a b&&eqDs as bs
 |_,_=>false
end
def okD:Nat->D->Prop
 |0,d=>match d with
  |.non=>True
  |.bl _=>True
  |.int _=>True
  |.str _=>True
  |_=>False
 |n+1,d=>match d with
  |.non=>True
  |.bl _=>True
  |.int _=>True
  |.str _=>True
  |.tup ds=>∀x∈ds,okD n x
  |.lst ds=>∀x∈ds,okD n x
  |_=>False
theorem qi:∀{ds es:List D},eqDs ds es=true ↔ ds.length=es.length/\∀(j:Nat)(x y:D),ds[j]?=some x->es[j]?=some y->eqD x y=true
 |[],[]=>by simp[eqDs]
 |[],y::es=>by simp[eqDs]
 |x::ds,[]=>by simp[eqDs]
 |x::ds,y::es=>by
  rw[eqDs,Bool.and_eq_true,qi];constructor
  ·rintro⟨h,hl,q⟩;refine⟨by simp[hl],λj a b I B=>?_⟩
   cases j with
   |zero=>simp at I B;subst I B;exact h
   |succ j=>exact q j a b (by simpa using I) (by simpa using B)
  rintro⟨hl,q⟩;exact⟨q 0 x y rfl rfl,by simpa using hl,λj a b I B=>q (j+1) a b (by simpa using I) (by simpa using B)⟩
def kf(ds es:List D):eqDs ds es=((List.range (min ds.length es.length)).all (λj=>eqD (ds.getD j .non) (es.getD j .non))&&ds.length==es.length):=by
 rw[Bool.eq_iff_iff,qi,Bool.and_eq_true,List.all_eq_true];constructor
 ·rintro⟨hl,q⟩;refine⟨λj Z=>?_,by simp[hl]⟩
  have N:=List.mem_range.mp Z;have h1:j<ds.length:=by omega
  have h2:j<es.length:=by omega
  have e1:ds[j]?=some ds[j]:=by simp[h1]
  have e2:es[j]?=some es[j]:=by simp[h2]
  have:=q j _ _ e1 e2;simpa [List.getD,e1,e2] using this
 rintro⟨q,hl⟩;have B:ds.length=es.length:=by simpa using hl
 refine⟨B,λj x y I M=>?_⟩;have h1:=(zag.mp I).1;have:=q j (List.mem_range.mpr (by omega))
 simpa [List.getD,I,M] using this
def Lz:∀(n:Nat)(d:D),okD n d->eqD d d=true:=by
 intro n
 induction n with
 |zero=>intro d h;cases d <;> first|exact h.elim|simp[eqD]
 |succ n ih =>
  intro d h;cases d with
  |tup ds =>
   show eqDs ds ds=true;refine qi.mpr ⟨rfl,λj x y B q=>?_⟩;rw[B]at q;cases q;exact ih x (h x (zan B))
  |lst ds =>
   show eqDs ds ds=true;refine qi.mpr ⟨rfl,λj x y B q=>?_⟩;rw[B]at q;cases q;exact ih x (h x (zan B))
  |dk _ _=>exact h.elim
  |ty _=>exact h.elim
  |cn _=>exact h.elim
  |scr _=>exact h.elim
  |ob _ _ _=>exact h.elim
  |_=>simp[eqD]
def Rep.inj(I:Inv X pn G H s):∀(n:Nat)(d e:D)(v:V),okD n d->okD n e->Rep X.K H [] d v->Rep X.K H [] e v->d=e:=by
 intro n
 induction n with
 |zero =>
  intro d e v Z j h1 h2;cases d <;> first|exact Z.elim|(cases e <;> first|exact j.elim|(have z:=(show v=_ from h1).symm.trans (show v=_ from h2);first|rfl|(injection z with z;rw[z])|cases z))
 |succ n ih =>
  have B:∀(ds es:List D)(xs:List V),(∀x∈ds,okD n x)->(∀x∈es,okD n x)->Reps X.K H [] ds xs->Reps X.K H [] es xs->ds=es:=by
   intro ds
   induction ds with
   |nil =>
    intro es xs _ _ r1 r2;have:=r1.length;have h2:=r2.length;rw[this]at h2;exact(List.eq_nil_of_length_eq_zero h2.symm).symm
   |cons d ds ih2 =>
    intro es xs h1 h2 r1 r2;obtain⟨v,r,rfl,q,t⟩:=r1;cases es with
    |nil=>cases r2
    |cons e es =>
     obtain⟨v',r',e1,q',t'⟩:=r2;cases e1;rw[ih d e v (h1 d (zao ..)) (h2 e (zao ..)) q q',ih2 es r (λx hx=>h1 x (zal _ hx)) (λx hx=>h2 x (zal _ hx)) t t']
  intro d e v Z j h1 h2;have a0:∀(a:Addr)(xs ys:List V),SqT X.K H a xs->H a=some (.lst ys)->False:=λa xs ys q1 N=>by
   obtain⟨its,_,p1,_⟩:=I.tuple q1;obtain⟨a1,_,p2,_⟩:=I.list (SqL.of N);exact SeqAt.ne_of_list_tuple p2.isList (show s.heap.IsTuple a its.toArray from p1) rfl
  cases d with
  |tup ds =>
   obtain⟨a,xs,rfl,q1,r1⟩:=h1;cases e with
   |tup es =>
    obtain⟨M,ys,e1,N,r2⟩:=h2;cases e1;have:=I.tuple_inj q1.1 N.1;subst this;rw[B ds es xs Z j r1 r2]
   |lst es =>
    obtain⟨M,ys,e1,N,_,r2⟩:=h2;cases e1;exact(a0 _ _ _ q1.1 N).elim
   |dk _ _=>exact j.elim
   |scr _=>exact j.elim
   |ob _ _ _=>exact j.elim
   |ty _=>exact j.elim
   |cn _=>exact j.elim
   |_=>cases (show V.ref a=_ from h2)
  |lst ds =>
   obtain⟨a,xs,rfl,q1,_,r1⟩:=h1;cases e with
   |tup es =>
    obtain⟨M,ys,e1,N,r2⟩:=h2;cases e1;exact(a0 _ _ _ N.1 q1).elim
   |lst es =>
    obtain⟨M,ys,e1,N,_,r2⟩:=h2;cases e1;have:=I.list_inj (SqL.of q1) (SqL.of N);subst this;rw[B ds es xs Z j r1 r2]
   |dk _ _=>exact j.elim
   |scr _=>exact j.elim
   |ob _ _ _=>exact j.elim
   |ty _=>exact j.elim
   |cn _=>exact j.elim
   |_=>cases (show V.ref a=_ from h2)
  |dk _ _=>exact Z.elim
  |scr _=>exact Z.elim
  |ob _ _ _=>exact Z.elim
  |ty _=>exact Z.elim
  |cn _=>exact Z.elim
  |non =>
   cases e with
   |tup es=>obtain⟨M,ys,e1,_⟩:=h2;cases (show v=_ from h1);cases e1
   |lst es=>obtain⟨M,ys,e1,_⟩:=h2;cases (show v=_ from h1);cases e1
   |dk _ _=>exact j.elim
   |scr _=>exact j.elim
   |ob _ _ _=>exact j.elim
   |ty _=>exact j.elim
   |cn _=>exact j.elim
   |non=>rfl
   |_=>cases (show v=_ from h1);cases (show V.non=_ from h2)
  |bl b =>
   cases e with
   |tup es=>obtain⟨M,ys,e1,_⟩:=h2;cases (show v=_ from h1);cases e1
   |lst es=>obtain⟨M,ys,e1,_⟩:=h2;cases (show v=_ from h1);cases e1
   |dk _ _=>exact j.elim
   |scr _=>exact j.elim
   |ob _ _ _=>exact j.elim
   |ty _=>exact j.elim
   |cn _=>exact j.elim
   |_=>cases (show v=_ from h1);cases (show V.bl b=_ from h2) <;> rfl
  |int b =>
   cases e with
   |tup es=>obtain⟨M,ys,e1,_⟩:=h2;cases (show v=_ from h1);cases e1
   |lst es=>obtain⟨M,ys,e1,_⟩:=h2;cases (show v=_ from h1);cases e1
   |dk _ _=>exact j.elim
   |scr _=>exact j.elim
   |ob _ _ _=>exact j.elim
   |ty _=>exact j.elim
   |cn _=>exact j.elim
   |_=>cases (show v=_ from h1);cases (show V.int b=_ from h2) <;> rfl
  |str b =>
   cases e with
   |tup es=>obtain⟨M,ys,e1,_⟩:=h2;cases (show v=_ from h1);cases e1
   |lst es=>obtain⟨M,ys,e1,_⟩:=h2;cases (show v=_ from h1);cases e1
   |dk _ _=>exact j.elim
   |scr _=>exact j.elim
   |ob _ _ _=>exact j.elim
   |ty _=>exact j.elim
   |cn _=>exact j.elim
   |_=>cases (show v=_ from h1);cases (show V.str b=_ from h2) <;> rfl
inductive Sh(K:W.Frag)(H:Hp)(s:Shared):D->Value->Prop where
 |non:Sh K H s .non .none
 |bl (b:Bool):Sh K H s (.bl b) (.bool b)
 |int (i:Int) (t:Tok):Sh K H s (.int i) (.int i t)
 |str (x:Str) (t:Tok):Sh K H s (.str x) (.str x t)
 |tup {a:Addr} {ds:List D} {xs:List V} {its:List Value} (p:s.heap.IsTuple a its.toArray) (r:Vals xs its) (q:Reps K H [] ds xs):Sh K H s (.tup ds) (.ref a)
 |lst {a:Addr} {ds:List D} {xs:List V} {its:List Value} (p:s.heap.IsList a its.toArray) (r:Vals xs its) (q:Reps K H [] ds xs):Sh K H s (.lst ds) (.ref a)
def j7(I:Inv X pn G H s){x:V}(j:okD n d)(h:Rep X.K H [] d x)(r:RelV x u):Sh X.K H s d u:=by
 cases d with
 |non=>cases (show x=_ from h);cases r;exact .non
 |bl b=>cases (show x=_ from h);cases r;exact .bl b
 |int b=>cases (show x=_ from h);obtain⟨t,rfl⟩:=r;exact .int b t
 |str b=>cases (show x=_ from h);obtain⟨t,rfl⟩:=r;exact .str b t
 |ty _=>cases n <;> exact j.elim
 |cn _=>cases n <;> exact j.elim
 |dk _ _=>cases n <;> exact j.elim
 |scr _=>cases n <;> exact j.elim
 |ob _ _ _=>cases n <;> exact j.elim
 |tup ds =>
  obtain⟨a,xs,rfl,q,t⟩:=h;cases r;obtain⟨its,B,p,_⟩:=I.tuple q.1;exact .tup (show s.heap.IsTuple a its.toArray from p) B t
 |lst ds =>
  obtain⟨a,xs,rfl,q,_,t⟩:=h;cases r;obtain⟨its,B,p,_⟩:=I.list (SqL.of q);exact .lst p.isList B t
def On(I:Inv X pn G H s):∀(n:Nat)(d e:D)(x y:V)(u v:Value)(A:Around),okD n d->okD n e->Rep X.K H [] d x->Rep X.K H [] e y->RelV x u->RelV y v->A.units+n<cLine ->
  SeqAt.RcAt A s u v (eqD d e)/\SeqAt.RcNeAt A s u v (!eqD d e)/\SeqAt.EqAt A s u v (eqD d e):=by
 intro n
 induction n with
 |zero =>
  intro d e x y u v A hd N h1 h2 r1 r2 hu;have B:A.units<cLine:=by omega
  cases j7 I hd h1 r1 with
  |tup=>exact hd.elim
  |lst=>exact hd.elim
  |non =>
   cases j7 I N h2 r2 with
   |non=>exact⟨SeqAt.RcAt.none_none,SeqAt.RcNeAt.none_none,SeqAt.EqAt.same _⟩
   |bl b=>exact⟨SeqAt.RcAt.none_bool b,SeqAt.RcNeAt.none_bool b,SeqAt.EqAt.none_bool b⟩
   |int i t=>exact⟨SeqAt.RcAt.none_int i t,SeqAt.RcNeAt.none_int i t,SeqAt.EqAt.none_int i t⟩
   |str i t=>exact⟨SeqAt.RcAt.none_str i t,SeqAt.RcNeAt.none_str i t,SeqAt.EqAt.none_str i t⟩
   |tup=>exact N.elim
   |lst=>exact N.elim
  |bl a =>
   cases j7 I N h2 r2 with
   |non=>exact⟨SeqAt.RcAt.bool_none a,SeqAt.RcNeAt.bool_none a,SeqAt.EqAt.bool_none a⟩
   |bl b=>exact⟨SeqAt.RcAt.bool_bool a b,SeqAt.RcNeAt.bool_bool a b,SeqAt.EqAt.bool_bool a b⟩
   |int i t=>exact⟨SeqAt.RcAt.bool_int a i t,SeqAt.RcNeAt.bool_int a i t,SeqAt.EqAt.bool_int a i t⟩
   |str i t=>exact⟨SeqAt.RcAt.bool_str a i t,SeqAt.RcNeAt.bool_str a i t,SeqAt.EqAt.bool_str a i t⟩
   |tup=>exact N.elim
   |lst=>exact N.elim
  |int a t =>
   cases j7 I N h2 r2 with
   |non=>exact⟨SeqAt.RcAt.int_none a t,SeqAt.RcNeAt.int_none a t,SeqAt.EqAt.int_none a t⟩
   |bl b=>exact⟨SeqAt.RcAt.int_bool a t b,SeqAt.RcNeAt.int_bool a t b,SeqAt.EqAt.int_bool a t b⟩
   |int i t'=>exact⟨SeqAt.RcAt.int_int a t i t',SeqAt.RcNeAt.int_int a t i t',SeqAt.EqAt.int_int a t i t'⟩
   |str i t'=>exact⟨SeqAt.RcAt.int_str a t i t',SeqAt.RcNeAt.int_str a t i t',SeqAt.EqAt.int_str a t i t'⟩
   |tup=>exact N.elim
   |lst=>exact N.elim
  |str a t =>
   cases j7 I N h2 r2 with
   |non=>exact⟨SeqAt.RcAt.str_none a t,SeqAt.RcNeAt.str_none a t,SeqAt.EqAt.str_none a t⟩
   |bl b=>exact⟨SeqAt.RcAt.str_bool a t b,SeqAt.RcNeAt.str_bool a t b,SeqAt.EqAt.str_bool a t b⟩
   |int i t'=>exact⟨SeqAt.RcAt.str_int a t i t',SeqAt.RcNeAt.str_int a t i t',SeqAt.EqAt.str_int a t i t'⟩
   |str i t'=>exact⟨SeqAt.RcAt.str_str a t i t',SeqAt.RcNeAt.str_str a t i t',SeqAt.EqAt.str_str a t i t'⟩
   |tup=>exact N.elim
   |lst=>exact N.elim
 |succ n ih =>
  intro d e x y u v A hd N h1 h2 r1 r2 hu;have B:A.units<cLine:=by omega
  have a2:A.in1.units+n<cLine:=by
   have:A.in1.units=A.units+1:=rfl;omega
  have a0:∀{l b:Addr}{k:Bool},u=.ref l->v=.ref b->k=eqD d e->SeqAt.RcAt A s (.ref l) (.ref b) k->SeqAt.EqAt A s (.ref l) (.ref b) k:=λ{l b k} e1 e2 ek h=>by
   by_cases hlb:l=b
   ·subst hlb;have hv:x=y:=by
     have z1:x=.ref l:=by
      cases x <;> subst e1 <;> first|(have:=(show Value.ref l=Value.ref _ from r1);cases this;rfl)|(obtain⟨t,z⟩:=r1;cases z)|cases r1
     have z2:y=.ref l:=by
      cases y <;> subst e2 <;> first|(have:=(show Value.ref l=Value.ref _ from r2);cases this;rfl)|(obtain⟨t,z⟩:=r2;cases z)|cases r2
     rw[z1,z2]
    subst hv;have a3:=Rep.inj I (n+1) d e x hd N h1 h2;subst a3;rw[ek,Lz (n+1) d hd];exact SeqAt.EqAt.same _
   exact SeqAt.EqAt.of_refs hlb h
  have items:∀{ds es:List D}{xs ys:List V}{its M:List Value},(∀z∈ds,okD n z)->(∀z∈es,okD n z)->Reps X.K H [] ds xs->Reps X.K H [] es ys->Vals xs its->Vals ys M ->
    ∀j (h1:j<its.toArray.size) (h2:j<M.toArray.size),SeqAt.EqAt A.in1 s its.toArray[j] M.toArray[j] (eqD (ds.getD j .non) (es.getD j .non)):=λ{ds es xs ys its M} o1 o2 q1 q2 w1 w2 j h1 h2=>by
   have l1:=w1.length;have l2:=w2.length;have k1:=q1.length;have k2:=q2.length;have g1:j<ds.length:=by simp at h1;omega
   have g2:j<es.length:=by simp at h2;omega
   have e1:ds[j]?=some ds[j]:=by simp[g1]
   have e2:es[j]?=some es[j]:=by simp[g2]
   obtain⟨x',ex,rx⟩:=q1.get e1;obtain⟨y',ey,ry⟩:=q2.get e2;obtain⟨u',eu,ru⟩:=w1.get ex;obtain⟨v',ev,rv⟩:=w2.get ey;have f1:its.toArray[j]=u':=by
    have:=(zag.mp eu).2;simpa using this
   have f2:M.toArray[j]=v':=by
    have:=(zag.mp ev).2;simpa using this
   rw[f1,f2,show ds.getD j .non=ds[j] by simp[List.getD,e1],show es.getD j .non=es[j] by simp[List.getD,e2]]
   exact(ih ds[j] es[j] x' y' u' v' A.in1 (o1 _ (List.getElem_mem g1)) (o2 _ (List.getElem_mem g2)) rx ry ru rv a2).2.2
  cases j7 I hd h1 r1 with
  |non =>
   cases j7 I N h2 r2 with
   |non=>exact⟨SeqAt.RcAt.none_none,SeqAt.RcNeAt.none_none,SeqAt.EqAt.same _⟩
   |bl b=>exact⟨SeqAt.RcAt.none_bool b,SeqAt.RcNeAt.none_bool b,SeqAt.EqAt.none_bool b⟩
   |int i t=>exact⟨SeqAt.RcAt.none_int i t,SeqAt.RcNeAt.none_int i t,SeqAt.EqAt.none_int i t⟩
   |str i t=>exact⟨SeqAt.RcAt.none_str i t,SeqAt.RcNeAt.none_str i t,SeqAt.EqAt.none_str i t⟩
   |tup p _ _=>exact⟨SeqAt.RcAt.none_tuple p B,SeqAt.RcNeAt.none_tuple p B,SeqAt.EqAt.none_tuple p B⟩
   |lst p _ _=>exact⟨SeqAt.RcAt.none_list p B,SeqAt.RcNeAt.none_list p B,SeqAt.EqAt.none_list p B⟩
  |bl a =>
   cases j7 I N h2 r2 with
   |non=>exact⟨SeqAt.RcAt.bool_none a,SeqAt.RcNeAt.bool_none a,SeqAt.EqAt.bool_none a⟩
   |bl b=>exact⟨SeqAt.RcAt.bool_bool a b,SeqAt.RcNeAt.bool_bool a b,SeqAt.EqAt.bool_bool a b⟩
   |int i t=>exact⟨SeqAt.RcAt.bool_int a i t,SeqAt.RcNeAt.bool_int a i t,SeqAt.EqAt.bool_int a i t⟩
   |str i t=>exact⟨SeqAt.RcAt.bool_str a i t,SeqAt.RcNeAt.bool_str a i t,SeqAt.EqAt.bool_str a i t⟩
   |tup p _ _=>exact⟨SeqAt.RcAt.bool_tuple a p B,SeqAt.RcNeAt.bool_tuple a p B,SeqAt.EqAt.bool_tuple a p B⟩
   |lst p _ _=>exact⟨SeqAt.RcAt.bool_list a p B,SeqAt.RcNeAt.bool_list a p B,SeqAt.EqAt.bool_list a p B⟩
  |int a t =>
   cases j7 I N h2 r2 with
   |non=>exact⟨SeqAt.RcAt.int_none a t,SeqAt.RcNeAt.int_none a t,SeqAt.EqAt.int_none a t⟩
   |bl b=>exact⟨SeqAt.RcAt.int_bool a t b,SeqAt.RcNeAt.int_bool a t b,SeqAt.EqAt.int_bool a t b⟩
   |int i t'=>exact⟨SeqAt.RcAt.int_int a t i t',SeqAt.RcNeAt.int_int a t i t',SeqAt.EqAt.int_int a t i t'⟩
   |str i t'=>exact⟨SeqAt.RcAt.int_str a t i t',SeqAt.RcNeAt.int_str a t i t',SeqAt.EqAt.int_str a t i t'⟩
   |tup p _ _=>exact⟨SeqAt.RcAt.int_tuple a t p B,SeqAt.RcNeAt.int_tuple a t p B,SeqAt.EqAt.int_tuple a t p B⟩
   |lst p _ _=>exact⟨SeqAt.RcAt.int_list a t p B,SeqAt.RcNeAt.int_list a t p B,SeqAt.EqAt.int_list a t p B⟩
  |str a t =>
   cases j7 I N h2 r2 with
   |non=>exact⟨SeqAt.RcAt.str_none a t,SeqAt.RcNeAt.str_none a t,SeqAt.EqAt.str_none a t⟩
   |bl b=>exact⟨SeqAt.RcAt.str_bool a t b,SeqAt.RcNeAt.str_bool a t b,SeqAt.EqAt.str_bool a t b⟩
   |int i t'=>exact⟨SeqAt.RcAt.str_int a t i t',SeqAt.RcNeAt.str_int a t i t',SeqAt.EqAt.str_int a t i t'⟩
   |str i t'=>exact⟨SeqAt.RcAt.str_str a t i t',SeqAt.RcNeAt.str_str a t i t',SeqAt.EqAt.str_str a t i t'⟩
   |tup p _ _=>exact⟨SeqAt.RcAt.str_tuple a t p B,SeqAt.RcNeAt.str_tuple a t p B,SeqAt.EqAt.str_tuple a t p B⟩
   |lst p _ _=>exact⟨SeqAt.RcAt.str_list a t p B,SeqAt.RcNeAt.str_list a t p B,SeqAt.EqAt.str_list a t p B⟩
  |@tup l ds xs its p r q =>
   cases j7 I N h2 r2 with
   |non=>exact⟨SeqAt.RcAt.tuple_none p B,SeqAt.RcNeAt.tuple_none p B,SeqAt.EqAt.tuple_none p B⟩
   |bl b=>exact⟨SeqAt.RcAt.tuple_bool b p B,SeqAt.RcNeAt.tuple_bool b p B,SeqAt.EqAt.tuple_bool b p B⟩
   |int i t=>exact⟨SeqAt.RcAt.tuple_int i t p B,SeqAt.RcNeAt.tuple_int i t p B,SeqAt.EqAt.tuple_int i t p B⟩
   |str i t=>exact⟨SeqAt.RcAt.tuple_str i t p B,SeqAt.RcNeAt.tuple_str i t p B,SeqAt.EqAt.tuple_str i t p B⟩
   |lst p2 _ _=>exact⟨SeqAt.RcAt.tuple_list p p2 B,SeqAt.RcNeAt.tuple_list p p2 B,SeqAt.EqAt.tuple_list p p2 B⟩
   |@tup b es ys M p2 r' q' =>
    have e1:its.toArray.size=ds.length:=by rw[zap,<- r.length,q.length]
    have e2:M.toArray.size=es.length:=by rw[zap,<- r'.length,q'.length]
    have ek:eqD (.tup ds) (.tup es)=((List.range (min its.toArray.size M.toArray.size)).all (λj=>eqD (ds.getD j .non) (es.getD j .non))&&its.toArray.size==M.toArray.size):=by
     rw[e1,e2];exact kf ds es
    rw[ek];have Z:=SeqAt.RcAt.tuples p p2 B (items hd N q q' r r');exact⟨Z,SeqAt.RcNeAt.tuples p p2 B (items hd N q q' r r'),a0 rfl rfl ek.symm Z⟩
  |@lst l ds xs its p r q =>
   cases j7 I N h2 r2 with
   |non=>exact⟨SeqAt.RcAt.list_none p B,SeqAt.RcNeAt.list_none p B,SeqAt.EqAt.list_none p B⟩
   |bl b=>exact⟨SeqAt.RcAt.list_bool b p B,SeqAt.RcNeAt.list_bool b p B,SeqAt.EqAt.list_bool b p B⟩
   |int i t=>exact⟨SeqAt.RcAt.list_int i t p B,SeqAt.RcNeAt.list_int i t p B,SeqAt.EqAt.list_int i t p B⟩
   |str i t=>exact⟨SeqAt.RcAt.list_str i t p B,SeqAt.RcNeAt.list_str i t p B,SeqAt.EqAt.list_str i t p B⟩
   |tup p2 _ _=>exact⟨SeqAt.RcAt.list_tuple p p2 B,SeqAt.RcNeAt.list_tuple p p2 B,SeqAt.EqAt.list_tuple p p2 B⟩
   |@lst b es ys M p2 r' q' =>
    have e1:its.toArray.size=ds.length:=by rw[zap,<- r.length,q.length]
    have e2:M.toArray.size=es.length:=by rw[zap,<- r'.length,q'.length]
    by_cases hsz:its.toArray.size=M.toArray.size
    ·have ek:eqD (.lst ds) (.lst es)=(List.range its.toArray.size).all (λj=>eqD (ds.getD j .non) (es.getD j .non)):=by
      show eqDs ds es=_;rw[kf,<- e1,<- e2,<- hsz];simp
     rw[ek];have Z:=SeqAt.RcAt.lists p p2 hsz B (items hd N q q' r r');exact⟨Z,SeqAt.RcNeAt.lists p p2 hsz B (items hd N q q' r r'),a0 rfl rfl ek.symm Z⟩
    have ek:eqD (.lst ds) (.lst es)=false:=by
     show eqDs ds es=_;have hb:(its.toArray.size==M.toArray.size)=false:=beq_eq_false_iff_ne.mpr hsz;rw[kf,<- e1,<- e2,hb,Bool.and_false]
    rw[ek];have a1:(its.toArray.size != M.toArray.size)=true:=by simpa using hsz
    have Z:=SeqAt.RcAt.lists_lengths p p2 a1 B;exact⟨Z,SeqAt.RcNeAt.lists_lengths p p2 a1 B,a0 rfl rfl ek.symm Z⟩
def rEqD(K:W.Frag)(j:Bool):R2:=λx y H Q=>∃d e,Rep K H [] d x/\Rep K H [] e y/\okD 40 d/\okD 40 e/\Q (.bl (if j then !eqD d e else eqD d e)) H
def Jg(hu:X.A.units+64<cLine):OpR X (compareOp .Eq) (rEqD X.K false):=by
 intro pn s G H x y v u Q I B j h;obtain⟨d,e,h1,h2,N,M,q⟩:=h;exact(On I 40 d e x y v u X.A N M h1 h2 B j (by omega)).1 X.prog X.w X.xe _ ⟨.bl _,H,I,rfl,q⟩
def B4(hu:X.A.units+64<cLine):OpR X (compareOp .NotEq) (rEqD X.K true):=by
 intro pn s G H x y v u Q I B j h;obtain⟨d,e,h1,h2,N,M,q⟩:=h;exact(On I 40 d e x y v u X.A N M h1 h2 B j (by omega)).2.1 X.prog X.w X.xe _ ⟨.bl _,H,I,rfl,q⟩
def sEq:D->D->(EV->Prop)->Prop:=λx y U=>okD 40 x/\okD 40 y/\U (dv (.bl (eqD x y)))
def sNe:D->D->(EV->Prop)->Prop:=λx y U=>okD 40 x/\okD 40 y/\U (dv (.bl (!eqD x y)))
def K5(hu:X.A.units+64<cLine)(I:ED Y X a ta)(B:ED Y X b tb):ED Y X (.Compare a [.Eq] [b] pos) (d2 sEq ta tb) :=
 Tj (Jg hu) (λH O x y N M U Q ho q j h k=>⟨x,y,q.rep0,j.rep0,h.1,h.2.1,k _ _ H (Same.refl H) (by exact rfl) h.2.2⟩) I B (sn _)
section
variable{es:List Expr}{te:TD}{t:TDs}
def Mu:kh X.K (λx y H Q=>rI IntMulOk (λi j=>.int (i*j)) x y H Q\/rRep x y H Q) sMul:=by
 intro H O x y vx vy U Q ho I B h k;unfold sMul at h;split at h
 ·exact .inl ⟨_,_,I,B,h.1,k _ _ H (Same.refl H) (by exact rfl) h.2⟩
 ·obtain⟨h1,h2,h3,Z⟩:=h;obtain⟨a1,xs,rfl,N,q⟩:=I;refine .inr ⟨a1,_,xs,rfl,B,N,h1,h2,by rw[q.length];exact h3,λp M=>?_⟩
  exact k _ _ _ (y7 M _) (sk ho M (q.rep _)) Z
 exact h.elim
def uy(q:ED Y X a ta)(j:ED Y X b tb):ED Y X (.BinOp a .Mult b pos) (d2 sMul ta tb):=bm (Fn.or Cz) Mu q j
def sNeg:D->(EV->Prop)->Prop:=λx U=>match x with
 |.int i=>U (dv (.int (-i)))
 |_=>False
def d1(s:D->(EV->Prop)->Prop)(ta:TD):TD:=λL U=>ta L λx=>s x.d U
def ra(M:ED Y X a ta):ED Y X (.UnaryOp .USub a pos) (d1 sNeg ta):=λH_=>impE (z0r Dc (M H_)) λG H Q h=>by
 obtain⟨L,o,R,U,q,k⟩:=h;refine⟨L,o,R,_,q,λv1 B H1 s1 j h1=>?_⟩;obtain⟨N,d⟩:=B;have I:=j.view;cases d with
 |int i=>exact⟨i,I,k _ _ H1 s1 (by exact rfl) h1⟩
 |_=>exact h1.elim
def truD:D->Option Bool
 |.non=>some false
 |.bl b=>some b
 |.int i=>some (i != 0)
 |.str x=>if x.length<=sizeLine then some ((x.length:Int) != 0) else none
 |.lst ds=>some (!ds.isEmpty)
 |.scr ns=>some (!ns.isEmpty)
 |.tup ds=>some (!ds.isEmpty)
 |.dk _ ds=>some (!ds.isEmpty)
 |.ty _=>none
 |.cn _=>none
 |.ob _ _ _=>none
def ku{K:W.Frag}{H:Hp}{O:List Addr}{ds:List D}{xs:List V}(r:Reps K H O ds xs):xs.isEmpty=ds.isEmpty:=by
 have:=r.length;cases xs <;> cases ds <;> simp_all
def Nr{K:W.Frag}{H:Hp}{O:List Addr}{d:D}{v:V}{b:Bool}(h:View K H O d v)(e:truD d=some b):TruV K v H b:=by
 cases d with
 |non=>cases (show v=_ from h);cases e;rfl
 |bl i=>cases (show v=_ from h);cases e;rfl
 |int i=>cases (show v=_ from h);cases e;rfl
 |str x =>
  cases (show v=_ from h)
  have j:(if x.length<=sizeLine then some ((x.length:Int) != 0) else none)=some b:=e
  split at j
  ·rename_i B;cases j;exact⟨B,rfl⟩
  cases j
 |ty _=>cases e
 |cn _=>cases e
 |ob _ _ _=>cases e
 |lst ds =>
  obtain⟨a,xs,rfl,q,r⟩:=h;cases e;exact .inl ⟨xs,SqL.of q,by rw[ku r]⟩
 |scr ns =>
  obtain⟨a,rfl,q⟩:=h;cases e;exact .inl ⟨_,q.seq,by cases ns <;> rfl⟩
 |tup ds =>
  obtain⟨a,xs,rfl,q,r⟩:=h;cases e;exact .inr (.inl ⟨xs,q.1,by rw[ku r]⟩)
 |dk ks ds =>
  obtain⟨a,xs,rfl,q,l,_,r⟩:=h;cases e;refine .inr (.inr ⟨_,q,?_⟩);have:=r.length;cases ks <;> cases ds <;> cases xs <;> simp_all
def tTru(t:TD):TDb:=λL U=>t L λr=>match truD r.d with
 |some b=>U b
 |none=>False
def xr(h:ED Y X a ta)(M:∀ whole,isTrue a X.env whole=(do let v <- whole;standAt a.pos;holding [v] (truthy v)):=by intro _;rfl):ET Y X a (tTru ta):=λH_=>impT (Mg (h H_) M) λG H Q q=>by
 obtain⟨L,o,R,U,B,k⟩:=q;refine⟨L,o,R,_,B,λv1 I H1 s1 j h1=>?_⟩;cases e:truD I.d with
 |none=>simp only[e]at h1
 |some b =>
  simp only[e]at h1;exact⟨b,Nr j.view e,k b H1 s1 h1⟩
def tBo(t:TD):TDb:=λL U=>t L λr=>match r.d with
 |.bl b=>U b
 |_=>False
def ky{s:D->D->(EV->Prop)->Prop}(ho:OpR X (compareOp op) rr)(hl:kh X.K rr s)(M:ED Y X a ta)(I:ED Y X b tb)(B:behindInMarks op b=false):ET Y X (.Compare a [op] [b] pos) (tBo (d2 s ta tb)):=λH_ =>
 impT (Gp ho (M H_) (I H_) B) λG H Q h=>by
  obtain⟨L,o,R,U,j,k⟩:=h;refine L1 (ta:=ta) (tb:=tb) (H_:=H_.1) hl G H _ ⟨L,o,R,_,j,λv r H' s1 q h1=>?_⟩;obtain⟨N,d⟩:=r;cases d with
  |bl b=>exact⟨b,q.view,k b H' s1 h1⟩
  |_=>exact h1.elim
def Lw(q:ED Y X a ta)(j:ED Y X b tb):ET Y X (.Compare a [.Lt] [b] pos) (tBo (d2 sLt ta tb)):=ky z0u (k7 λ_ _ _ _=>rfl) q j (sn _)
def Y5(q:ED Y X a ta)(j:ED Y X b tb):ET Y X (.Compare a [.Gt] [b] pos) (tBo (d2 sGt ta tb)):=ky B8 (k7 λ_ _ _ _=>rfl) q j (sn _)
def En(q:ED Y X a ta)(j:ED Y X b tb):ET Y X (.Compare a [.GtE] [b] pos) (tBo (d2 sGe ta tb)):=ky B9 (k7 λ_ _ _ _=>rfl) q j (sn _)
def wl(hu:X.A.units+64<cLine)(I:ED Y X a ta)(B:ED Y X b tb):ET Y X (.Compare a [.Eq] [b] pos) (tBo (d2 sEq ta tb)) :=
 ky (Jg hu) (λH O x y N M U Q ho q j h k=>⟨x,y,q.rep0,j.rep0,h.1,h.2.1,k _ _ H (Same.refl H) (by exact rfl) h.2.2⟩) I B (sn _)
def Y4(hu:X.A.units+64<cLine)(I:ED Y X a ta)(B:ED Y X b tb):ET Y X (.Compare a [.NotEq] [b] pos) (tBo (d2 sNe ta tb)) :=
 ky (B4 hu) (λH O x y N M U Q ho q j h k=>⟨x,y,q.rep0,j.rep0,h.1,h.2.1,k _ _ H (Same.refl H) (by exact rfl) h.2.2⟩) I B (sn _)
def Lb:D->Bool
 |.non=>true
 |_=>false
def sIs:D->D->(EV->Prop)->Prop:=λx y U=>match y with
 |.non=>U (dv (.bl (Lb x)))
 |_=>False
def U9:D->D->(EV->Prop)->Prop:=λx y U=>match y with
 |.non=>U (dv (.bl (!Lb x)))
 |_=>False
def U0{K:W.Frag}{H:Hp}{O:List Addr}{d:D}{v:V}(h:View K H O d v):decide (v=.non)=Lb d:=by
 cases d with
 |tup ds=>obtain⟨a,xs,rfl,_⟩:=h;rfl
 |lst ds=>obtain⟨a,xs,rfl,_⟩:=h;rfl
 |scr ns=>obtain⟨a,rfl,_⟩:=h;rfl
 |ob _ _ _=>obtain⟨a,dx,xs,rfl,_⟩:=h;rfl
 |dk ks ds=>obtain⟨a,xs,rfl,_⟩:=h;rfl
 |cn c =>
  cases c with
  |int i=>cases (show v=_ from h);rfl
  |str x=>cases (show v=_ from h);rfl
  |tup cs=>obtain⟨a,o,its,n,xs,rfl,_⟩:=(show CRep K (.tup cs) v from h);rfl
 |_=>cases (show v=_ from h);rfl
def Fy{K:W.Frag}:kh K (λx y H Q=>y=.non/\Q (.bl (decide (x=.non))) H) sIs:=by
 intro H O x y I B U Q ho q j h k;unfold sIs at h;split at h
 ·refine⟨j,?_⟩;rw[U0 q];exact k _ _ H (Same.refl H) (by exact rfl) h
 exact h.elim
def Sy{K:W.Frag}:kh K (λx y H Q=>y=.non/\Q (.bl (!decide (x=.non))) H) U9:=by
 intro H O x y I B U Q ho q j h k;unfold U9 at h;split at h
 ·refine⟨j,?_⟩;rw[U0 q];exact k _ _ H (Same.refl H) (by exact rfl) h
 exact h.elim
def Em(q:ED Y X a ta)(j:ED Y X b tb):ET Y X (.Compare a [.Is] [b] pos) (tBo (d2 sIs ta tb)):=ky B6 Fy q j (sn _)
def Lx(q:ED Y X a ta)(j:ED Y X b tb):ET Y X (.Compare a [.IsNot] [b] pos) (tBo (d2 U9 ta tb)):=ky Fm Sy q j (sn _)
variable{tA tB':TDb}{rest:List Expr}
def bAnd(t u:TDb):TDb:=λL U=>t L λc=>(c=true->u L U)/\(c=false->U false)
def bOr(t u:TDb):TDb:=λL U=>t L λc=>(c=true->U true)/\(c=false->u L U)
def bNot(t:TDb):TDb:=λL U=>t L λc=>U (!c)
def Y3(j:ET Y X a tA):EW Y X (.BoolOp .And [a] pos) tA:=λH_=>Gk (j H_)
def qg(j:ET Y X a tA):EW Y X (.BoolOp .Or [a] pos) tA:=λH_=>Ca (j H_)
def Tf(I:ET Y X a tA)(B:EW Y X (.BoolOp .And (b::rest) pos) tB'):EW Y X (.BoolOp .And (a::b::rest) pos) (bAnd tA tB'):=λH_=>impW (Cb (I H_) (B H_)) λG H Q h=>by
 obtain⟨L,o,R,U,j,k⟩:=h;refine⟨L,o,R,_,j,λc H1 s1 h1=>?_⟩;cases c with
 |true=>exact iteT ⟨L,o,R.to s1,U,h1.1 rfl,λb H2 s2 q=>k b H2 (s1.trans s2) q⟩
 |false=>exact iteF (k false H1 s1 (h1.2 rfl))
def qh(I:ET Y X a tA)(B:EW Y X (.BoolOp .Or (b::rest) pos) tB'):EW Y X (.BoolOp .Or (a::b::rest) pos) (bOr tA tB'):=λH_=>impW (z0p (I H_) (B H_)) λG H Q h=>by
 obtain⟨L,o,R,U,j,k⟩:=h;refine⟨L,o,R,_,j,λc H1 s1 h1=>?_⟩;cases c with
 |true=>exact iteT (k true H1 s1 (h1.1 rfl))
 |false=>exact iteF ⟨L,o,R.to s1,U,h1.2 rfl,λb H2 s2 q=>k b H2 (s1.trans s2) q⟩
def EW.et(h:EW Y X a tA):ET Y X a tA:=λH_=>PW.pt (h H_)
def vd(q:ET Y X a tA):ET Y X (.UnaryOp .Not a pos) (bNot tA):=λH_=>impT (Ce (q H_)) λG H Q h=>by
 obtain⟨L,o,R,U,j,k⟩:=h;exact⟨L,o,R,_,j,λc H1 s1 h1=>k _ H1 s1 h1⟩
def vAnd(ta tb:TD):TD:=λL U=>ta L λx=>match x.d with
 |.bl c=>(c=true->tb L U)/\(c=false->U (dv (.bl false)))
 |_=>False
def vNot(ta:TD):TD:=λL U=>ta L λx=>match x.d with
 |.bl c=>U (dv (.bl (!c)))
 |_=>False
def Xy {op} (h:ED Y X a ta):ED Y X (.BoolOp op [a] pos) ta:=λH_=>Cr (h H_)
def W0(N:ED Y X a ta)(M:ED Y X (.BoolOp .And (b::rest) pos) tb):ED Y X (.BoolOp .And (a::b::rest) pos) (vAnd ta tb):=λH_=>impE (Cw (N H_) (M H_)) λG H Q h=>by
 obtain⟨L,o,R,U,B,k⟩:=h;refine⟨L,o,R,_,B,λv r H1 s1 I h1=>?_⟩;obtain⟨Z,d⟩:=r;cases d with
 |bl c =>
  refine⟨c,I.view,?_⟩;cases c with
  |true=>exact iteT ⟨L,o,R.to s1,U,h1.1 rfl,λv2 r2 H2 s2 j q=>k v2 r2 H2 (s1.trans s2) (j.start s1) q⟩
  |false=>exact iteF (k _ _ H1 s1 (by exact rfl) (h1.2 rfl))
 |_=>exact h1.elim
def Jv(B:ED Y X a ta):ED Y X (.UnaryOp .Not a pos) (vNot ta):=λH_=>impE (Cs (B H_)) λG H Q h=>by
 obtain⟨L,o,R,U,j,k⟩:=h;refine⟨L,o,R,_,j,λv r H1 s1 q h1=>?_⟩;obtain⟨I,d⟩:=r;cases d with
 |bl c=>exact⟨c,q.view,k _ _ H1 s1 (by exact rfl) h1⟩
 |_=>exact h1.elim
def vIf(t:TDb)(ta tb:TD):TD:=λL U=>t L λc=>(c=true->ta L U)/\(c=false->tb L U)
def qk(I:ET Y X c tA)(N:ED Y X a ta)(M:ED Y X b tb):ED Y X (.IfExp c a b pos) (vIf tA ta tb):=λH_=>impE (Mo (I H_) (N H_) (M H_)) λG H Q h=>by
 obtain⟨L,o,R,U,B,k⟩:=h;refine⟨L,o,R,_,B,λc H1 s1 h1=>?_⟩;cases c with
 |true=>exact iteT ⟨L,o,R.to s1,U,h1.1 rfl,λv2 r2 H2 s2 j q=>k v2 r2 H2 (s1.trans s2) (j.start s1) q⟩
 |false=>exact iteF ⟨L,o,R.to s1,U,h1.2 rfl,λv2 r2 H2 s2 j q=>k v2 r2 H2 (s1.trans s2) (j.start s1) q⟩
def aNil:TDs:=λ_ U=>U []
def Kn(te:TD)(t:TDs):TDs:=λL U=>te L λr=>t L λrs=>U (r::rs)
def za:EA Y X [] aNil:=λH_=>impA u4 λG H Q h=>by
 obtain⟨L,o,R,U,j,k⟩:=h;exact k [] [] H (Same.refl H) (by exact rfl) j
def z9(I:ED Y X e te)(hr:EA Y X es t)(hs:S_ X e es:=by rfl):EA Y X (e::es) (Kn te t):=λH_=>impA (w5 (I H_) (hr H_) hs) λG H Q h=>by
 obtain⟨L,o,R,U,q,k⟩:=h;refine⟨L,o,R,_,q,λv r H1 s1 B h1=>⟨L,o,R.to s1,_,h1,λvs rs H2 s2 j h2=>?_⟩⟩;exact k (v::vs) (r::rs) H2 (s1.trans s2) ⟨v,vs,rfl,B.same s2,j.start s1⟩ h2
def jq:List EV->Bool
 |[]=>true
 |r::rs=>(match r.k with|.own=>false|_=>true)&&jq rs
theorem tu:∀{rs:List EV},jq rs=true->∀r∈rs,r.k≠.own
 |[],_=>λr h=>nomatch h
 |⟨k,d⟩::rs,h=>λr hr=>by
  rw[jq,Bool.and_eq_true]at h;rcases zam.mp hr with rfl|hr
  ·intro z;have j:k=.own:=z;subst j;exact absurd h.1 (by simp)
  exact tu h.2 r hr
def dTup(t:TDs):TD:=λL U=>t L λrs=>jq rs=true/\Nat.ble rs.length 1000=true/\U (dv (.tup (rs.map EV.d)))
def dLst(t:TDs):TD:=λL U=>t L λrs=>jq rs=true/\Nat.ble rs.length 1000=true/\U (df (.lst (rs.map EV.d)))
def V0(h:Nat.ble n 1000=true):n<=sizeLine:=zak (Nat.le_of_ble_eq_true h) (by decide)
theorem RVs.length{K:W.Frag}{H0 H:Hp}{O:List Addr}:∀{rs:List EV}{vs:List V},RVs K H0 H O rs vs->vs.length=rs.length
 |[],_,h=>by cases h;rfl
 |r::rs,vs,h=>by
  obtain⟨v,ws,rfl,_,t⟩:=h;simp[RVs.length t]
def zn {x1} (h:EA Y X es t):ED Y X (.Tuple es x1 pos) (dTup t):=λH_=>impE (P2 (h H_)) λG H Q q=>by
 obtain⟨L,o,R,U,B,k⟩:=q;refine⟨L,o,R,_,B,λvs rs H1 s1 j h1=>⟨by rw[j.length];exact V0 h1.2.1,λp I=>?_⟩⟩
 exact k _ _ _ (s1.trans (y7 I _)) (RV.start (Yo I (j.reps (tu h1.1))) s1) h1.2.2
def yu(h:EA Y X es t):ED Y X (.List es pos) (dLst t):=λH_=>impE (Jd (h H_)) λG H Q q=>by
 obtain⟨L,o,R,U,B,k⟩:=q;refine⟨L,o,R,_,B,λvs rs H1 s1 j h1=>⟨by rw[j.length];exact V0 h1.2.1,λp I=>?_⟩⟩
 exact k _ _ _ (s1.trans (y7 I _)) (RV.start (sk (λa e=>R.ofree (s1.free e)) I (j.reps (tu h1.1))) s1) h1.2.2
def sIx1:D->D->(EV->Prop)->Prop:=λx y U=>match x,y with
 |.lst ds,.int i=>match atI ds i with
  |some d=>U (dv d)
  |none=>False
 |.tup ds,.int i=>match atI ds i with
  |some d=>U (dv d)
  |none=>False
 |.scr ns,.int i=>match atI ns i with
  |some n=>U (dv (.int n))
  |none=>False
 |.str z,.int i=>z.length<=sizeLine/\match atI z.cps.toList i with
  |some c=>U (dv (.str ⟨#[c]⟩))
  |none=>False
 |_,_=>False
def Tw{K:W.Frag}{H:Hp}{O:List Addr}{ds:List D}{xs:List V}{i:Int}{d:D}(r:Reps K H O ds xs)(h:atI ds i=some d):∃v,atI xs i=some v/\Rep K H O d v:=by
 unfold atI at h ⊢;rw[r.length];cases e:ixN ds.length i with
 |none=>rw[e]at h;cases h
 |some j =>
  rw[e]at h;exact r.get h
def Fx:kh X.K (rIx X.K) sIx1:=by
 intro H O x y vx vy U Q ho I B h k;unfold sIx1 at h;split at h
 ·obtain⟨a,xs,rfl,q,r⟩:=I;split at h
  ·rename_i d e;obtain⟨v,N,M⟩:=Tw r e;exact .inl ⟨a,xs,_,v,rfl,B,SqL.of q,N,k _ _ H (Same.refl H) (RV.val M) h⟩
  exact h.elim
 ·obtain⟨a,xs,rfl,q,r⟩:=I;split at h
  ·rename_i d e;obtain⟨v,N,M⟩:=Tw r e;exact .inr (.inl ⟨a,xs,_,v,rfl,B,q.1,N,k _ _ H (Same.refl H) (RV.val M) h⟩)
  exact h.elim
 ·obtain⟨a,rfl,q⟩:=I;split at h
  ·rename_i n e;refine .inl ⟨a,_,_,.int n,rfl,B,q.seq,?_,k _ _ H (Same.refl H) (by exact rfl) h⟩
   unfold atI at e ⊢;rw[zLm];cases e2:ixN _ _ with
   |none=>rw[e2]at e;cases e
   |some j =>
    rw[e2]at e;exact(zai ..).trans (congrArg (Option.map V.int) e)
  exact h.elim
 ·obtain⟨Z,h⟩:=h;split at h
  ·rename_i c e;exact .inr (.inr ⟨_,_,c,I,B,Z,e,k _ _ H (Same.refl H) (by exact rfl) h⟩)
  exact h.elim
 exact h.elim
abbrev TDo:=DE->(Option Int->Prop)->Prop
def z0x(K:W.Frag)(H_:Hp)(t:TDo):TO:=λG H Q=>∃L o,REnv K H_ H G L o/\∃U,t L U/\∀b H',Same H H'->U b->Q b H'
def EO(G:Hp->Prop)(X:Cx)(e:Option Expr)(t:TDo):Prop:=∀H_:{H:Hp // G H},PO X e (z0x X.K H_.1 t)
def Bf:TDo:=λ_ U=>U none
def Be(t:TD):TDo:=λL U=>t L λr=>match r.d with
 |.int i=>U (some i)
 |_=>False
def impO{e:Option Expr}{t t':TO}(h:PO X e t)(i:∀ G H Q,t' G H Q->t G H Q):PO X e t':=λpn s G H Q I q=>h pn s G H Q I (i G H Q q)
def vv:EO Y X none Bf:=λH_=>impO Gw λG H Q h=>by
 obtain⟨L,o,R,U,j,k⟩:=h;exact k none H (Same.refl H) j
def yt(h:ED Y X e te):EO Y X (some e) (Be te):=λH_=>impO (Gv (h H_)) λG H Q q=>by
 obtain⟨L,o,R,U,j,k⟩:=q;refine⟨L,o,R,_,j,λv r H1 s1 B h1=>?_⟩;obtain⟨I,d⟩:=r;cases d with
 |int i=>exact⟨i,B.view,k _ H1 s1 h1⟩
 |_=>exact h1.elim
def cutD(xs:List D)(lo hi:Option Int):List D:=(xs.drop (ZZ.sIx xs.length 0 lo)).take (ZZ.sIx xs.length xs.length hi-ZZ.sIx xs.length 0 lo)
def Z9{K:W.Frag}{H:Hp}{O:List Addr}{ds:List D}{xs:List V}(r:Reps K H O ds xs)(lo hi:Option Int):Reps K H O (cutD ds lo hi) (cutV xs lo hi):=by
 unfold cutD cutV;rw[r.length];exact(r.drop _).take _
def sSl:D->Option Int->Option Int->(EV->Prop)->Prop:=λx lo hi U=>match x with
 |.lst ds=>U (df (.lst (cutD ds lo hi)))
 |.scr ns=>U (df (.lst (cutD (ns.map D.int) lo hi)))
 |.tup ds=>¬ (ZZ.sIx ds.length 0 lo=0/\ZZ.sIx ds.length ds.length hi=ds.length)/\U (dv (.tup (cutD ds lo hi)))
 |_=>False
def dSl(te:TD)(tl th:TDo):TD:=λL U=>te L λx=>tl L λl=>th L λu=>sSl x.d l u U
def xb{lo hi:Option Expr}{tl th:TDo}{p2:Pos}(he:ED Y X e te)(hl:EO Y X lo tl)(hu:EO Y X hi th):ED Y X (.Subscript e (.Slice lo hi none p2) pos) (dSl te tl th):=λH_ =>
 impE (Mn (Hl.or Do) (he H_) (hl H_) (hu H_)) λG H Q q=>by
  obtain⟨L,o,R,U,Z,k⟩:=q;refine⟨L,o,R,_,Z,λv r H1 s1 rv h1=>⟨L,o,R.to s1,_,h1,λl H2 s2 h2=>⟨L,o,R.to (s1.trans s2),_,h2,λu H3 s3 I=>?_⟩⟩⟩;have N:=s1.trans s2;have j:=N.trans s3;have M:=(rv.same (s2.trans s3)).view;obtain⟨kd,d⟩:=r;cases d with
  |lst ds =>
   obtain⟨a,xs,rfl,q,r⟩:=M;refine .inl ⟨a,xs,rfl,SqL.of q,λp B=>?_⟩;exact k _ _ _ (j.trans (y7 B _)) (RV.start (sk (λa e=>R.ofree (j.free e)) B (Z9 r l u)) j) I
  |scr ns =>
   obtain⟨a,rfl,q⟩:=M;refine .inl ⟨a,_,rfl,q.seq,λp B=>?_⟩;exact k _ _ _ (j.trans (y7 B _)) (RV.start (sk (λa e=>R.ofree (j.free e)) B (Z9 (Reps.ints ns) l u)) j) I
  |tup ds =>
   obtain⟨a,xs,rfl,q,r⟩:=M;refine .inr ⟨a,xs,rfl,q.1,by rw[r.length];exact I.1,λp B=>?_⟩
   exact k _ _ _ (j.trans (y7 B _)) (RV.start (Yo B (Z9 r l u)) j) I.2
  |_=>exact I.elim
end
def rh(r:EV):Prop:=match r.k with
 |.val=>zl r.d
 |.own=>False
 |.fre=>match r.d with
  |.lst ds=>zp ds
  |.dk _ ds=>zp ds
  |_=>False
 |.new=>True
def RV.lift{K:W.Frag}{H0 H:Hp}{O:List Addr}{r:EV}{v:V}(h:RV K H0 H [] r v)(p:rh r)(ho:∀ a,H0 a=none->a∉O):RV K H0 H O r v:=by
 obtain⟨k,d⟩:=r;cases k with
 |val=>exact Rep.pure _ _ p h
 |own=>exact p.elim
 |fre =>
  obtain⟨a,e,m,n,c⟩:=h;refine⟨a,e,m,ho a m,?_⟩;cases d with
  |lst ds=>obtain⟨xs,q,r⟩:=c;exact⟨xs,q,Reps.pure _ _ p r⟩
  |dk ks ds=>obtain⟨xs,q,l,nd,r⟩:=c;exact⟨xs,q,l,nd,Reps.pure _ _ p r⟩
  |_=>exact c.elim
 |new=>exact RepN.to (Same.refl H) (λa z=>⟨ho a z.2,z.2⟩) _ _ h
abbrev FT:=List D->(EV->Prop)->Prop
def spD(K:W.Frag)(n:Nat)(T:FT):Sp:=λvs H Q _=>∃ds U,ds.length=n/\Reps K H [] ds vs/\T ds U/\∀v r H',Same H H'->RV K H H' [] r v->rh r->U r->Q v H'
structure FD(P:Program)(w:World)(K:W.Frag)(mg:Str->Option Value)(base:Heap)(k:Nat)(x:Str)(ps:List Str)(T:FT):Prop where
 ex:∃f fd,FnOk P w K mg base CX0 k f fd ps (spD K ps.length T)/\u0 K fd ps []/\W.keepIn K (.ref f)=true/\mg x=some (.ref f)
def D2(n:Nat)(T:FT)(t:TDs):TD:=λL U=>t L λrs=>Nat.beq rs.length n=true/\T (rs.map EV.d) U
section
variable{x:Str}{ps:List Str}{T:FT}{k:Nat}{es:List Expr}{t:TDs}{p:Pos}
def Pm:∀G H Q,dj X.K H_ (D2 ps.length T t) G H Q->Dm (spD X.K ps.length T) [] E0 (E2 X.K H_ t) G H Q:=λG H Q q=>by
 obtain⟨L,o,R,U,B,M⟩:=q;refine⟨L,o,R,_,B,λvs rs H1 s1 j h1=>?_⟩;show spD X.K ps.length T (vs++[]) H1 Q E0;rw[List.append_nil];refine⟨rs.map EV.d,U,by rw[zLm];exact Nat.eq_of_beq_eq_true h1.1,j.reps0,h1.2,λv r H2 s2 I pr h2=>?_⟩
 exact M v r H2 (s1.trans s2) (RV.start (I.lift pr λa e=>R.ofree (s1.free e)) s1) h2
def zy(F:FD X.prog X.w X.K X.mg X.base k x ps T)(hr:Room k X.A)(N:EA Y X (e::es) t)(I:Gl X x:=by rfl)(q:D_ x:=by decide)(M:S_ X e es:=by rfl)(j:B_ X es pos:=by rfl):ED Y X (.Call (.Name x p) (e::es) [] pos) (D2 ps.length T t):=λH_=>by
 obtain⟨f,fd,ok,b,B,m⟩:=F.ex;exact impE (Fi ok hr I m B b .nil Ww (N H_) q M j) Pm
def D6(K:W.Frag)(H:Hp)(O:List Addr):List D->List V->Prop
 |[],vs=>vs=[]
 |d::ds,vs=>∃v ws,vs=v::ws/\View K H O d v/\D6 K H O ds ws
theorem RVs.views{K:W.Frag}{H0 H:Hp}{O:List Addr}:∀{rs:List EV}{vs:List V},RVs K H0 H O rs vs->D6 K H O (rs.map EV.d) vs
 |[],_,h=>h
 |r::rs,vs,h=>by
  obtain⟨v,ws,e,q,t⟩:=h;exact⟨v,ws,e,q.view,t.views⟩
def Nf(K:W.Frag)(r:List V->Hp->VK->Prop)(s:FT):Prop :=
 ∀(H:Hp)(O:List Addr)(ds:List D)(vs:List V)(U:EV->Prop)(Q:VK),(∀a,H a=none->a∉O)->D6 K H O ds vs->s ds U->(∀v r H',Same H H'->RV K H H' O r v->U r->Q v H')->r vs H Q
def dCB(s:FT)(t:TDs):TD:=λL U=>t L λrs=>s (rs.map EV.d) U
def Pl{r:List V->Hp->VK->Prop}{s:FT}(hl:Nf X.K r s):∀G H Q,dj X.K H_ (dCB s t) G H Q->tCB r (E2 X.K H_ t) G H Q:=λG H Q q=>by
 obtain⟨L,o,R,U,B,M⟩:=q;refine⟨L,o,R,_,B,λvs rs H1 s1 j h1=>?_⟩;exact hl H1 _ _ vs U Q (λa e=>R.ofree (s1.free e)) j.views h1 λv r H2 s2 I h2=>M v r H2 (s1.trans s2) (I.start s1) h2
def u9{id:String}{r:List V->Hp->VK->Prop}{s:FT}(hc:vz X (.builtin id) r)(hl:Nf X.K r s)(M:X.mg x=none)(B:bootBuiltins x=some (.builtin id))(ha:EA Y X (e::es) t)(N:Gl X x:=by rfl)(I:x≠"__name__":=by decide)(q:D_ x:=by decide)(Z:S_ X e es:=by rfl)(j:B_ X es pos:=by rfl):ED Y X (.Call (.Name x p) (e::es) [] pos) (dCB s t):=λH_ =>
 impE (Zb hc N M B (ha H_) I q Z j) (Pl hl)
def qm{T:String}{r:List V->Hp->VK->Prop}{s:FT}(hc:vz X (.type T) r)(hl:Nf X.K r s)(M:X.mg x=none)(B:bootBuiltins x=some (.type T))(ha:EA Y X (e::es) t)(N:Gl X x:=by rfl)(I:x≠"__name__":=by decide)(q:D_ x:=by decide)(Z:S_ X e es:=by rfl)(j:B_ X es pos:=by rfl):ED Y X (.Call (.Name x p) (e::es) [] pos) (dCB s t):=λH_ =>
 impE (ga hc N M B (ha H_) I q Z j) (Pl hl)
def sLen:FT:=λds U=>match ds with
 |[.lst l]=>U (dv (.int l.length))
 |[.tup l]=>U (dv (.int l.length))
 |[.scr l]=>U (dv (.int l.length))
 |[.str z]=>z.length<=sizeLine/\U (dv (.int z.length))
 |_=>False
def Mw:Nf X.K (λxs H Q=>(∃p ys,xs=[.ref p]/\(SqL X.K H p ys\/SqT X.K H p ys)/\Q (.int ys.length) H)\/∃z,xs=[.str z]/\z.length<=sizeLine/\Q (.int z.length) H) sLen:=by
 intro H O ds vs U Q ho j h k;unfold sLen at h;split at h
 ·obtain⟨v,ws,rfl,⟨a,xs,rfl,q,r⟩,rfl⟩:=j;refine .inl ⟨a,xs,rfl,.inl (SqL.of q),?_⟩;rw[r.length];exact k _ _ H (Same.refl H) (by exact rfl) h
 ·obtain⟨v,ws,rfl,⟨a,xs,rfl,q,r⟩,rfl⟩:=j;refine .inl ⟨a,xs,rfl,.inr q.1,?_⟩;rw[r.length];exact k _ _ H (Same.refl H) (by exact rfl) h
 ·obtain⟨v,ws,rfl,⟨a,rfl,q⟩,rfl⟩:=j;refine .inl ⟨a,_,rfl,.inl q.seq,?_⟩;rw[zLm];exact k _ _ H (Same.refl H) (by exact rfl) h
 ·obtain⟨v,ws,rfl,B,rfl⟩:=j;cases (show v=_ from B);exact .inr ⟨_,rfl,h.1,k _ _ H (Same.refl H) (by exact rfl) h.2⟩
 exact h.elim
def xt(q:X.mg "len" = none)(M:EA Y X (e::es) t)(B:Gl X "len":=by rfl)(I:S_ X e es:=by rfl)(j:B_ X es pos:=by rfl):ED Y X (.Call (.Name "len" p) (e::es) [] pos) (dCB sLen t) :=
 u9 (kz.or W3) Mw q PySem.boot_len M B (by decide) (by decide) I j
end
def EV.sto(r:EV):EV:=⟨match r.k with
 |.fre=>.own
 |.new=>.val
 | k=>k,r.d⟩
def EV.ret(r:EV):EV:=⟨match r.k with
 |.own=>.fre
 | k=>k,r.d⟩
def setS:DE->Nat->EV->DE
 |[],_,_=>[]
 |_::r,0,v=>some v::r
 |x::r,i+1,v=>x::setS r i v
theorem xx:∀(L:DE)(i:Nat)(v:EV),setS L i v=L.set i (some v)
 |[],_,_=>rfl
 |_::_,0,_=>rfl
 |x::r,i+1,v=>by rw[setS,xx r i v,List.set_cons_succ]
def Con1.grow{K:W.Frag}{H H':Hp}{O O':List Addr}{d:D}{a:Addr}(h:Con1 K H O d a)(s:∀ u,H a=some u->H' a=some u)(g:Grow O O' H H'):Con1 K H' O' d a:=by
 cases d with
 |lst ds=>obtain⟨xs,q,r⟩:=h;exact⟨xs,s _ q,Reps.grow g _ _ r⟩
 |dk ks ds=>obtain⟨xs,q,l,n,r⟩:=h;exact⟨xs,s _ q,l,n,Reps.grow g _ _ r⟩
 |_=>exact h.elim
def Con1.mtb{K:W.Frag}{H:Hp}{O:List Addr}{d:D}{a:Addr}(h:Con1 K H O d a):(∃u,H a=some u)/\(∀xs,H a≠some (.tup xs))/\∀j u,H a≠some (.frz j u):=by
 cases d with
 |lst ds=>obtain⟨xs,q,r⟩:=h;exact⟨⟨_,q⟩,(λxs z=>by rw[q]at z;cases z),(λj u z=>by rw[q]at z;cases z)⟩
 |dk ks ds=>obtain⟨xs,q,r⟩:=h;exact⟨⟨_,q⟩,(λxs z=>by rw[q]at z;cases z),(λj u z=>by rw[q]at z;cases z)⟩
 |_=>exact h.elim
def REnv.setV(R:REnv K H_ H G L o)(i:Nat)(h:Rep K H (o.map Prod.snd) d v):REnv K H_ H (G.set i (some v)) (setS L i (dv d)) o where
 same:=R.same
 fresh:=R.fresh
 trk:=R.trk
 mtb:=R.mtb
 nda:=R.nda
 len:=by rw[xx,List.length_set,List.length_set];exact R.len
 slots:=λj r e=>by
  rw[xx]at e;by_cases hj:j=i
  ·subst hj;have hl:j<L.length:=by
    rcases Nat.lt_or_ge j L.length with z|z
    ·exact z
    rw[List.getElem?_eq_none (by rw[List.length_set];exact z)]at e
    cases e
   rw[List.getElem?_set_self hl]at e;cases e;exact⟨v,List.getElem?_set_self (by rw[R.len];exact hl),.inl ⟨rfl,h⟩⟩
  rw[List.getElem?_set_ne (Ne.symm hj)]at e;obtain⟨w,B,q⟩:=R.slots j r e;exact⟨w,by rw[List.getElem?_set_ne (Ne.symm hj)];exact B,q⟩
def REnv.setO(R:REnv K H_ H G L o)(s:Same H H')(i:Nat){a:Addr}(I:H a=none)(c:Con1 K H' (a::o.map Prod.snd) d a) :
  REnv K H_ H' (G.set i (some (.ref a))) (setS L i (dO d)) ((i,a)::o)/\Grow (o.map Prod.snd) (((i,a)::o).map Prod.snd) H H':=by
 have g:Grow (o.map Prod.snd) (((i,a)::o).map Prod.snd) H H':=by
  refine⟨λb u h n=>⟨s b u h,λz=>?_⟩,λb xs h=>s b _ h,λb ob u h=>s b _ h⟩;rw[List.map_cons]at z;rcases zam.mp z with z|z
  ·exact zg h I z
  exact n z
 refine⟨?_,g⟩;have M:=R.to s;exact {
  same:=M.same
  fresh:=λp B=>by
   rcases zam.mp B with rfl|B
   ·exact R.same.free I
   exact R.fresh p B
  trk:=λp B=>by
   rcases zam.mp B with rfl|B
   ·exact c.mtb.1
   exact M.trk p B
  mtb:=λp B=>by
   rcases zam.mp B with rfl|B
   ·exact c.mtb.2
   exact M.mtb p B
  nda:=by
   rw[List.map_cons,List.nodup_cons];exact⟨λz=>R.ofree I z,R.nda⟩
  len:=by rw[xx,List.length_set,List.length_set];exact R.len
  slots:=λj r e=>by
   rw[xx]at e;by_cases hj:j=i
   ·subst hj;have hl:j<L.length:=by
     rcases Nat.lt_or_ge j L.length with z|z
     ·exact z
     rw[List.getElem?_eq_none (by rw[List.length_set];exact z)]at e
     cases e
    rw[List.getElem?_set_self hl]at e;cases e;exact⟨_,List.getElem?_set_self (by rw[R.len];exact hl),.inr ⟨rfl,a,rfl,zao ..,c⟩⟩
   rw[List.getElem?_set_ne (Ne.symm hj)]at e;obtain⟨w,N,q⟩:=R.slots j r e;refine⟨w,by rw[List.getElem?_set_ne (Ne.symm hj)];exact N,?_⟩
   rcases q with⟨k,q⟩|⟨k,a',e1,m,Z⟩
   ·exact .inl ⟨k,Rep.grow g _ _ q⟩
   exact .inr ⟨k,a',e1,zal _ m,Z.grow (λu q=>s _ _ q) g⟩}
def REnv.put(R:REnv K H_ H G L o)(s:Same H H')(i:Nat)(h:RV K H H' (o.map Prod.snd) r v)(j:r.k≠.own) :
  ∃o',REnv K H_ H' (G.set i (some v)) (setS L i r.sto) o'/\Grow (o.map Prod.snd) (o'.map Prod.snd) H H':=by
 obtain⟨k,d⟩:=r;cases k with
 |val=>exact⟨_,(R.to s).setV i h,Grow.same s⟩
 |own=>exact absurd rfl j
 |fre =>
  obtain⟨a,rfl,m,n,c⟩:=h;exact⟨_,R.setO s i m c⟩
 |new=>exact⟨_,(R.to s).setV i (RepN.rep (λa z=>z.1) _ _ h),Grow.same s⟩
theorem Vd:∀{o:List (Nat×Addr)},(o.map Prod.snd).Nodup->∀{p q:Nat×Addr},p∈o->q∈o->p.2=q.2->p=q
 |[],_,_,_,h,_,_=>nomatch h
 |x::o,nd,p,q,hp,hq,e=>by
  rw[List.map_cons,List.nodup_cons]at nd;rcases zam.mp hp with h1|hp
  ·rcases zam.mp hq with h2|hq
   ·rw[h1,h2]
   exact absurd (zah.mpr ⟨q,hq,by rw[<- e,h1]⟩) nd.1
  rcases zam.mp hq with h2|hq
  ·exact absurd (zah.mpr ⟨p,hp,by rw[e,h2]⟩) nd.1
  exact Vd nd.2 hp hq e
def REnv.chg(R:REnv K H_ H G L o){i:Nat}{a:Addr}{d d':D}{ho:HO}(hs:L[i]?=some (some (dO d)))(a0:G[i]?=some (some (.ref a)))(I:(i,a)∈o)(M:(∀ xs,ho≠.tup xs)/\∀ B u,ho≠.frz B u)(c:(∀ ds xs,Reps K H (o.map Prod.snd) ds xs->Reps K (upd H a ho) (o.map Prod.snd) ds xs)->Con1 K (upd H a ho) (o.map Prod.snd) d' a) :
  REnv K H_ (upd H a ho) G (setS L i (dO d')) o/\Grow (o.map Prod.snd) (o.map Prod.snd) H (upd H a ho):=by
 have ha:a∈o.map Prod.snd:=zah.mpr ⟨_,I,rfl⟩;obtain⟨m1,m2⟩:=R.mtb _ I;have g:Grow (o.map Prod.snd) (o.map Prod.snd) H (upd H a ho) :=
  ⟨λb u h n=>⟨by rw[y0 (show b≠a from λz=>n (by rw[z];exact ha))];exact h,n⟩,λb xs h=>by rw[y0 (show b≠a from λz=>m1 xs (by rw[<- z];exact h))];exact h,λb B u h=>by rw[y0 (show b≠a from λz=>m2 B u (by rw[<- z];exact h))];exact h⟩
 refine⟨?_,g⟩;exact {
  same:=λb u h=>by
   have:b≠a:=λz=>by
    have:=R.fresh _ I;rw[<- z,h]at this;cases this
   rw[y0 this];exact R.same b u h
  fresh:=R.fresh
  trk:=λp hp=>by
   by_cases e:p.2=a
   ·exact⟨ho,by rw[e];exact zw⟩
   rw[y0 e];exact R.trk p hp
  mtb:=λp hp=>by
   by_cases e:p.2=a
   ·rw[e,zw];exact⟨λxs z=>M.1 xs (Option.some.inj z),λB u z=>M.2 B u (Option.some.inj z)⟩
   rw[y0 e];exact R.mtb p hp
  nda:=R.nda
  len:=by rw[xx,List.length_set];exact R.len
  slots:=λj r e=>by
   rw[xx]at e;by_cases hj:j=i
   ·subst hj;have hl:j<L.length:=(zag.mp hs).1;rw[List.getElem?_set_self hl]at e;cases e;obtain⟨v,ev,q⟩:=R.slots j _ hs;rcases q with⟨k,_⟩|⟨_,N,e1,Z,_⟩
    ·cases k
    have a2:N=a:=by
     rw[a0]at ev;cases ev;cases e1;rfl
    subst a2;exact⟨v,ev,.inr ⟨rfl,N,e1,I,c λds xs q=>Reps.grow g _ _ q⟩⟩
   rw[List.getElem?_set_ne (Ne.symm hj)]at e;obtain⟨w,ew,q⟩:=R.slots j r e;refine⟨w,ew,?_⟩;rcases q with⟨k,q⟩|⟨k,N,e1,Z,c'⟩
   ·exact .inl ⟨k,Rep.grow g _ _ q⟩
   refine .inr ⟨k,N,e1,Z,c'.grow (λu q=>?_) g⟩;have a1:N≠a:=λz=>by
    exact hj (congrArg Prod.fst (Vd R.nda Z I z))
   rw[y0 a1];exact q}
section
variable{st:Stmt}{rest:List Stmt}{t u:TDS}{te:TD}{tc:TDb}
def sNil:TDS:=λL Z=>Z.nx L
def sSeq(t u:TDS):TDS:=λL Z=>t L {Z with nx:=λρ'=>u ρ' Z}
def ym:SDs Y X [] sNil:=λH_=>Vf Wu λD G H h=>by
 obtain⟨L,o,R,Z,q,j,_⟩:=h;exact j L G H o Grow.refl R q
def zd(h1:SD Y X st t)(h2:SDs Y X rest u):SDs Y X (st::rest) (sSeq t u):=λH_=>Vf (u3 (h1 H_) (h2 H_)) λD G H h=>by
 obtain⟨L,o,R,Z,hZ,k1,k2,k3,N⟩:=h;refine⟨L,o,R,_,hZ,λρ' a0 H' o' g R' q=>?_,k2,k3,N⟩;exact⟨ρ',o',R',Z,q,λB j H2 M g2 R2 I=>k1 B j H2 M (g.trans g2) R2 I,λB j H2 M g2 R2 I=>k2 B j H2 M (g.trans g2) R2 I,λB j H2 M g2 R2 I=>k3 B j H2 M (g.trans g2) R2 I,N⟩
def zk(h1:SD Y X st t):SDs Y X [st] t:=λH_=>jy (h1 H_)
def Wq:SD Y X (.Continue pos) (λL Z=>Z.ct L):=λH_=>impS Wv λD G H h=>by
 obtain⟨L,o,R,Z,q,_,_,j,_⟩:=h;exact j L G H o Grow.refl R q
def tw:SD Y X st (λ_ _=>False):=λH_=>impS Mh λD G H h=>by
 obtain⟨_,_,_,_,j,_⟩:=h;exact j.elim
def K2:ED Y X e (λ_ _=>False):=λH_ pn s G H Q I h=>by
 obtain⟨_,_,_,_,j,_⟩:=h;exact j.elim
def sRet(te:TD):TDS:=λL Z=>te L λr=>Z.rt r.ret
theorem RV.ret{K:W.Frag}{H_ H H':Hp}{G:St}{L:DE}{o:List (Nat×Addr)}(R:REnv K H_ H G L o){r:EV}{v:V}(h:RV K H H' (o.map Prod.snd) r v):RV K H_ H' [] r.ret v:=by
 obtain⟨k,d⟩:=r;cases k with
 |val=>exact Rep.sub (O':=[]) (λ_ z=>absurd z (by simp)) _ _ h
 |own =>
  obtain⟨a,e,m,c⟩:=h;obtain⟨p,q,ep⟩:=zah.mp m;subst ep;exact⟨p.2,e,R.fresh p q,by simp,c.sub λb j=>by
   have:b=p.2:=by simpa using j
   rw[this];exact m⟩
 |fre =>
  obtain⟨a,e,m,n,c⟩:=h;exact⟨a,e,R.same.free m,by simp,c.sub λb j=>by
   have:b=a:=by simpa using j
   rw[this];exact zao ..⟩
 |new=>exact RepN.to (Same.refl H') (λa z=>⟨by simp,R.same.free z.2⟩) _ _ h
def yd(B:ED Y X e te):SD Y X (.Return (some e) pos) (sRet te):=λH_=>impS (Us (B H_)) λD G H h=>by
 obtain⟨L,o,R,Z,I,k1,N,M,q⟩:=h;refine⟨L,o,R,_,I,λv r H1 s1 j h1=>?_⟩;exact q v r.ret H1 (R.same.trans s1) (RV.ret R j) h1
def sIf(tc:TDb)(t u:TDS):TDS:=λL Z=>tc L λc=>(c=true->t L Z)/\(c=false->u L Z)
def xy{a b:List Stmt}(hc:ET Y X c tc)(ha:SDs Y X a t)(hb:SDs Y X b u):SD Y X (.If c a b pos) (sIf tc t u):=λH_=>impS (Gr (hc H_) (ha H_) (hb H_)) λD G H h=>by
 obtain⟨L,o,R,Z,hZ,k1,k2,k3,N⟩:=h;refine⟨L,o,R,_,hZ,λc H1 s1 h1=>?_⟩;have g:Grow (o.map Prod.snd) (o.map Prod.snd) H H1:=Grow.same s1;have M:∀{v:TDS},v L Z->R5 X.K H_.1 v D G H1:=λhv=>⟨L,o,R.to s1,Z,hv,λq j H2 I g2 R2 B=>k1 q j H2 I (g.trans g2) R2 B,λq j H2 I g2 R2 B=>k2 q j H2 I (g.trans g2) R2 B,λq j H2 I g2 R2 B=>k3 q j H2 I (g.trans g2) R2 B,N⟩;cases c with
 |true=>exact iteT (M (h1.1 rfl))
 |false=>exact iteF (M (h1.2 rfl))
def sCut(t:TDS):TDS:=λL Z=>∃J:DE->Prop,t L {Z with nx:=J}/\∀ρ',J ρ'->Z.nx ρ'
def uc(h:SD Y X st t):SD Y X st (sCut t):=λH_=>impS (h H_) λD G H h=>by
 obtain⟨L,o,R,Z,⟨J,hZ,hJ⟩,k1,k2,N,M⟩:=h;exact⟨L,o,R,_,hZ,λj q H2 I g2 R2 B=>k1 j q H2 I g2 R2 (hJ j B),k2,N,M⟩
def Hu(te:TD):TDS:=λL Z=>te L λ_=>Z.nx L
def Z7(q:ED Y X e te)(hs:swapsWith e none pos.line X.env=pure false:=by rfl):SD Y X (.Expr e pos) (Hu te):=λH_=>impS (t8 (q H_) hs) λD G H h=>by
 obtain⟨L,o,R,Z,B,j,k2,N,M⟩:=h;exact⟨L,o,R,_,B,λv r H1 s1 I h1=>j L G H1 o (Grow.same s1) (R.to s1) h1⟩
def sSet(i:Nat)(te:TD):TDS:=λL Z=>te L λr=>(match r.k with|.own=>False|_=>True)/\Z.nx (setS L i r.sto)
def vo{r:EV}(h:match r.k with|.own=>False|_=>True):r.k≠.own:=by
 obtain⟨k,d⟩:=r;cases k with
 |own=>exact h.elim
 |val=>exact λz=>nomatch z
 |fre=>exact λz=>nomatch z
 |new=>exact λz=>nomatch z
def y9(i:Nat){x:Str}(hN:X.N.Nodup)(M:ED Y X e te)(hi:X.N[i]?=some x:=by rfl)(B:Loc X.env.scope x:=by first|exact Or.inl rfl|exact Or.inr rfl)(hs:swapsWith e (some (.Name x pos')) pos.line X.env=pure false:=by rfl)(I:X.fn x=true\/X.env.scope.names.lookup x=some .local:=by first|exact .inl rfl|exact .inr rfl|assumption):SD Y X (.Assign [.Name x pos'] e pos) (sSet i te):=λH_=>impS (jz hN hi B (M H_) hs I) λD G H h=>by
 obtain⟨L,o,R,Z,hZ,q,k2,k3,k4⟩:=h;refine⟨L,o,R,_,hZ,λv r H1 s1 j h1=>?_⟩;obtain⟨o',R',g⟩:=R.put s1 i j (vo h1.1);exact q _ _ H1 o' g R' h1.2
abbrev TGD:=D->DE->(DE->Prop)->Prop
def Wd(K:W.Frag)(g2:TG)(g:TGD):Prop:=∀(H_ H:Hp)(G:St)(L:DE)(o:List (Nat×Addr))(d:D)(v:V)(N:DE->Prop)(Q:St->Hp->Prop),REnv K H_ H G L o->Rep K H (o.map Prod.snd) d v->g d L N ->
 (∀ρ' σ',REnv K H_ H σ' ρ' o->N ρ'->Q σ' H)->g2 v G H Q
def gN(i:Nat):TGD:=λd L N=>N (setS L i (dv d))
def yj{K:W.Frag}(i:Nat):Wd K (rq i) (gN i):=λH_ H G L o d v N Q R h j k=>k _ _ (R.setV i h) j
def gT2(i j:Nat):TGD:=λd L N=>match d with
 |.tup [a,b]=>N (setS (setS L i (dv a)) j (dv b))
 |_=>False
def ut{K:W.Frag}(i j:Nat):Wd K (gTup K 2 (dt (rq i) (dt (rq j) gNil))) (gT2 i j):=λH_ H G L o d v N Q R h B k=>by
 unfold gT2 at B;split at B
 ·rename_i a b;obtain⟨p,xs,rfl,q,r⟩:=h;obtain⟨v1,M,rfl,h1,v2,r2,rfl,h2,rfl⟩:=r;refine⟨p,_,rfl,q.1,rfl,v1,_,rfl,v2,_,rfl,rfl,?_⟩;have I:=R.setV i h1;have R2:=I.setV j h2;exact k _ _ R2 B
 exact B.elim
def sUn(te:TD)(g:TGD):TDS:=λL Z=>te L λr=>(match r.k with|.own=>False|_=>True)/\g r.d L Z.nx
def Hn{tg:Expr}{g2:TG}(he:ED Y X e te)(N:PG X tg g2)(hl:Wd X.K g2 g)(hs:swapsWithSole [tg] e pos.line X.env=pure false:=by rfl)(M:swappedStores [tg] e X.env=pure none:=by rfl)(h1:(assignEach [tg] X.env).map (·.2)=[assign tg X.env]:=by rfl):SD Y X (.Assign [tg] e pos) (sUn te g):=λH_=>impS (Ut (he H_) N hs M h1) λD G H h=>by
 obtain⟨L,o,R,Z,hZ,I,k2,k3,k4⟩:=h;refine⟨L,o,R,_,hZ,λv r H1 s1 B h1=>?_⟩;exact hl H_.1 H1 G L o r.d v _ _ (R.to s1) (B.solid (vo h1.1)) h1.2 λρ' j R' q=>I ρ' j H1 o (Grow.same s1) R' q
def sWh(tc:TDb)(tb:TDS):TDS:=λL Z=>∃(P:DE->Prop)(μ:DE->Nat),P L/\∀L,P L->tc L λc =>
 (c=true->tb L {Z with nx:=λρ'=>P ρ'/\μ ρ'<μ L,ct:=λρ'=>P ρ'/\μ ρ'<μ L,bk:=Z.nx})/\(c=false->Z.nx L)
def U8{tb:TDS}(hc:ET Y X c tc)(hb:SDs Y X body tb)(hp:PassesOwn (model X.prog X.w) X.A X.env X.xe:=by exact PassesOwn.never):SD Y X (.While c body [] pos) (sWh tc tb):=λH_=>impS (Ur hp (hc H_) (hb H_)) λD G H h=>by
 obtain⟨L,o,R,Z,⟨P,μ,hP,M⟩,k1,k2,k3,k4⟩:=h;refine⟨λm j H'=>∃ρ' o',Grow (o.map Prod.snd) (o'.map Prod.snd) H H'/\REnv X.K H_ H' j ρ' o'/\P ρ'/\μ ρ'=m,⟨_,L,o,Grow.refl,R,hP,rfl⟩,?_⟩;rintro m a0 H1 ⟨B,N,g1,R1,p1,rfl⟩;refine⟨B,N,R1,_,M B p1,λc H2 s2 h2=>?_⟩;have g2:=g1.trans (Grow.same (O:=N.map Prod.snd) s2);cases c with
 |true =>
  refine iteT ⟨λj H'=>∃ρ' o',Grow (o.map Prod.snd) (o'.map Prod.snd) H H'/\REnv X.K H_ H' j ρ' o'/\P ρ'/\μ ρ'<μ B,λj H' ⟨ρ',o',g,I,p,l⟩=>⟨_,l,ρ',o',g,I,p,rfl⟩,?_⟩;exact⟨B,N,R1.to s2,_,h2.1 rfl,λρ' j H' o' g I q=>⟨ρ',o',g2.trans g,I,q.1,q.2⟩,λρ' j H' o' g I q=>k1 ρ' j H' o' (g2.trans g) I q,λρ' j H' o' g I q=>⟨ρ',o',g2.trans g,I,q.1,q.2⟩,k4⟩
 |false=>exact iteF (k1 B a0 H2 N g2 (R1.to s2) (h2.2 rfl))
structure ItD(K:W.Frag)(J:It)(ds:List D)(P:Hp->List Addr->Prop):Prop where
 go:∀(H:Hp)(O:List Addr)(i:Nat)(d:D),P H O->ds[i]?=some d->J.go i H/\∀x H',J.yld i H x H'->Same H H'/\Rep K H' O d x
 stop:∀(H:Hp)(O:List Addr),P H O->J.stop ds.length H
 keep:∀(O O':List Addr)(H H':Hp),P H O->Grow O O' H H'->P H' O'
abbrev TID:=DE->(List D->Prop)->Prop
def Bp(K:W.Frag)(H_:Hp)(t:TID):TI:=λG H R=>∃L o,REnv K H_ H G L o/\∃U,t L U/\∀J ds P H',Same H H'->ItD K J ds P->P H' (o.map Prod.snd)->U ds->R J H'
def EI(G:Hp->Prop)(X:Cx)(tg iter:Expr)(t:TID):Prop:=∀H_:{H:Hp // G H},PI X tg iter (Bp X.K H_.1 t)
def sFor(ti:TID)(g:TGD)(tb:TDS):TDS:=λL Z=>ti L λds=>∃P:Nat->DE->Prop,P 0 L/\(∀i d L,ds[i]?=some d->P i L->g d L λρ'=>tb ρ' {Z with nx:=P (i+1),ct:=P (i+1),bk:=Z.nx})/\∀L,P ds.length L->Z.nx L
def vm{tg iter:Expr}{g2:TG}{tb:TDS}(hi:EI Y X tg iter ti)(hg:PG X tg g2)(hl:Wd X.K g2 g)(hb:SDs Y X body tb)(hc:X.calm=true:=by rfl)(hp:PassesOwn (model X.prog X.w) X.A X.env X.xe:=by exact PassesOwn.never)(hs:∀ x,foldedSetIterable iter X.env x=pure x:=by intro _;rfl):SD Y X (.For tg iter body [] pos) (sFor ti g tb):=λH_=>impS (Cf hp hc (hi H_) hg (hb H_) hs) λD G H h=>by
 obtain⟨L,o,R,Z,hZ,k1,k2,k3,k4⟩:=h;refine⟨L,o,R,_,hZ,λJ ds PJ H1 s1 I hP Zh=>?_⟩;obtain⟨P,p0,a0,a5⟩:=Zh;refine⟨λi m q H'=>m=ds.length-i/\i<=ds.length/\∃ρ' o',Grow (o.map Prod.snd) (o'.map Prod.snd) H1 H'/\REnv X.K H_ H' q ρ' o'/\P i ρ',⟨_,rfl,Nat.zero_le _,L,o,Grow.refl,R.to s1,p0⟩,?_⟩;rintro i m q H' ⟨rfl,a7,ρ',o',g',R',p'⟩;have a1:=I.keep _ _ _ _ hP g';have gg:Grow (o.map Prod.snd) (o'.map Prod.snd) H H':=(Grow.same s1).trans g';by_cases hlt:i<ds.length
 ·have ed:ds[i]?=some ds[i]:=by simp[hlt]
  obtain⟨j1,j2⟩:=I.go H' _ i _ a1 ed;refine .inr ⟨j1,λN H2=>∃B o2,Grow (o.map Prod.snd) (o2.map Prod.snd) H1 H2/\REnv X.K H_ H2 N B o2/\P (i+1) B,λN H2 ⟨B,o2,g2,R2,p2⟩=>⟨_,(by omega:ds.length-(i+1)<ds.length-i),rfl,hlt,B,o2,g2,R2,p2⟩,λx H2 y=>?_⟩
  obtain⟨s2,rp⟩:=j2 x H2 y;refine hl H_.1 H2 q ρ' o' _ x _ _ (R'.to s2) rp (a0 i _ ρ' ed p') λa3 a6 R3 q3=>?_;have a2:Grow (o.map Prod.snd) (o'.map Prod.snd) H1 H2:=g'.trans (Grow.same s2);have a4:Grow (o.map Prod.snd) (o'.map Prod.snd) H H2:=gg.trans (Grow.same s2);exact⟨a3,o',R3,_,q3,λj M H4 o4 g4 R4 q4=>⟨j,o4,a2.trans g4,R4,q4⟩,λj M H4 o4 g4 R4 q4=>k1 j M H4 o4 (a4.trans g4) R4 q4,λj M H4 o4 g4 R4 q4=>⟨j,o4,a2.trans g4,R4,q4⟩,k4⟩
 have e:i=ds.length:=by omega
 subst e;exact .inl ⟨I.stop H' _ a1,k1 ρ' q H' o' gg R' (a5 ρ' p')⟩
end
section
variable{tg:Expr}{te:TD}{t:TDs}
def impI{t t':TI}(h:PI X tg iter t)(i:∀ G H R,t' G H R->t G H R):PI X tg iter t':=λpn s G H R I q=>h pn s G H R I (i G H R q)
def PV(X:Cx)(tg:Expr)(r:V->Hp->(It->Hp->Prop)->Prop):Prop :=
 ∀(pn:List (Addr×Obj))(s:Shared)(G:St)(H:Hp)(x:V)(v:Value)(R:It->Hp->Prop),Inv X pn G H s->RelV x v->r x H R->wpAny (model X.prog X.w) X.A (pyIter v) (PIE X pn G tg R) X.xe s
def Cm{l:Expr}{tl:TE}{r:V->Hp->(It->Hp->Prop)->Prop}(hl:PE X l tl)(B:PV X tg r):PI X tg l (λG H R=>tl G H λx H1=>r x H1 R):=λpn s G H R I h =>
 thn (hl pn s G H _ I h) λv s1 ⟨x,H1,M,j,q⟩=>B pn s1 G H1 x v R M j q
def Gm:PV X tg (λx H R=>∃a,x=.ref a/\(∃xs,SqL X.K H a xs)/\R (Itl X.K a) H):=by
 intro pn s1 G H1 x v R j B I;obtain⟨a,e,⟨xs,M⟩,q⟩:=I;subst e;cases B;obtain⟨its,Z,p,hz⟩:=j.list M;refine wpAny_pyIter_list p.isList ?_;refine⟨s1.heap.objs.size,[s1.heap.objs.size],_,_,H1,rfl,j.kept (t':=s1.toks) λb o e=>zac _ e,Rv a _,⟨_,zad _ rfl,rfl,rfl⟩,λb N=>?_,q⟩;have e:b=s1.heap.objs.size:=by simpa using N
 subst e;exact j.fpOk (zaj _) (j.hok.fresh (zaj _))
def Ja:PV X tg (λx H R=>∃a,x=.ref a/\(∃xs,SqT X.K H a xs)/\R (Itt X.K a) H):=by
 intro pn s1 G H1 x v R j B I;obtain⟨a,e,⟨xs,M⟩,q⟩:=I;subst e;cases B;obtain⟨its,Z,p,hz⟩:=j.tuple M;refine wpAny_pyIter_tuple (show s1.heap.IsTuple a its.toArray from p) ?_;refine⟨s1.heap.objs.size,[s1.heap.objs.size],_,_,H1,rfl,j.kept (t':=s1.toks) λb o e=>zac _ e,S9 a _,⟨_,zad _ rfl,rfl,rfl⟩,λb N=>?_,q⟩;have e:b=s1.heap.objs.size:=by simpa using N
 subst e;exact j.fpOk (zaj _) (j.hok.fresh (zaj _))
def Cc:PV X tg (λx H R=>∃z,x=.str z/\R (Itv z.cps.size (D7 z)) H):=by
 intro pn s1 G H1 x v R I M N;obtain⟨z,e,q⟩:=N;subst e;obtain⟨t,rfl⟩:=M;have j:∀(T:String),(∀A:Around,A.handled=none->Walks X.prog X.w A s1.heap.objs.size [s1.heap.objs.size] [s1.heap.objs.size] z.cps.size (SignAt z) (λi h=>h.IsStrIter s1.heap.objs.size T z t i)) ->
   (∀(A:Around)(i:Nat)(s:Shared)(Q:Value->Shared->Prop)(E:Value->Shared->Prop),s.heap.IsStrIter s1.heap.objs.size T z t i->Q (.ref s1.heap.objs.size) s->wpAny (model X.prog X.w) A (pyIter (.ref s1.heap.objs.size)) Q E s) ->
   ["enumerate","zip","dict_itemiterator","dict_reverseitemiterator","odict_iterator","itertools.zip_longest","itertools.pairwise"].contains T=false ->
   PIE X pn G tg R (.ref s1.heap.objs.size) {s1 with heap:=s1.heap.push {cls:=.type T,data:=.fields #[.str z t,.int 0 0]}}:=λT W hs hT=>by
  have I2:Inv X pn G H1 {s1 with heap:=s1.heap.push {cls:=.type T,data:=.fields #[.str z t,.int 0 0]}}:=I.kept (t':=s1.toks) λb u e=>zac _ e;refine⟨s1.heap.objs.size,[s1.heap.objs.size],_,_,H1,rfl,I2,Nq W hs hT,⟨_,zad _ rfl,rfl,rfl⟩,λb Z=>?_,q⟩;have e:b=s1.heap.objs.size:=by simpa using Z
  subst e;exact I.fpOk (zaj _) I.fresh
 cases ha:z.cps.all (·<128)
 ·exact wpAny_pyIter_wide ha (j "str_iterator" (λA B=>Walks.strWide B _ z t) (λA i s Q E st q=>wpAny_pyIter_striter_wide st q) (by decide))
 exact wpAny_pyIter_ascii ha (j "str_ascii_iterator" (λA B=>Walks.strAscii B _ z t) (λA i s Q E st q=>wpAny_pyIter_striter_ascii st q) (by decide))
def Jn:D->Option (List D)
 |.lst ds=>some ds
 |.tup ds=>some ds
 |.scr ns=>some (ns.map D.int)
 |.str z=>some (z.cps.toList.map λc=>D.str ⟨#[c]⟩)
 |_=>none
def iSeq(te:TD):TID:=λL U=>te L λr=>(match r.k with|.own=>False|_=>True)/\match Jn r.d with
 |some ds=>U ds
 |none=>False
def A9{K:W.Frag}{a:Addr}{ds:List D}:ItD K (Itl K a) ds (λH O=>∃xs,H a=some (.lst xs)/\a∉O/\Reps K H O ds xs) where
 go:=λH O i d ⟨xs,q,n,r⟩ e=>by
  obtain⟨v,j,B⟩:=r.get e;refine⟨⟨xs,v,SqL.of q,j⟩,λx H' y=>?_⟩;obtain⟨e1,y⟩:=y;subst e1;have:=y xs (SqL.of q);rw[j]at this;cases this;exact⟨Same.refl _,B⟩
 stop:=λH O ⟨xs,q,n,r⟩=>⟨xs,SqL.of q,by rw[r.length];exact zaj _⟩
 keep:=λO O' H H' ⟨xs,q,n,r⟩ g=>⟨xs,(g.keep _ _ q n).1,(g.keep _ _ q n).2,Reps.grow g _ _ r⟩
def Jo{K:W.Frag}{a:Addr}{ds:List D}:ItD K (Itt K a) ds (λH O=>∃xs,SqT K H a xs/\Reps K H O ds xs) where
 go:=λH O i d ⟨xs,q,r⟩ e=>by
  obtain⟨v,j,B⟩:=r.get e;refine⟨⟨xs,v,q,j⟩,λx H' y=>?_⟩;obtain⟨e1,y⟩:=y;subst e1;have:=y xs q;rw[j]at this;cases this;exact⟨Same.refl _,B⟩
 stop:=λH O ⟨xs,q,r⟩=>⟨xs,q,by rw[r.length];exact zaj _⟩
 keep:=λO O' H H' ⟨xs,q,r⟩ g=>⟨xs,Z4 g q,Reps.grow g _ _ r⟩
def A8{K:W.Frag}{a:Addr}{ns:List Int}:ItD K (Itl K a) (ns.map D.int) (λH _=>Scr K H a ns) where
 go:=λH O i d q e=>by
  rw[zai]at e;cases en:ns[i]? with
  |none=>rw[en]at e;cases e
  |some n =>
   rw[en]at e;cases e;have j:(ns.map V.int)[i]?=some (.int n):=by rw[zai,en];rfl
   refine⟨⟨_,_,q.seq,j⟩,λx H' y=>?_⟩;obtain⟨e1,y⟩:=y;subst e1;have:=y _ q.seq;rw[j]at this;cases this;exact⟨Same.refl _,rfl⟩
 stop:=λH O q=>⟨_,q.seq,by rw[zLm,zLm];exact zaj _⟩
 keep:=λO O' H H' q g=>je g q
def A7{K:W.Frag}{z:Str}:ItD K (Itv z.cps.size (D7 z)) (z.cps.toList.map λc=>D.str ⟨#[c]⟩) (λ_ _=>True) where
 go:=λH O i d _ e=>by
  rw[zai]at e;cases en:z.cps.toList[i]? with
  |none=>rw[en]at e;cases e
  |some n =>
   rw[en]at e;cases e;have hl:=(zag.mp en).1;refine⟨(show i<z.cps.size by simpa using hl),λx H' y=>?_⟩
   obtain⟨e1,c,j,ex⟩:=y;subst e1 ex;have:z.cps.toList[i]?=some c:=by rw[Array.getElem?_toList];exact j
   rw[en]at this;cases this;exact⟨Same.refl _,rfl⟩
 stop:=λH O _=>by show _=_;simp
 keep:=λ_ _ _ _ _ _=>trivial
def rngD(lo:Int)(n:Nat):List D:=(List.range n).map λ(i:Nat)=>D.int (lo+(i:Int))
def Jp{K:W.Frag}{lo:Int}{n:Nat}:ItD K (Itr lo n) (rngD lo n) (λ_ _=>True) where
 go:=λH O i d _ e=>by
  unfold rngD at e;rw[zai]at e;cases en:(List.range n)[i]? with
  |none=>rw[en]at e;cases e
  |some m =>
   rw[en]at e;cases e;have hl:=(zag.mp en).1;rw[List.length_range]at hl;have:m=i:=by
    rw[List.getElem?_range hl]at en;exact(Option.some.inj en).symm
   subst this;refine⟨hl,λx H' y=>?_⟩;obtain⟨e1,ex⟩:=y;subst e1 ex;exact⟨Same.refl _,rfl⟩
 stop:=λH O _=>by show n<=_;unfold rngD;simp
 keep:=λ_ _ _ _ _ _=>trivial
def PV.or{r B:V->Hp->(It->Hp->Prop)->Prop}(h:PV X tg r)(h':PV X tg B):PV X tg (λx H R=>r x H R\/B x H R):=λpn s G H x v R I j q=>q.elim (h pn s G H x v R I j) (h' pn s G H x v R I j)
def wo(M:ED Y X e te):EI Y X tg e (iSeq te):=λH_=>impI (Cm (M H_) (Gm.or (Ja.or Cc))) λG H R q=>by
 obtain⟨L,o,N,U,B,k⟩:=q;refine⟨L,o,N,_,B,λv r H1 s1 I h1=>?_⟩;obtain⟨h0,h1⟩:=h1;have j:=I.solid (vo h0);obtain⟨Z,d⟩:=r;cases d with
 |lst ds =>
  obtain⟨a,xs,rfl,q,n,r⟩:=j;exact .inl ⟨a,rfl,⟨xs,SqL.of q⟩,k _ _ _ H1 s1 A9 ⟨xs,q,n,r⟩ h1⟩
 |tup ds =>
  obtain⟨a,xs,rfl,q,r⟩:=j;exact .inr (.inl ⟨a,rfl,⟨xs,q.1⟩,k _ _ _ H1 s1 Jo ⟨xs,q.1,r⟩ h1⟩)
 |scr ns =>
  obtain⟨a,rfl,q⟩:=j;exact .inl ⟨a,rfl,⟨_,q.seq⟩,k _ _ _ H1 s1 A8 q h1⟩
 |str z =>
  cases (show v=_ from j)
  exact .inr (.inr ⟨z,rfl,k _ _ _ H1 s1 A7 trivial h1⟩)
 |_=>exact h1.elim
def iR1(t:TDs):TID:=λL U=>t L λrs=>match rs with
 |[⟨_,.int j⟩]=>-(2 ^ 62)<=j/\j<2 ^ 62/\U (rngD 0 j.toNat)
 |_=>False
def iR2(t:TDs):TID:=λL U=>t L λrs=>match rs with
 |[⟨_,.int i⟩,⟨_,.int j⟩]=>(-(2 ^ 62)<=i/\i<2 ^ 62/\-(2 ^ 62)<=j/\j<2 ^ 62)/\U (rngD i (j-i).toNat)
 |_=>False
def uk(N:X.mg "range" = none)(ha:EA Y X [a] t)(Z:Gl X "range":=by rfl)(hs:starEach [a] X.env=[(false,eval a X.env)]:=by rfl):EI Y X tg (.Call (.Name "range" p) [a] [] pos) (iR1 t):=λH_=>impI (P0 Z N (ha H_) hs) λG H R q=>by
 obtain⟨L,o,RE,U,I,k⟩:=q;refine⟨L,o,RE,_,I,λvs rs H1 s1 B h1=>?_⟩;split at h1
 ·rename_i kd j;obtain⟨v,ws,rfl,M,rfl⟩:=B;cases (show v=_ from M.view);exact⟨j,rfl,h1.1,h1.2.1,k _ _ _ H1 s1 Jp trivial h1.2.2⟩
 exact h1.elim
def Xv(hm:X.mg "range" = none)(ha:EA Y X [a,b] t)(hg:Gl X "range":=by rfl)(hs:starEach [a,b] X.env=[(false,eval a X.env),(false,eval b X.env)]:=by rfl)(N:starEach [b] X.env=[(false,eval b X.env)]:=by rfl):EI Y X tg (.Call (.Name "range" p) [a,b] [] pos) (iR2 t):=λH_=>impI (Qz hg hm (ha H_) hs N) λG H R q=>by
 obtain⟨L,o,RE,U,M,k⟩:=q;refine⟨L,o,RE,_,M,λvs rs H1 s1 B h1=>?_⟩;split at h1
 ·rename_i kd i a0 j;obtain⟨v,ws,rfl,rv,v2,Z,rfl,I,rfl⟩:=B;cases (show v=_ from rv.view);cases (show v2=_ from I.view);exact⟨i,j,rfl,h1.1,k _ _ _ H1 s1 Jp trivial h1.2⟩
 exact h1.elim
end
section
variable{scope:Scope}{T F:List Str}{js:List Nat}{tg iter elt:Expr}{ifs:List Expr}{ti:TID}{g2:TG}{g:TGD}{tc:TDb}{te:TD}
def ρ0(n:Nat)(js:List Nat)(L:DE):DE:=List.replicate n none++js.map λj=>slot L j
def ixO(n:Nat)(js:List Nat)(j:Nat):Nat:=if j∈js then n+js.idxOf j else n+js.length+1+j
def Sf{K:W.Frag}{H_ H H':Hp}{G:St}{L:DE}{o:List (Nat×Addr)}{n:Nat}{js:List Nat}{D:Addr}{ys:List V}(R:REnv K H_ H G L o)(nd:js.Nodup)(hD:H D=none)(s:Same H H')(M:H' D=some (.lst ys))(Tn:List Str)(hT:Tn.length=n) :
  REnv K H_ H' (st0 Tn js G) (ρ0 n js L) ((n+js.length,D)::o.map λp=>(ixO n js p.1,p.2)):=by
 have hO:((n+js.length,D)::o.map λp=>(ixO n js p.1,p.2)).map Prod.snd=D::o.map Prod.snd:=by
  rw[List.map_cons,List.map_map];rfl
 have g:Grow (o.map Prod.snd) (D::o.map Prod.snd) H H':=⟨λb u h nb=>⟨s b u h,λz=>(zam.mp z).elim (λe=>zg h hD e) nb⟩,λb xs h=>s b _ h,λb ob u h=>s b _ h⟩;have R':=R.to s;exact {
  same:=R'.same
  fresh:=λp B=>by
   rcases zam.mp B with rfl|B
   ·exact R.same.free hD
   obtain⟨q,N,rfl⟩:=zah.mp B;exact R.fresh q N
  trk:=λp B=>by
   rcases zam.mp B with rfl|B
   ·exact⟨_,M⟩
   obtain⟨q,N,rfl⟩:=zah.mp B;exact R'.trk q N
  mtb:=λp B=>by
   rcases zam.mp B with rfl|B
   ·exact⟨(λxs z=>by rw[M]at z;cases z),(λob u z=>by rw[M]at z;cases z)⟩
   obtain⟨q,N,rfl⟩:=zah.mp B;exact R'.mtb q N
  nda:=by
   rw[hO,List.nodup_cons];exact⟨R.ofree hD,R.nda⟩
  len:=by
   unfold st0 ρ0;simp[hT]
  slots:=λi r e=>by
   rw[hO];unfold ρ0 at e;have hi:n<=i:=by
    rcases Nat.lt_or_ge i n with z|z
    ·rw[List.getElem?_append_left (by simpa using z),List.getElem?_replicate]at e
     split at e <;> cases e
    exact z
   rw[List.getElem?_append_right (by simpa using hi),List.length_replicate,zai]at e
   cases ej:js[i-n]? with
   |none=>rw[ej]at e;cases e
   |some j =>
    rw[ej]at e;have e':slot L j=some r:=Option.some.inj e;obtain⟨v,ev,q⟩:=R.slots j r (xn e');refine⟨v,?_,?_⟩
    ·unfold st0;rw[List.getElem?_append_right (by simpa [hT] using hi),List.length_replicate,zai,hT,ej]
     show some ((G[j]?).join)=_;rw[ev];rfl
    rcases q with⟨k,q⟩|⟨k,a,e1,m,c⟩
    ·exact .inl ⟨k,Rep.grow g _ _ q⟩
    refine .inr ⟨k,a,e1,zal _ (zah.mpr ⟨_,m,?_⟩),c.grow (λu q=>s _ _ q) g⟩;have I:j∈js:=zan ej;have Z:js.idxOf j=i-n:=by
     have h1:=(zag.mp ej);have h2:=List.getElem_idxOf (List.idxOf_lt_length_iff.mpr I);exact(List.getElem_inj nd).mp (h2.trans h1.2.symm)
    show(ixO n js j,a)=(i,a);unfold ixO;rw[if_pos I,Z]
    congr 1
    omega}
def bYes:TDb:=λ_ U=>U true
def Ke(ti:TID)(n:Nat)(js:List Nat)(g:TGD)(tc:TDb)(te:TD):TD:=λL U=>ti L λds=>∃f:D->Option D,ds.length<=100000 /\
 (∀d∈ds,g d (ρ0 n js L) λρ'=>tc ρ' λc=>(c=true->te ρ' λr=>(match r.k with|.own=>False|_=>True)/\f d=some r.d)/\(c=false->f d=none))/\U (df (.lst (ds.filterMap f)))
def EIf(G:Hp->Prop)(X:Cx)(ifs:List Expr)(t:TDb):Prop:=∀H_:{H:Hp // G H},PIf X ifs (Sz X.K H_.1 t)
def xp:EIf Y X [] bYes:=λH_ pn s G H Q I h=>by
 obtain⟨L,o,R,U,j,k⟩:=h;exact Gy pn s G H Q I (k true H (Same.refl H) j)
def Oq(h:ET Y X c tc):EIf Y X [c] tc:=λH_=>Gx (h H_)
def X1(nd:js.Nodup)(hl:Wd X.K g2 g):∀G H Q,dj X.K H_ (Ke ti T.length js g tc te) G H Q->Hj (Bp X.K H_ ti) T js g2 (Sz X.K H_ tc) (dj X.K H_ te) G H Q:=λG H Q q=>by
  obtain⟨L,o,R,U,a8,k⟩:=q;refine⟨L,o,R,_,a8,λJ ds P H1 s1 I hP ⟨f,b0,a0,a9⟩ Da j=>?_⟩;have R1:=R.to s1;have gD:∀{H':Hp},Same H1 H'->Grow (o.map Prod.snd) (Da::o.map Prod.snd) H1 H':=λs=>⟨λb u h nb=>⟨s b u h,λz=>(zam.mp z).elim (λe=>zg h j e) nb⟩,λb xs h=>s b _ h,λb ob u h=>s b _ h⟩;refine⟨λi m ys H'=>m=ds.length-i/\i<=ds.length/\Same H1 H'/\H' Da=some (.lst ys)/\Reps X.K H' (Da::o.map Prod.snd) ((ds.take i).filterMap f) ys,
   ⟨_,rfl,Nat.zero_le _,y7 j _,zw,rfl⟩,?_⟩
  rintro i m ys H' ⟨rfl,b4,s2,N,rp⟩;refine⟨N,?_⟩;have a4:=I.keep _ _ _ _ hP (gD s2);by_cases hlt:i<ds.length
  ·have ed:ds[i]?=some ds[i]:=by simp[hlt]
   obtain⟨j1,j2⟩:=I.go H' _ i _ a4 ed;refine .inr ⟨j1,λzs H2=>Same H1 H2/\H2 Da=some (.lst zs)/\Reps X.K H2 (Da::o.map Prod.snd) ((ds.take (i+1)).filterMap f) zs,λzs H2 ⟨a1,a2,a3⟩=>⟨_,(by omega:ds.length-(i+1)<ds.length-i),rfl,hlt,a1,a2,a3⟩,λx H2 y=>?_⟩
   obtain⟨s3,rx⟩:=j2 x H2 y;have B:=s2.trans s3;have a6:=s3 _ _ N;have RB:=Sf (n:=T.length) R1 nd j B a6 T rfl;have hO:((T.length+js.length,Da)::o.map λp=>(ixO T.length js p.1,p.2)).map Prod.snd=Da::o.map Prod.snd:=by
    rw[List.map_cons,List.map_map];rfl
   have tk:(ds.take (i+1)).filterMap f=(ds.take i).filterMap f++(f ds[i]).toList:=by
    rw[List.take_succ,ed,List.filterMap_append];cases e:f ds[i] <;> simp[e]
   have a7:ys.length<=100000:=by
    rw[rp.length];refine zak (List.length_filterMap_le _ _) ?_;rw[List.length_take];omega
   refine hl H_ H2 (st0 T js G) (ρ0 T.length js L) _ _ x _ _ RB (by rw[hO];exact rx) (a0 _ (List.getElem_mem hlt)) λρ' b3 R' q'=>?_
   refine⟨ρ',_,R',_,q',λc H3 Z h4=>?_⟩;have a5:=Z _ _ a6;cases c with
   |false =>
    refine iteF ⟨B.trans Z,a5,?_⟩;rw[tk,h4.2 rfl];simpa using Reps.grow (Grow.same (s3.trans Z)) _ _ rp
   |true =>
    refine iteT ⟨ρ',_,R'.to Z,_,h4.1 rfl,λv r H4 s5 rv h5=>?_⟩;have M:=s5 _ _ a5;have rd:=rv.solid (vo h5.1);rw[hO]at rd;have ne:∀b u,H1 b=some u->b≠Da:=λb u h=>zg h j;have gu:Grow (Da::o.map Prod.snd) (Da::o.map Prod.snd) H4 (upd H4 Da (.lst (ys++[v]))) :=
     ⟨λb u h n=>⟨by rw[y0 (λz=>n (zam.mpr (.inl z)))];exact h,n⟩,λb xs h=>by rw[y0 (λz=>by rw[z,M]at h;cases h)];exact h,λb ob u h=>by rw[y0 (λz=>by rw[z,M]at h;cases h)];exact h⟩
    refine⟨M,Nat.lt_of_le_of_lt a7 (by decide),⟨λb u h=>?_,zw,?_⟩⟩
    ·rw[y0 (ne b u h)];exact s5 _ _ (Z _ _ (B b u h))
    rw[tk,h5.2];exact Reps.grow gu _ _ ((Reps.grow (Grow.same (s3.trans (Z.trans s5))) _ _ rp).append (Reps.one rd))
  have e:i=ds.length:=by omega
  subst e;rw[List.take_length]at rp;refine .inl ⟨I.stop H' _ a4,?_⟩;exact k (.ref Da) (df (.lst (ds.filterMap f))) H' (s1.trans s2) ⟨Da,rfl,s1.free j,R.ofree (s1.free j),ys,N,rp⟩ a9
def wb(hi:EI Y X tg iter ti)(S:y8 X.env.scope scope T F)(q:Paired (λx j=>X.N[j]?=some x) F js)(nd:js.Nodup)(M:∀ cl C fp s H,PG (x8 X (T++F) scope cl C fp s H) tg g2)(I:We T.length g2)(hl:Wd X.K g2 g)(B:∀ cl C fp s H,EIf Y (x8 X (T++F) scope cl C fp s H) ifs tc)(Z:∀ cl C fp s H,ED Y (x8 X (T++F) scope cl C fp s H) elt te)(hc:X.calm=true:=by rfl)(hs:∀ x,foldedSetIterable iter X.env x=pure x:=by intro _;rfl):ED Y X (.ListComp elt [⟨tg,iter,ifs,0⟩] scope pos) (Ke ti T.length js g tc te):=λH_ =>
 impE (Fg (tc:=Sz X.K H_.1 tc) (te:=dj X.K H_.1 te) hc (hi H_) S q M I (λcl C fp s H=>B cl C fp s H H_) (λcl C fp s H=>Z cl C fp s H H_) hs) (X1 nd hl)
def qu(i:Nat)(hN:X.N.Nodup)(hi:EI Y X tg iter ti)(S:y8 X.env.scope scope T F)(I:Paired (λx j=>X.N[j]?=some x) F js)(nd:js.Nodup)(hg:∀ cl C fp s H,PG (x8 X (T++F) scope cl C fp s H) tg g2)(hk:We T.length g2)(hl:Wd X.K g2 g)(ht:∀ cl C fp s H,EIf Y (x8 X (T++F) scope cl C fp s H) ifs tc)(he:∀ cl C fp s H,ED Y (x8 X (T++F) scope cl C fp s H) elt te)(hc:X.calm=true:=by rfl)(hs:∀ x,foldedSetIterable iter X.env x=pure x:=by intro _;rfl)(hy:X.N[i]?=some y:=by rfl)(q:X.env.scope.names.lookup y=some .local:=by rfl)(B:swapsWith (.ListComp elt [⟨tg,iter,ifs,0⟩] scope pos) (some (.Name y py)) spos.line X.env=pure true:=by rfl):SD Y X (.Assign [.Name y py] (.ListComp elt [⟨tg,iter,ifs,0⟩] scope pos) spos) (sSet i (Ke ti T.length js g tc te)):=λH_ =>
 impS (Sj (tc:=Sz X.K H_.1 tc) (te:=dj X.K H_.1 te) hc hN hy (.inl q) (hi H_) S I hg hk (λcl C fp s H=>ht cl C fp s H H_) (λcl C fp s H=>he cl C fp s H H_) B hs (.inr q)) λD G H h=>by
  obtain⟨L,o,R,Z,hZ,k1,k2,k3,k4⟩:=h;refine X1 nd hl G H _ ⟨L,o,R,_,hZ,λv r H1 s1 M h1=>?_⟩;obtain⟨o',R',g'⟩:=R.put s1 i M (vo h1.1);exact k1 _ _ H1 o' g' R' h1.2
end
section
variable{x:Str}{es:List Expr}{t:TDs}{p:Pos}
structure Kit(K:W.Frag):Prop where
 ne:∀q∈([("NoneType","int"),("NoneType","bool"),("NoneType","str"),("NoneType","tuple"),("NoneType","list"),("NoneType","dict"),("bool","str"),("bool","tuple"),("bool","list"),("bool","dict"),
  ("int","bool"),("int","str"),("int","tuple"),("int","list"),("int","dict"),("str","int"),("str","bool"),("str","tuple"),("str","list"),("str","dict"),
  ("tuple","int"),("tuple","bool"),("tuple","str"),("tuple","list"),("tuple","dict"),("list","int"),("list","bool"),("list","str"),("list","tuple"),("list","dict"),
  ("dict","int"),("dict","bool"),("dict","str"),("dict","tuple"),("dict","list")]:List (String×String)),W.kitOne K (.type q.1) (.type q.2)=some false
 bi:W.kitOne K (.type "bool") (.type "int")=some true
def Po{K:W.Frag}:Kit K:=by
 constructor
 ·intro q j;simp only[zam,List.not_mem_nil,or_false]at j;rcases j with rfl|rfl|rfl|rfl|rfl|rfl|rfl|rfl|rfl|rfl|rfl|rfl|rfl|rfl|rfl|rfl|rfl|rfl|rfl|rfl|rfl|rfl|rfl|rfl|rfl|rfl|rfl|rfl|rfl|rfl|rfl|rfl|rfl|rfl|rfl <;> kernel_rfl
 kernel_rfl
def L7{K:W.Frag}{T:String}:W.kitOne K (.type T) (.type T)=some true:=by
 unfold W.kitOne;rw[if_pos (by simp)]
def d8:bootBuiltins "int" = some (.type "int"):=by decide +kernel
def bv:bootBuiltins "bool" = some (.type "bool"):=by decide +kernel
def wx:bootBuiltins "tuple" = some (.type "tuple"):=by decide +kernel
def bu:bootBuiltins "list" = some (.type "list"):=by decide +kernel
def boot_dict':bootBuiltins "dict" = some (.type "dict"):=by decide +kernel
def jb:bootBuiltins "isinstance" = some (.builtin "isinstance"):=by decide +kernel
def Bt{K:W.Frag}(a T:String)(h:(a,T)∈([("NoneType","int"),("NoneType","bool"),("NoneType","str"),("NoneType","tuple"),("NoneType","list"),("NoneType","dict"),("bool","str"),("bool","tuple"),("bool","list"),("bool","dict"),
  ("int","bool"),("int","str"),("int","tuple"),("int","list"),("int","dict"),("str","int"),("str","bool"),("str","tuple"),("str","list"),("str","dict"),
  ("tuple","int"),("tuple","bool"),("tuple","str"),("tuple","list"),("tuple","dict"),("list","int"),("list","bool"),("list","str"),("list","tuple"),("list","dict"),
  ("dict","int"),("dict","bool"),("dict","str"),("dict","tuple"),("dict","list")]:List (String×String))):W.kitOne K (.type a) (.type T)=some false:=Po.ne (a,T) h
def Kp:D->String
 |.non=>"NoneType"
 |.bl _=>"bool"
 |.int _=>"int"
 |.str _=>"str"
 |.tup _=>"tuple"
 |.lst _=>"list"
 |.dk _ _=>"dict"
 |.ty _=>"type"
 |.cn _=>"tuple"
 |.scr _=>"list"
 |.ob _ _ _=>"exc"
def L8:List (String×String):=[("NoneType","int"),("NoneType","bool"),("NoneType","str"),("NoneType","tuple"),("NoneType","list"),("NoneType","dict"),("bool","str"),("bool","tuple"),("bool","list"),("bool","dict"),
  ("int","bool"),("int","str"),("int","tuple"),("int","list"),("int","dict"),("str","int"),("str","bool"),("str","tuple"),("str","list"),("str","dict"),
  ("tuple","int"),("tuple","bool"),("tuple","str"),("tuple","list"),("tuple","dict"),("list","int"),("list","bool"),("list","str"),("list","tuple"),("list","dict"),
  ("dict","int"),("dict","bool"),("dict","str"),("dict","tuple"),("dict","list")]
def isN(a T:String):Option Bool:=if a=T then some true else if a = "bool"/\T = "int" then some true else if (a,T)∈L8 then some false else none
def isT(d:D)(T:String):Option Bool:=match d with
 |.ty _=>none
 |.cn _=>none
 |.scr _=>none
 |.ob _ _ _=>none
 |d=>isN (Kp d) T
def Eb{K:W.Frag}{a T:String}{b:Bool}(h:isN a T=some b):W.kitOne K (.type a) (.type T)=some b:=by
 unfold isN at h;split at h
 ·rename_i q;cases h;subst q;exact L7
 split at h
 ·rename_i q;cases h;obtain⟨rfl,rfl⟩:=q;exact Po.bi
 split at h
 ·rename_i q;cases h;exact Bt a T q
 cases h
def Ea{K:W.Frag}{d:D}{T:String}{b:Bool}(h:isT d T=some b):W.kitOne K (.type (Kp d)) (.type T)=some b:=by
 cases d with
 |ty _=>cases h
 |cn _=>cases h
 |scr _=>cases h
 |ob _ _ _=>cases h
 |_=>exact Eb h
def V5:isT .non "int" = some false:=(by decide:isN "NoneType" "int" = some false)
def X9:isT .non "bool" = some false:=(by decide:isN "NoneType" "bool" = some false)
def Zm:isT .non "tuple" = some false:=(by decide:isN "NoneType" "tuple" = some false)
def Ra(b:Bool):isT (.bl b) "int" = some true:=(by decide:isN "bool" "int" = some true)
def Vb(b:Bool):isT (.bl b) "bool" = some true:=(by decide:isN "bool" "bool" = some true)
def Xe(b:Bool):isT (.bl b) "tuple" = some false:=(by decide:isN "bool" "tuple" = some false)
def V8(i:Int):isT (.int i) "int" = some true:=(by decide:isN "int" "int" = some true)
def Xc(i:Int):isT (.int i) "bool" = some false:=(by decide:isN "int" "bool" = some false)
def V7(i:Int):isT (.int i) "str" = some false:=(by decide:isN "int" "str" = some false)
def Zo(i:Int):isT (.int i) "tuple" = some false:=(by decide:isN "int" "tuple" = some false)
def V4(x:Str):isT (.str x) "int" = some false:=(by decide:isN "str" "int" = some false)
def X8(x:Str):isT (.str x) "bool" = some false:=(by decide:isN "str" "bool" = some false)
def V3(x:Str):isT (.str x) "str" = some true:=(by decide:isN "str" "str" = some true)
def Zl(x:Str):isT (.str x) "tuple" = some false:=(by decide:isN "str" "tuple" = some false)
def V2(l:List D):isT (.tup l) "int" = some false:=(by decide:isN "tuple" "int" = some false)
def X7(l:List D):isT (.tup l) "bool" = some false:=(by decide:isN "tuple" "bool" = some false)
def Zk(l:List D):isT (.tup l) "tuple" = some true:=(by decide:isN "tuple" "tuple" = some true)
def X6(l:List D):isT (.tup l) "list" = some false:=(by decide:isN "tuple" "list" = some false)
def V6(l:List D):isT (.lst l) "int" = some false:=(by decide:isN "list" "int" = some false)
def Xb(l:List D):isT (.lst l) "bool" = some false:=(by decide:isN "list" "bool" = some false)
def Zn(l:List D):isT (.lst l) "tuple" = some false:=(by decide:isN "list" "tuple" = some false)
def Xa(l:List D):isT (.lst l) "list" = some true:=(by decide:isN "list" "list" = some true)
def R9(k:List Key)(l:List D):isT (.dk k l) "int" = some false:=(by decide:isN "dict" "int" = some false)
def Va(k:List Key)(l:List D):isT (.dk k l) "bool" = some false:=(by decide:isN "dict" "bool" = some false)
def Xd(k:List Key)(l:List D):isT (.dk k l) "tuple" = some false:=(by decide:isN "dict" "tuple" = some false)
def V9(k:List Key)(l:List D):isT (.dk k l) "dict" = some true:=(by decide:isN "dict" "dict" = some true)
def Kh:vz X (.builtin "isinstance") (λxs H Q=>∃d x T b,xs=[x,.ty T]/\Rep X.K H [] d x/\isT d T=some b/\Q (.bl b) H):=by
 intro pn s G H xs us Q I r h;obtain⟨d,x,T,b,rfl,M,e,q⟩:=h;obtain⟨u,v,rfl,B,rv⟩:=Hd r;cases rv;have N:=Ea (K:=X.K) e;have j:∀tk,EP X pn G Q (.bool b) {s with toks:=tk}:=λtk=>⟨.bl b,H,I.tok tk,rfl,q⟩;cases d with
 |non=>cases (show x=_ from M);exact ui I B .non N j
 |bl c=>cases (show x=_ from M);exact ui I B (.bl c) N j
 |int c=>cases (show x=_ from M);exact ui I B (.int c) N j
 |str c=>cases (show x=_ from M);exact ui I B (.str c) N j
 |ty _=>cases e
 |cn _=>cases e
 |scr _=>cases e
 |ob _ _ _=>cases e
 |lst ds=>obtain⟨a,xs,rfl,Z,_⟩:=M;exact ui I B (.lst Z) N j
 |dk ks ds=>obtain⟨a,xs,rfl,Z,_⟩:=M;exact ui I B (.dK Z) N j
 |tup ds =>
  obtain⟨a,xs,rfl,Z,_⟩:=M;cases (show u=Value.ref a from B);obtain⟨its,_,p,_⟩:=I.tuple Z.1;obtain⟨o,h1,h2,_⟩:=p;exact W.kia_one W.kitx_tuple I.kIn ⟨o,h1,h2⟩ N (λz=>nomatch z) j
def sIsI:FT:=λds U=>match ds with
 |[d,.ty T]=>match isT d T with
  |some b=>U (dv (.bl b))
  |none=>False
 |_=>False
def xu(I:X.mg "isinstance" = none)(Z:EA Y X (e::es) t)(M:Gl X "isinstance":=by rfl)(N:S_ X e es:=by rfl)(j:B_ X es pos:=by rfl):ED Y X (.Call (.Name "isinstance" p) (e::es) [] pos) (dCB sIsI t) :=
 u9 Kh (λH O ds vs U Q ho B h k=>by
  unfold sIsI at h;split at h
  ·split at h
   ·rename_i d T b eb;obtain⟨v,ws,rfl,h1,v2,q,rfl,h2,rfl⟩:=B;cases (show v2=_ from h2);exact⟨_,v,_,_,rfl,h1.rep0,eb,k _ _ H (Same.refl H) (by exact rfl) h⟩
   exact h.elim
  exact h.elim) I jb Z M (by decide) (by decide) N j
def sTupC:FT:=λds U=>match ds with
 |[.lst l]=>U (dv (.tup l))
 |[.tup l]=>U (dv (.tup l))
 |_=>False
def Xx(I:X.mg "tuple" = none)(Z:EA Y X (e::es) t)(M:Gl X "tuple":=by rfl)(N:S_ X e es:=by rfl)(j:B_ X es pos:=by rfl):ED Y X (.Call (.Name "tuple" p) (e::es) [] pos) (dCB sTupC t) :=
 qm Yb (λH O ds vs U Q ho B h k=>by
  unfold sTupC at h;split at h
  ·obtain⟨v,ws,rfl,⟨a,xs,rfl,q,r⟩,rfl⟩:=B;exact⟨a,xs,rfl,.inl ⟨SqL.of q,λl hl=>k _ _ _ (y7 hl _) (Yo hl r) h⟩⟩
  ·obtain⟨v,ws,rfl,⟨a,xs,rfl,q,r⟩,rfl⟩:=B;exact⟨a,xs,rfl,.inr ⟨q.1,k (.ref a) (dv (.tup _)) H (Same.refl H) ⟨a,xs,rfl,q,r⟩ h⟩⟩
  exact h.elim) I wx Z M (by decide) (by decide) N j
def sListC:FT:=λds U=>match ds with
 |[.lst l]=>U (df (.lst l))
 |[.tup l]=>U (df (.lst l))
 |_=>False
def K3(I:X.mg "list" = none)(Z:EA Y X (e::es) t)(M:Gl X "list":=by rfl)(N:S_ X e es:=by rfl)(j:B_ X es pos:=by rfl):ED Y X (.Call (.Name "list" p) (e::es) [] pos) (dCB sListC t) :=
 qm W2 (λH O ds vs U Q ho B h k=>by
  unfold sListC at h;split at h
  ·obtain⟨v,ws,rfl,⟨a,xs,rfl,q,r⟩,rfl⟩:=B;exact⟨a,xs,rfl,.inl (SqL.of q),λl hl=>k _ _ _ (y7 hl _) (sk ho hl r) h⟩
  ·obtain⟨v,ws,rfl,⟨a,xs,rfl,q,r⟩,rfl⟩:=B;exact⟨a,xs,rfl,.inr q.1,λl hl=>k _ _ _ (y7 hl _) (sk ho hl r) h⟩
  exact h.elim) I bu Z M (by decide) (by decide) N j
def sIntC:FT:=λds U=>match ds with
 |[.bl b]=>U (dv (.int (if b then 1 else 0)))
 |[.int i]=>U (dv (.int i))
 |_=>False
def Ex(B:X.mg "int" = none)(N:EA Y X (e::es) t)(I:Gl X "int":=by rfl)(M:S_ X e es:=by rfl)(j:B_ X es pos:=by rfl):ED Y X (.Call (.Name "int" p) (e::es) [] pos) (dCB sIntC t) :=
 qm N5 (λH O ds vs U Q ho q h k=>by
  unfold sIntC at h;split at h
  ·obtain⟨v,ws,rfl,h1,rfl⟩:=q;cases (show v=_ from h1);exact .inr ⟨_,rfl,k _ _ H (Same.refl H) (by exact rfl) h⟩
  ·obtain⟨v,ws,rfl,h1,rfl⟩:=q;cases (show v=_ from h1);exact .inl ⟨_,rfl,k _ _ H (Same.refl H) (by exact rfl) h⟩
  exact h.elim) B d8 N I (by decide) (by decide) M j
end
variable{x:Str}{te:TD}{apos np cpos:Pos}
def sApp(i:Nat)(te:TD):TDS:=λL Z=>match slot L i with
 |some ⟨.own,.lst ds⟩=>te L λr=>(match r.k with|.own=>False|_=>True)/\ds.length<=100000/\Z.nx (setS L i (dO (.lst (ds++[r.d]))))
 |_=>False
def jr(i:Nat)(he:ED Y X e te)(hN:X.N[i]?=some x:=by rfl)(hv:Vis X.env.scope x:=by walk_at "o")(hd:D_ x:=by decide)(M:(x==("__classdict__" : Str))=false:=by decide)(hp:∀ {ta tb:TE},PE X (.Name x np) ta->PE X e tb->PS X (.Expr (.Call (.Attribute (.Name x np) "append" apos) [e] [] cpos) pos) (Wl (tBM X.K "list" Wt ta (Sd tb tNil))):=by
   intro ta tb h1 h2;exact t8 (Sn PySem.F.plainAttrs_list PySem.F.slot_list_append PySem.F.type_list_append gh h1 (w5 h2 u4))) :
  SD Y X (.Expr (.Call (.Attribute (.Name x np) "append" apos) [e] [] cpos) pos) (sApp i te):=λH_=>impS (hp (uw hN hv hd M) (he H_)) λD G H h=>by
 obtain⟨L,o,R,Z,q,k1,k2,k3,k4⟩:=h;unfold sApp at q;split at q
 ·rename_i ds es;obtain⟨v0,j,q0⟩:=R.slots i _ (xn es);rcases q0 with⟨k,_⟩|⟨_,a,rfl,m,c⟩
  ·cases k
  obtain⟨xs,hx,rx⟩:=c;refine⟨.ref a,j,.inl ⟨rfl,xs,SqL.of hx⟩,?_⟩;refine⟨L,o,R,_,q,λv r H1 s1 rv h1=>?_⟩;obtain⟨h0,hl,hn⟩:=h1;have I:=s1 _ _ hx;have R1:=R.to s1;have B:=Reps.grow (Grow.same s1) _ _ rx;refine⟨a,xs,v,rfl,rfl,I,?_,?_⟩
  ·rw[rx.length];exact Nat.lt_of_le_of_lt hl (by decide)
  obtain⟨R2,g2⟩:=R1.chg (d':=.lst (ds++[r.d])) (ho:=.lst (xs++[v])) (xn es) j m ⟨λ_ z=>(by cases z),λ_ _ z=>(by cases z)⟩ λgr=>⟨xs++[v],zw,gr _ _ (B.append (Reps.one (rv.solid (vo h0))))⟩
  exact k1 _ G _ o ((Grow.same s1).trans g2) R2 hn
 exact q.elim
def xa(n:Nat)(ds:List D):DE:=ds.map (λd=>some (dv d))++List.replicate (n-ds.length) none
def Oc{x j:Str}{st:Stmt}{f:Addr}{fd:FuncData}{N ps:List Str}{k:Nat}{T:FT}(F:Fun K x j st f fd)(S:zj N ps (zb st))(qY:∀ (qZ:Value) (A:Around) (outer:List Env) (s:Shared) (H:Hp) (E:XK) (ds:List D) (U:EV->Prop),Room k (A.deeper (envOfC j (zb st) s.heap.objs.size f qZ))->ds.length=ps.length->T ds U ->
   ∃ t,SDs (λ_=>True) (cxOf CX0 P w K mg base N j (zb st) f qZ A outer s H E).nox (yi st) t/\t (xa N.length ds) {nx:=λ_=>U (dv .non),rt:=λr=>rh r/\U r}):FnOk P w K mg base CX0 (k+1) f fd ps (spD K ps.length T):=by
 refine F.ok S (λvs H Q E h=>?_) (λqZ A outer s H vs Q E hr h=>?_)
 ·obtain⟨ds,U,hl,r,_⟩:=h;rw[r.length,hl]
 obtain⟨ds,U,hl,r,hT,M⟩:=h;obtain⟨t,ht,hq⟩:=qY qZ A outer s H E ds U hr hl hT;have I:=r.length;refine⟨R5 K H t,ht ⟨H,trivial⟩,xa N.length ds,[],⟨Same.refl H,(λ_ z=>absurd z (by simp)),(λ_ z=>absurd z (by simp)),(λ_ z=>absurd z (by simp)),List.nodup_nil,λi r' e=>?_,?_⟩,_,hq,λρ' a0 H' o' g R' q=>?_,λ_ _ _ _ _ _ q=>q.elim,λ_ _ _ _ _ _ q=>q.elim,λv r' H' s' B q=>M v r' H' s' B q.1 q.2⟩
 ·unfold xa at e;rcases Nat.lt_or_ge i ds.length with hi|hi
  ·rw[List.getElem?_append_left (by simpa using hi),zai]at e
   have Z:ds[i]?=some ds[i]:=by simp[hi]
   rw[Z]at e;have e':some (dv ds[i])=some r':=Option.some.inj e;cases e';obtain⟨v,ev,B⟩:=r.get Z;refine⟨v,?_,.inl ⟨rfl,B⟩⟩;unfold ZZ.start;rw[List.getElem?_append_left (by rw[zLm,I];exact hi),zai,ev]
   rfl
  rw[List.getElem?_append_right (by simpa using hi),List.getElem?_replicate]at e
  split at e <;> cases e
 ·unfold ZZ.start xa;simp[I]
 exact M .non (dv .non) H' R'.same rfl trivial q
def vt{x j:Str}{st:Stmt}{f:Addr}{fd:FuncData}{N ps:List Str}{k:Nat}{T:FT}(F:Fun K x j st f fd)(S:zj N ps (zb st))(b:u0 K fd ps [])(m:mg x=some (.ref f))(q:∀ (qZ:Value) (A:Around) (outer:List Env) (s:Shared) (H:Hp) (E:XK) (ds:List D) (U:EV->Prop),Room k (A.deeper (envOfC j (zb st) s.heap.objs.size f qZ))->ds.length=ps.length->T ds U ->
   ∃ t,SDs (λ_=>True) (cxOf CX0 P w K mg base N j (zb st) f qZ A outer s H E).nox (yi st) t/\t (xa N.length ds) {nx:=λ_=>U (dv .non),rt:=λr=>rh r/\U r}):FD P w K mg base (k+1) x ps T:=⟨f,fd,Oc F S q,b,F.kp,m⟩
def lawT:FT:=λds U=>∃ns:List Int,ds=[.scr ns]/\ns.length<=63/\U (dv (.bl true))
def walkD{l:W.OpenLaw}{XP:(Str->Option Value)->Heap->Prop}{YP:World->Heap->Prop}{d:DefRec}{K:Params->W.Frag}{x:Str}{k:Nat}(I:l.most=some 63)(j:d.params.defaults=[])(hr:Room k callerA)(M:∀ (w:World) (h:Heap),YP w h->(K w.params).In h)(F:∀ (w:World) (mg:Str->Option Value) (fa:Addr) (h:Heap),(K w.params).In h->h.Ns mainGlobals mg->mg d.name=some (.ref fa) ->
   ∃ fd:FuncData,(∀ (s:Shared) (u:Value),BindsTo s fd ⟨[u],[]⟩ [(x,u)])/\∀ base:Heap,(K w.params).In base->base.Ns mainGlobals mg->FnOk l.prog w (K w.params) mg base CX0 k fa fd [x] (spD (K w.params) 1 lawT)) :
  W.WalkO q loose XP YP l.row.toRowW d [] (λf vs=>PySem.call f vs) :=
 ZZ.walk_of (n:=63) (k:=k) (x:=x) (CX:=λ_=>CX0) (sp:=λw=>spD (K w.params) 1 lawT) I (by decide) j hr M F (λw H a ns hl ho N=>by
  refine⟨[.scr ns],λr=>r=dv (.bl true),rfl,⟨.ref a,[],rfl,⟨a,rfl,?_⟩,rfl⟩,⟨ns,rfl,hl,rfl⟩,λv r H' s B p e=>by subst e;exact B⟩
  rcases N with(h|⟨o,h⟩)|h
  ·rcases ho a with z|⟨o,xs,z⟩
   ·rw[z]at h;cases h
   rw[z]at h;cases h
  ·exact .inl ⟨o,h⟩
  exact .inr h) λ_ _ _ _ _ z=>z
def Sr{xs:Array Value}{x:Value}(hi:s.heap.IsTupleIter it l i)(hl:s.heap.IsTuple l xs)(I:xs[i]?=some x)(N:∀ g,g.IsTupleIter it l (i+1)->Heap.SameBut it s.heap g->Q x {s with heap:=g}):wpAny (model P w) A (Builtin.SmallTypes.nextOf (.ref it)) Q E s:=by
 obtain⟨o,ho,M,j⟩:=id hi;obtain⟨Z,q,_,nl,B⟩:=hl;unfold Builtin.SmallTypes.nextOf;refine zaa (wpAny_callSpecial?_slot (name:=Str.ofString "__next__") hi.typeIs F.slot_tuple_iterator_next (wpAny_call_entry F.slot_tuple_iterator_next hi.typeIs F.entry_tuple_iterator_next ?_ (F.args_tuple_iterator_next_1 _)));show wpAny _ _ (field (.ref it) 0 >>= _) _ _ s;refine zaa (wpAny_field ho j (x:=.ref l) rfl ?_);show wpAny _ _ (if (Value.ref l==Value.none)=true then _ else _) _ _ s
 rw[if_neg (show ¬ ((Value.ref l==Value.none)=true) from Bool.false_ne_true)];show wpAny _ _ (field (.ref it) 1 >>= _) _ _ s;refine zaa (wpAny_field ho j (x:=.int i 0) rfl ?_);show wpAny _ _ (seqItems? (.ref l) >>= _) _ _ s;refine zaa (wpAny_seqItems q B ?_);simp only[Int.toNat_natCast,I];refine zaa (wpAny_setField ho j (by simp) (zab ⟨x,rfl,zab (N _ ⟨_,Heap.get?_update_self _ ho (Obj.isFreed_of_fields (Obj.data_mapFields j _)),(Obj.cls_mapFields ..).trans M,?_⟩ (Heap.SameBut.update ..))⟩))
 rw[Obj.data_mapFields j];simp[rawInt]
def Pc{xs:Array Value}(I:A.handled=none)(hi:s.heap.IsTupleIter it l i)(hl:s.heap.IsTuple l xs)(M:xs[i]?=none)(N:∀ g e,Heap.ExtBut it s.heap g->(∃ o,g.get? e=some o/\o.cls=.type "StopIteration")->E (.ref e) {s with heap:=g}):wpAny (model P w) A (Builtin.SmallTypes.nextOf (.ref it)) Q E s:=by
 obtain⟨o,ho,hc,B⟩:=id hi;obtain⟨Z,j,_,nl,q⟩:=hl;unfold Builtin.SmallTypes.nextOf;refine zaa (wpAny_callSpecial?_slot (name:=Str.ofString "__next__") hi.typeIs F.slot_tuple_iterator_next (wpAny_call_entry F.slot_tuple_iterator_next hi.typeIs F.entry_tuple_iterator_next ?_ (F.args_tuple_iterator_next_1 _)));show wpAny _ _ (field (.ref it) 0 >>= _) _ _ s;refine zaa (wpAny_field ho B (x:=.ref l) rfl ?_);show wpAny _ _ (if (Value.ref l==Value.none)=true then _ else _) _ _ s
 rw[if_neg (show ¬ ((Value.ref l==Value.none)=true) from Bool.false_ne_true)];show wpAny _ _ (field (.ref it) 1 >>= _) _ _ s;refine zaa (wpAny_field ho B (x:=.int i 0) rfl ?_);show wpAny _ _ (seqItems? (.ref l) >>= _) _ _ s;refine zaa (wpAny_seqItems j q ?_);simp only[Int.toNat_natCast,M];refine zaa (wpAny_rule (zaa (wpAny_setField ho B (by simp) ?_)))
 show wpAny _ _ (newExc (.type "StopIteration") [] >>= _) _ _ _;refine zaa ?_;simp only[newExc,newTuple];refine zaa (wpAny_newObj_type ?_ (by size_fits))
 refine zaa (m:=firstArgMember _ _) (wpAny_of_eq (a:=Value.none) (by first|rfl|(simp only[firstArgMember];rfl)) ?_)
 refine wpAny_newObj_type ?_ (by size_fits)
 simp only[raiseNew];refine zaa (wpAny_handled ?_)
 first|rw[show A.in1.handled=none from I]|rw[I]
 exact zaa (zab (wpAny_throw (N _ _ (((Heap.SameBut.update ..).extBut.push _).push _) ⟨_,zad _ rfl,rfl⟩)))
def SqAt(b:Bool)(h:Heap)(l:Addr)(xs:Array Value):Prop:=match b with
 |true=>h.IsTuple l xs
 |false=>h.IsList l xs
def ItAt(b:Bool)(h:Heap)(it l:Addr)(i:Nat):Prop:=match b with
 |true=>h.IsTupleIter it l i
 |false=>h.IsListIter it l i
theorem SqAt.at{b:Bool}{h g:Heap}{l:Addr}{xs:Array Value}(x:SqAt b h l xs)(k:∀ o,h.get? l=some o->g.get? l=some o):SqAt b g l xs:=by
 cases b with
 |true=>exact Heap.IsTuple.at (show h.IsTuple l xs from x) k
 |false=>exact Heap.IsList.at (show h.IsList l xs from x) k
theorem ItAt.at{b:Bool}{h g:Heap}{it l:Addr}{i:Nat}(x:ItAt b h it l i)(k:∀ o,h.get? it=some o->g.get? it=some o):ItAt b g it l i:=by
 cases b with
 |true=>exact Heap.IsTupleIter.at (show h.IsTupleIter it l i from x) k
 |false=>exact Heap.IsListIter.at (show h.IsListIter it l i from x) k
def uh{b:Bool}{xs:Array Value}{x:Value}(hi:ItAt b s.heap it l i)(hl:SqAt b s.heap l xs)(j:xs[i]?=some x)(q:∀ g,ItAt b g it l (i+1)->Heap.SameBut it s.heap g->Q x {s with heap:=g}):wpAny (model P w) A (Builtin.SmallTypes.nextOf (.ref it)) Q E s:=by
 cases b with
 |true=>exact Sr hi hl j q
 |false=>exact wpAny_nextOf_list_item hi hl j q
def gd{b:Bool}{xs:Array Value}(q:A.handled=none)(hi:ItAt b s.heap it l i)(hl:SqAt b s.heap l xs)(j:xs[i]?=none)(B:∀ g e,Heap.ExtBut it s.heap g->(∃ o,g.get? e=some o/\o.cls=.type "StopIteration")->E (.ref e) {s with heap:=g}):wpAny (model P w) A (Builtin.SmallTypes.nextOf (.ref it)) Q E s:=by
 cases b with
 |true=>exact Pc q hi hl j B
 |false=>exact wpAny_nextOf_list_end q hi hl j B
structure ZAt(b1 b2:Bool)(g:Heap)(z ti to i1 i2 l1 l2:Addr)(f:Value)(k:Nat):Prop where
 zz:IsZip g z ti to f
 its:IsPair g ti (.ref i1) (.ref i2)
 out:∃a b,IsPair g to a b
 one:ItAt b1 g i1 l1 k
 two:ItAt b2 g i2 l2 k
structure ZNe(z ti to i1 i2:Addr):Prop where
 ab:ti≠z
 ac:to≠z
 ad:i1≠z
 ae:i2≠z
 bc:ti≠to
 bd:ti≠i1
 be:ti≠i2
 cd:to≠i1
 ce:to≠i2
 de:i1≠i2
def ZOff(z to i1 i2 c:Addr):Prop:=c≠z/\c≠to/\c≠i1/\c≠i2
def Ng{b1 b2:Bool}{k:Nat}{xs ys:Array Value}{x y:Value}{Q:Value->Shared->Prop}(D:ZNe z ti to i1 i2)(d1:ZOff z to i1 i2 l1)(d2:ZOff z to i1 i2 l2)(Z:ZAt b1 b2 s.heap z ti to i1 i2 l1 l2 .none k)(t1:SqAt b1 s.heap l1 xs)(t2:SqAt b2 s.heap l2 ys)(hx:xs[k]?=some x)(hy:ys[k]?=some y)(hQ:∀ g,ZAt b1 b2 g z ti to i1 i2 l1 l2 (rawInt s.heap.objs.size) (k+1)->IsPair g s.heap.objs.size x y->(∀ c o,ZOff z to i1 i2 c->s.heap.get? c=some o->g.get? c=some o)->Q (.ref s.heap.objs.size) {s with heap:=g}) :
  wpAny (model P w) A (Builtin.«zip.__next__» ⟨[.ref z],[]⟩) (λa5 s'=>∃v,a5=.done (.ret v)/\Q v s') E s:=by
 obtain⟨hz,a3,⟨a,b,a4⟩,h1,h2⟩:=Z;show wpAny _ _ (field (.ref z) 2 >>= _) _ _ _;refine zaa (wpAny_field hz rfl (x:=.bool false) rfl ?_);show wpAny _ _ (field (.ref z) 3 >>= _) _ _ _;refine zaa (wpAny_field hz rfl (x:=.ref ti) rfl ?_);refine zaa (wpAny_seqItems a3 rfl ?_);show wpAny _ _ (Builtin.SmallTypes.ownedTupleIsFree (.ref z) >>= _) _ _ _;refine zaa ?_;unfold Builtin.SmallTypes.ownedTupleIsFree;refine zaa (wpAny_field hz rfl (x:=.none) rfl (zab ?_));simp only[if_true];refine zaa (wpAny_rule ?_);refine zaa (wpAny_field hz rfl (x:=.ref to) rfl ?_);refine zaa (wpAny_setField_rec hz (by simp) λg1 z1 s1=>?_)
 replace z1:IsZip g1 z ti to .ellipsis:=z1
 refine zaa ?_;simp only[List.zipIdx_cons,List.zipIdx_nil,List.forIn_cons,List.forIn_nil];refine zaa (zaa (wpAny_onRaise ?_));show wpAny _ _ (Builtin.SmallTypes.nextOf (.ref i1) >>= _) _ _ _;refine zaa (uh (h1.at λo e=>s1.extBut _ o D.ad e) (t1.at λo e=>s1.extBut _ o d1.1 e) hx λg2 p2 s2=>zab ?_);have a1:IsPair g2 to a b:=s2.extBut _ _ D.cd (s1.extBut _ _ D.ac a4);refine zaa (wpAny_seqItems a1 rfl (zaa (wpAny_updateSeq_pair a1 λg3 I M=>?_)))
 replace I:IsPair g3 to x b:=I
 refine zaa (wpAny_letGo (zab (zaa (zaa (wpAny_onRaise ?_)))));show wpAny _ _ (Builtin.SmallTypes.nextOf (.ref i2) >>= _) _ _ _;refine zaa (uh (h2.at λo e=>M.extBut _ o D.ce.symm (s2.extBut _ o D.de.symm (s1.extBut _ o D.ae e))) (t2.at λo e=>M.extBut _ o d2.2.1 (s2.extBut _ o d2.2.2.1 (s1.extBut _ o d2.1 e))) hy λg4 p4 s4=>zab ?_);have a0:IsPair g4 to x b:=s4.extBut _ _ D.ce I;refine zaa (wpAny_seqItems a0 rfl (zaa (wpAny_updateSeq_pair a0 λj B s5=>?_)))
 replace B:IsPair j to x y:=B
 refine zaa (wpAny_letGo (zab (zab (zaa (wpAny_seqItems B rfl (zaa (wpAny_newTuple ?_)))))));have sz:j.objs.size=s.heap.objs.size:=by rw[s5.1,s4.1,M.1,s2.1,s1.1]
 have z5:IsZip j z ti to .ellipsis:=s5.extBut _ _ D.ac.symm (s4.extBut _ _ D.ae.symm (M.extBut _ _ D.ac.symm (s2.extBut _ _ D.ad.symm z1)));have a2:∀c o,ZOff z to i1 i2 c->s.heap.get? c=some o->j.get? c=some o:=λc o q e=>s5.extBut _ _ q.2.1 (s4.extBut _ _ q.2.2.2 (M.extBut _ _ q.2.1 (s2.extBut _ _ q.2.2.1 (s1.extBut _ _ q.1 e))));have q1:ItAt b1 j i1 l1 (k+1):=p2.at λo e=>s5.extBut _ o D.cd.symm (s4.extBut _ o D.de (M.extBut _ o D.cd.symm e));have q2:ItAt b2 j i2 l2 (k+1):=p4.at λo e=>s5.extBut _ o D.ce.symm e;have lz:z<j.objs.size:=zae z5;show wpAny _ _ (Builtin.SmallTypes.ownedTupleHandOut (.ref z) (.ref j.objs.size) >>= _) _ _ _;refine zaa ?_;unfold Builtin.SmallTypes.ownedTupleHandOut;have z6:IsZip (j.push {cls:=.type "tuple",data:=.seq #[x,y]}) z ti to .ellipsis:=zac _ z5;refine zaa (wpAny_setField_rec z6 (by simp) λg7 z7 s7=>?_)
 replace z7:IsZip g7 z ti to (rawInt j.objs.size):=z7
 refine wpAny_setField_rec z7 (by simp) λg8 z8 s8=>?_
 replace z8:IsZip g8 z ti to (rawInt j.objs.size):=z8
 have N:∀c o,c≠z->j.get? c=some o->g8.get? c=some o:=λc o c1 e=>s8.extBut _ _ c1 (s7.extBut _ _ c1 (zac _ e));have pr:IsPair g8 j.objs.size x y:=s8.extBut _ _ (Nat.ne_of_gt lz) (s7.extBut _ _ (Nat.ne_of_gt lz) (zad _ rfl));rw[sz]at z8 pr;refine zab ⟨_,rfl,?_⟩;show Q (.ref j.objs.size) _;rw[sz];exact hQ g8 ⟨z8,N _ _ D.ab (a2 _ _ ⟨D.ab,D.bc,D.bd,D.be⟩ a3),⟨_,_,N _ _ D.ac B⟩,q1.at λo e=>N _ o D.ad e,q2.at λo e=>N _ o D.ae e⟩ pr λc o q e=>N c o q.1 (a2 c o q e)
def Hc{xs ys:Array Value}{Q:Fin->Shared->Prop}(hh:A.handled=none)(D:ZNe z ti to i1 i2)(d1:ZOff z to i1 i2 l1)(d2:ZOff z to i1 i2 l2)(Z:ZAt b1 b2 s.heap z ti to i1 i2 l1 l2 .none k)(t1:SqAt b1 s.heap l1 xs)(t2:SqAt b2 s.heap l2 ys)(a0:xs[k]?=none\/ys[k]?=none)(hE:∀ g e,(∀ c o,ZOff z to i1 i2 c->s.heap.get? c=some o->g.get? c=some o)->(∃ o,g.get? e=some o/\o.cls=.type "StopIteration")->E (.ref e) {s with heap:=g}) :
  wpAny (model P w) A (Builtin.«zip.__next__» ⟨[.ref z],[]⟩) Q E s:=by
 obtain⟨N,a2,⟨a,b,a1⟩,h1,h2⟩:=Z;show wpAny _ _ (field (.ref z) 2 >>= _) _ _ _;refine zaa (wpAny_field N rfl (x:=.bool false) rfl ?_);show wpAny _ _ (field (.ref z) 3 >>= _) _ _ _;refine zaa (wpAny_field N rfl (x:=.ref ti) rfl ?_);refine zaa (wpAny_seqItems a2 rfl ?_);show wpAny _ _ (Builtin.SmallTypes.ownedTupleIsFree (.ref z) >>= _) _ _ _;refine zaa ?_;unfold Builtin.SmallTypes.ownedTupleIsFree;refine zaa (wpAny_field N rfl (x:=.none) rfl (zab ?_));simp only[if_true];refine zaa (wpAny_rule ?_);refine zaa (wpAny_field N rfl (x:=.ref to) rfl ?_);refine zaa (wpAny_setField_rec N (by simp) λg1 z1 s1=>?_)
 replace z1:IsZip g1 z ti to .ellipsis:=z1
 refine zaa ?_;simp only[List.zipIdx_cons,List.zipIdx_nil,List.forIn_cons,List.forIn_nil];refine zaa (zaa (wpAny_onRaise ?_));show wpAny _ _ (Builtin.SmallTypes.nextOf (.ref i1) >>= _) _ _ _;cases hx:xs[k]? with
 |none =>
  refine zaa (gd hh (h1.at λo e=>s1.extBut _ o D.ad e) (t1.at λo e=>s1.extBut _ o d1.1 e) hx λg2 e s2 he=>?_);obtain⟨oe,j,B⟩:=he;have z2:IsZip g2 z ti to .ellipsis:=s2 _ _ D.ad.symm z1;have ez:e≠z:=λx=>by subst x;rw[z2]at j;cases j;simp at B
  exact wpAny_setField_rec z2 (by simp) λg3 _ I=>hE g3 e (λc o q x=>I.extBut _ _ q.1 (s2 _ _ q.2.2.1 (s1.extBut _ _ q.1 x))) ⟨oe,I.extBut _ _ ez j,B⟩
 |some x =>
  have hy:ys[k]?=none:=by rcases a0 with h|h;rw[hx]at h;cases h;exact h
  refine zaa (uh (h1.at λo e=>s1.extBut _ o D.ad e) (t1.at λo e=>s1.extBut _ o d1.1 e) hx λg2 p2 s2=>zab ?_);have M:IsPair g2 to a b:=s2.extBut _ _ D.cd (s1.extBut _ _ D.ac a1);refine zaa (wpAny_seqItems M rfl (zaa (wpAny_updateSeq_pair M λg3 a3 I=>?_)));refine zaa (wpAny_letGo (zab (zaa (zaa (wpAny_onRaise ?_)))));show wpAny _ _ (Builtin.SmallTypes.nextOf (.ref i2) >>= _) _ _ _;refine zaa (gd hh (h2.at λo e=>I.extBut _ o D.ce.symm (s2.extBut _ o D.de.symm (s1.extBut _ o D.ae e))) (t2.at λo e=>I.extBut _ o d2.2.1 (s2.extBut _ o d2.2.2.1 (s1.extBut _ o d2.1 e))) hy λg4 e s4 he=>?_);obtain⟨oe,j,B⟩:=he;have z4:IsZip g4 z ti to .ellipsis:=s4 _ _ D.ae.symm (I.extBut _ _ D.ac.symm (s2.extBut _ _ D.ad.symm z1));have ez:e≠z:=λx=>by subst x;rw[z4]at j;cases j;simp at B
  exact wpAny_setField_rec z4 (by simp) λg5 _ s5=>hE g5 e (λc o q x=>s5.extBut _ _ q.1 (s4 _ _ q.2.2.2 (I.extBut _ _ q.2.1 (s2.extBut _ _ q.2.2.1 (s1.extBut _ _ q.1 x))))) ⟨oe,s5.extBut _ _ ez j,B⟩
def Yy{xs ys:Array Value}{x y:Value}{Q:Option Value->Shared->Prop}(D:ZNe z ti to i1 i2)(d1:ZOff z to i1 i2 l1)(d2:ZOff z to i1 i2 l2)(Z:ZAt b1 b2 s.heap z ti to i1 i2 l1 l2 .none k)(q:SqAt b1 s.heap l1 xs)(j:SqAt b2 s.heap l2 ys)(I:xs[k]?=some x)(B:ys[k]?=some y)(M:∀ g,ZAt b1 b2 g z ti to i1 i2 l1 l2 (rawInt s.heap.objs.size) (k+1)->IsPair g s.heap.objs.size x y->(∀ c o,ZOff z to i1 i2 c->s.heap.get? c=some o->g.get? c=some o)->Q (some (.ref s.heap.objs.size)) {s with heap:=g}) :
  wpAny (model P w) A (pyNext (.ref z)) Q E s:=by
 have ty:s.TypeIs (.ref z) "zip":=⟨_,Z.zz,rfl⟩;unfold pyNext;exact zaa (wpAny_attempt (wpAny_callSpecial?_slot (name:=Str.ofString "__next__") ty F.slot_zip_next (wpAny_call_entry F.slot_zip_next ty F.entry_zip_next (Ng D d1 d2 Z q j I B λg a b c=>zab (M g a b c)) (F.args_zip_next_1 _))))
def T1{xs ys:Array Value}{Q:Option Value->Shared->Prop}(M:A.handled=none)(D:ZNe z ti to i1 i2)(d1:ZOff z to i1 i2 l1)(d2:ZOff z to i1 i2 l2)(Z:ZAt b1 b2 s.heap z ti to i1 i2 l1 l2 .none k)(B:SqAt b1 s.heap l1 xs)(q:SqAt b2 s.heap l2 ys)(j:xs[k]?=none\/ys[k]?=none)(hQ:∀ g,(∀ c o,ZOff z to i1 i2 c->s.heap.get? c=some o->g.get? c=some o)->Q none {s with heap:=g}):wpAny (model P w) A (pyNext (.ref z)) Q E s:=by
 have ty:s.TypeIs (.ref z) "zip":=⟨_,Z.zz,rfl⟩;unfold pyNext;refine zaa (wpAny_attempt (wpAny_callSpecial?_slot (name:=Str.ofString "__next__") ty F.slot_zip_next (wpAny_call_entry F.slot_zip_next ty F.entry_zip_next (Hc M D d1 d2 Z B q j λg e I N=>?_) (F.args_zip_next_1 _))));obtain⟨o,ho,hc⟩:=N;refine zaa (wpAny_isInstance (T:="StopIteration") (b:=true) ⟨o,ho,hc⟩ isSubtype_stop ?_);exact zab (hQ _ I)
def Jq(b:Bool):String:=match b with
 |true=>"tuple_iterator"
 |false=>"list_iterator"
abbrev zh1(b1:Bool)(h:Heap)(l1:Addr):Heap:=h.push {cls:=.type (Jq b1),data:=.fields #[.ref l1,.int 0 0]}
abbrev zh2(b1 b2:Bool)(h:Heap)(l1 l2:Addr):Heap:=(zh1 b1 h l1).push {cls:=.type (Jq b2),data:=.fields #[.ref l2,.int 0 0]}
abbrev zh3(b1 b2:Bool)(h:Heap)(l1 l2:Addr):Heap:=(zh2 b1 b2 h l1 l2).push {cls:=.type "tuple",data:=.seq #[.ref h.objs.size,.ref (zh1 b1 h l1).objs.size]}
abbrev zh4(b1 b2:Bool)(h:Heap)(l1 l2:Addr):Heap:=(zh3 b1 b2 h l1 l2).push {cls:=.type "tuple",data:=.seq #[.none,.none]}
abbrev zh5(b1 b2:Bool)(h:Heap)(l1 l2:Addr):Heap:=(zh4 b1 b2 h l1 l2).push {cls:=.type "zip",data:=.fields #[.none,.bool false,.bool false,.ref (zh2 b1 b2 h l1 l2).objs.size,.ref (zh3 b1 b2 h l1 l2).objs.size]}
def Hb(b1 b2:Bool)(l1 l2:Addr)(xs ys:Array Value) :
  Meets (Builtin.«zip.__new__» ⟨[.type "zip",.ref l1,.ref l2],[]⟩) (λ_ R s=>SqAt b1 s.heap l1 xs/\SqAt b2 s.heap l2 ys/\R (.ok (.ret (.ref (zh4 b1 b2 s.heap l1 l2).objs.size))) {s with heap:=zh5 b1 b2 s.heap l1 l2}) :=
 .of_wp λprog w A R s h=>by
  obtain⟨q,g,d,tk,j⟩:=s;obtain⟨I,B,h⟩:=h;have M:=sub_zip;cases b1 <;> cases b2
  ·have b1:Heap.IsList (Shared.heap ⟨q,g,d,tk,j⟩) l1 xs:=I;have b2:Heap.IsList (Shared.heap ⟨q.push {cls:=.type "list_iterator",data:=.fields #[.ref l1,.int 0 0]},g,d,tk,j⟩) l2 ys:=Heap.IsList.push B _;wp_walk using wpAny_pyIter_list b1,wpAny_pyIter_list b2;exact⟨_,rfl,h⟩
  ·have b1:Heap.IsList (Shared.heap ⟨q,g,d,tk,j⟩) l1 xs:=I;have b2:Heap.IsTuple (Shared.heap ⟨q.push {cls:=.type "list_iterator",data:=.fields #[.ref l1,.int 0 0]},g,d,tk,j⟩) l2 ys:=Heap.IsTuple.push B _;wp_walk using wpAny_pyIter_list b1,wpAny_pyIter_tuple b2;exact⟨_,rfl,h⟩
  ·have b1:Heap.IsTuple (Shared.heap ⟨q,g,d,tk,j⟩) l1 xs:=I;have b2:Heap.IsList (Shared.heap ⟨q.push {cls:=.type "tuple_iterator",data:=.fields #[.ref l1,.int 0 0]},g,d,tk,j⟩) l2 ys:=Heap.IsList.push B _;wp_walk using wpAny_pyIter_tuple b1,wpAny_pyIter_list b2;exact⟨_,rfl,h⟩
  have b1:Heap.IsTuple (Shared.heap ⟨q,g,d,tk,j⟩) l1 xs:=I;have b2:Heap.IsTuple (Shared.heap ⟨q.push {cls:=.type "tuple_iterator",data:=.fields #[.ref l1,.int 0 0]},g,d,tk,j⟩) l2 ys:=Heap.IsTuple.push B _;wp_walk using wpAny_pyIter_tuple b1,wpAny_pyIter_tuple b2;exact⟨_,rfl,h⟩
def Vz{xs ys:Array Value}(M:SqAt b1 s.heap l1 xs)(I:SqAt b2 s.heap l2 ys)(h:∀ g,ZAt b1 b2 g (s.heap.objs.size+4) (s.heap.objs.size+2) (s.heap.objs.size+3) s.heap.objs.size (s.heap.objs.size+1) l1 l2 .none 0->(∀ c o,s.heap.get? c=some o->g.get? c=some o)->Q (.ref (s.heap.objs.size+4)) {s with heap:=g}) :
  wpAny (model P w) A (call (.type "zip") [.ref l1,.ref l2]) Q E s:=by
 refine callType_new F.called_zip (by decide) (F.typeCall_zip_2 _ _) (F.newCall_zip_2 _ _) (λj=>F.args_object_init_3 j _ _) F.entry_zip_new (Hb b1 b2 l1 l2 xs ys) ⟨M,I,?_⟩
 have n1:(zh1 b1 s.heap l1).objs.size=s.heap.objs.size+1:=Heap.size_push ..;have n2:(zh2 b1 b2 s.heap l1 l2).objs.size=s.heap.objs.size+2:=by rw[Heap.size_push,n1]
 have n3:(zh3 b1 b2 s.heap l1 l2).objs.size=s.heap.objs.size+3:=by rw[Heap.size_push,n2]
 have n4:(zh4 b1 b2 s.heap l1 l2).objs.size=s.heap.objs.size+4:=by rw[Heap.size_push,n3]
 have q:(zh5 b1 b2 s.heap l1 l2).get? (zh4 b1 b2 s.heap l1 l2).objs.size=some _:=zad _ rfl;have B:(zh5 b1 b2 s.heap l1 l2).get? (zh3 b1 b2 s.heap l1 l2).objs.size=some _:=zac _ (zad _ rfl);have g3:(zh5 b1 b2 s.heap l1 l2).get? (zh2 b1 b2 s.heap l1 l2).objs.size=some _:=zac _ (zac _ (zad _ rfl));have g2:(zh5 b1 b2 s.heap l1 l2).get? (zh1 b1 s.heap l1).objs.size=some _:=zac _ (zac _ (zac _ (zad _ rfl)));have g1:(zh5 b1 b2 s.heap l1 l2).get? s.heap.objs.size=some _:=zac _ (zac _ (zac _ (zac _ (zad _ rfl))));show _/\_;rw[n2,n3,n4]at q;rw[n1,n2]at g3;rw[n3]at B;rw[n1]at g2;rw[n4];exact⟨⟨_,q,rfl⟩,h _ ⟨q,g3,⟨_,_,B⟩,(by cases b1 <;> exact⟨_,g1,rfl,rfl⟩),(by cases b2 <;> exact⟨_,g2,rfl,rfl⟩)⟩ λc o e=>zac _ (zac _ (zac _ (zac _ (zac _ e))))⟩
def ItAt.there{b:Bool}(x:ItAt b h it l i):∃o,h.get? it=some o/\∀v,o.data≠.cell v:=by
 cases b with
 |true =>
  obtain⟨o,e,c,d⟩:=(show h.IsTupleIter it l i from x);exact⟨o,e,λv q=>by rw[d]at q;cases q⟩
 |false =>
  obtain⟨o,e,c,d⟩:=(show h.IsListIter it l i from x);exact⟨o,e,λv q=>by rw[d]at q;cases q⟩
def SqK(b:Bool)(K:W.Frag)(H:Hp)(l:Addr)(xs:List V):Prop:=match b with
 |true=>SqT K H l xs
 |false=>SqL K H l xs
def Ym{b:Bool}(I:Inv X pn G H s)(h:SqK b X.K H l xs):∃its,Vals xs its/\SqAt b s.heap l its.toArray:=by
 cases b with
 |true =>
  obtain⟨its,r,p,_⟩:=I.tuple h;exact⟨its,r,(show s.heap.IsTuple l its.toArray from p)⟩
 |false =>
  obtain⟨its,r,p,_⟩:=I.list h;exact⟨its,r,p.isList⟩
def J4{b:Bool}(I:Inv X pn G H s)(h:SqK b X.K H l xs)(h':SqK b X.K H l ys):xs=ys:=by
 cases b with
 |true=>exact I.tuple_inj h h'
 |false=>exact I.list_inj h h'
def vh{b:Bool}{l c:Addr}(I:Inv X pn G H s)(h:SqK b X.K H l xs)(f:FpOk X pn H c):l≠c:=by
 have B:∀{o:Obj},X.K.lookup l=some o->l≠c:=λ{o} j z=>by
  subst z;have e:=I.ok.mod.kin _ _ j;rcases f.2.2.2.1 with q|q
  ·exact I.ok.noex _ _ e q
  exact absurd (Nat.lt_of_lt_of_le (zae e) I.ok.bsz) (Nat.not_lt.mpr q)
 cases b with
 |true =>
  rcases h with(h|⟨o,h⟩)|⟨o,its,n,j,_⟩
  ·exact zg h f.1
  ·exact zg h f.1
  exact B j
 |false =>
  rcases h with(h|⟨o,h⟩)|⟨o,its,n,j,_⟩
  ·exact zg h f.1
  ·exact zg h f.1
  exact B j
def Itz(b1 b2:Bool)(K:W.Frag)(l1 l2:Addr):It :=
 ⟨λi H=>∃xs ys x y,SqK b1 K H l1 xs/\SqK b2 K H l2 ys/\xs[i]?=some x/\ys[i]?=some y,
  λi H v H'=>∃T x y,H T=none/\v=.ref T/\(∀xs,SqK b1 K H l1 xs->xs[i]?=some x)/\(∀ys,SqK b2 K H l2 ys->ys[i]?=some y)/\H'=upd H T (.tup [x,y]),
  λi H=>∃xs ys,SqK b1 K H l1 xs/\SqK b2 K H l2 ys/\(xs.length<=i\/ys.length<=i)⟩
def Np{P:Program}{w:World}{K:W.Frag}{es:List Expr}{kk:Nat}{tp:Pos}{b1 b2:Bool}{z ti to i1 i2 l1 l2:Addr}(D:ZNe z ti to i1 i2) :
  Turn P w K (.Tuple es kk tp) (Itz b1 b2 K l1 l2) [z,ti,to,i1,i2] z (λi h=>ZAt b1 b2 h z ti to i1 i2 l1 l2 .none i) where
 mem:=by simp
 obj:=λi h Z b B=>by
  obtain⟨hz,N,⟨u,v,M⟩,h1,h2⟩:=Z;obtain⟨o1,e1,d1⟩:=h1.there;obtain⟨o2,e2,d2⟩:=h2.there;simp only[zam,List.not_mem_nil,or_false]at B;rcases B with rfl|rfl|rfl|rfl|rfl
  ·exact⟨_,hz,λv q=>(by cases q)⟩
  ·exact⟨_,N,λv q=>(by cases q)⟩
  ·exact⟨_,M,λv q=>(by cases q)⟩
  ·exact⟨o1,e1,λv q=>d1 v q⟩
  exact⟨o2,e2,λv q=>d2 v q⟩
 keep:=λi h h' Z k=>by
  obtain⟨hz,N,⟨u,v,M⟩,h1,h2⟩:=Z;exact⟨k z (by simp) _ hz,k ti (by simp) _ N,⟨u,v,k to (by simp) _ M⟩,h1.at λo e=>k i1 (by simp) o e,h2.at λo e=>k i2 (by simp) o e⟩
 item:=by
  intro X hP hw hK hc i pn s G H E I hf Z hg;subst hP hw hK;obtain⟨xs,ys,x,y,e1,e2,hx,hy⟩:=hg;obtain⟨a5,r1,g1⟩:=Ym I e1;obtain⟨a4,r2,g2⟩:=Ym I e2;obtain⟨u,hu,ru⟩:=r1.get hx;obtain⟨v,hv,rv⟩:=r2.get hy;have fz:=hf z (by simp)
  have a0:=hf to (by simp)
  have f1:=hf i1 (by simp)
  have f2:=hf i2 (by simp)
  have a1:∀b ho,H b=some ho->ZOff z to i1 i2 b:=λb ho e=>⟨zg e fz.1,zg e a0.1,zg e f1.1,zg e f2.1⟩;refine Yy D ⟨vh I e1 fz,vh I e1 a0,vh I e1 f1,vh I e1 f2⟩ ⟨vh I e2 fz,vh I e2 a0,vh I e2 f1,vh I e2 f2⟩ Z g1 g2 (x:=u) (y:=v) (by simpa using hu) (by simpa using hv) λg Z2 pr kp=>?_
  have hn:H s.heap.objs.size=none:=I.fresh;have j:∀b,b∉[z,to,i1,i2]->ZOff z to i1 i2 b:=λb B=>by
   simp only[zam,List.not_mem_nil,or_false,not_or]at B;exact B
  have un:Un (frs X.stack) [z,to,i1,i2] H (upd H s.heap.objs.size (.tup [x,y])) s.heap g :=
   ⟨λb o q _ _ hx=>kp b o (j b hx) q,λb o q _ _ hx=>⟨o.slots,kp b o (j b hx) q⟩,λb o q n _=>by rw[y0 (Nat.ne_of_lt (zae q))];exact n,λb o q hx=>⟨o,kp b o (j b hx) q⟩,
    λb zs q=>by rw[y0 (zg q hn)];exact q,λb o zs q=>by rw[y0 (zg q hn)];exact q,λb ps q=>⟨#[],by rw[y0 (zg q hn),q];simp⟩⟩
  have hok:HOk X.prog X.w (upd H s.heap.objs.size (.tup [x,y])) g:=λb o e=>by
   by_cases B:b=s.heap.objs.size
   ·subst B;rw[zw]at e;cases e;refine⟨by simp only[zLc,zLn];rw[sizeLine_eq];decide,[u,v],.cons ru (.cons rv .nil),⟨_,pr,rfl,_,rfl⟩,_,pr,rfl⟩
   rw[y0 B]at e;refine(I.hok b o e).stay (λc ob hc q=>kp c ob ?_ q) (λc q=>by rw[y0 (zg q hn)];exact q) λc zs q=>by rw[y0 (zg q hn)];exact q
   rcases hc with rfl|hc
   ·exact a1 _ _ e
   exact a1 _ _ hc
  have I2:Inv X pn G (upd H s.heap.objs.size (.tup [x,y])) {s with heap:=g}:=I.call' (s':={s with heap:=g}) (ch:=[z,to,i1,i2]) rfl un hok I.bare λb B=>by
   have a3:b∈[z,ti,to,i1,i2]:=by
    simp only[zam,List.not_mem_nil,or_false]at B ⊢;rcases B with rfl|rfl|rfl|rfl <;> simp
   have q:=hf b a3;exact⟨q.2.2.2.1,q.2.1,q.2.2.2.2.1,q.2.2.2.2.2⟩
  have a2:∀b∈[z,ti,to,i1,i2],upd H s.heap.objs.size (.tup [x,y]) b=none:=λb B=>by
   have lb:b<s.heap.objs.size:=by
    obtain⟨hz,N,⟨u,v,M⟩,h1,h2⟩:=Z;obtain⟨_,q1,_⟩:=h1.there;obtain⟨_,q2,_⟩:=h2.there;simp only[zam,List.not_mem_nil,or_false]at B;rcases B with rfl|rfl|rfl|rfl|rfl
    ·exact zae hz
    ·exact zae N
    ·exact zae M
    ·exact zae q1
    exact zae q2
   rw[y0 (Nat.ne_of_lt lb)];exact(hf b B).1
  refine⟨_,rfl,wpAny_letOwnedTupleGo_zip Z2.zz λg2 z3 sb=>?_⟩;refine⟨.ref s.heap.objs.size,_,I2.turned (t':=s.toks) (λb o B e=>sb.extBut b o B e) (a2 z (by simp)) fz.2.1 fz.2.2.2.1 fz.2.2.2.2.1 fz.2.2.2.2.2,rfl,⟨_,x,y,hn,rfl,(λzs q=>by rw[<- J4 I e1 q];exact hx),(λzs q=>by rw[<- J4 I e2 q];exact hy),rfl⟩,?_,a2⟩
  obtain⟨_,N,⟨u2,v2,M⟩,h1,h2⟩:=Z2;exact⟨z3,sb.extBut _ _ D.ab N,⟨u2,v2,sb.extBut _ _ D.ac M⟩,h1.at λo e=>sb.extBut _ o D.ad e,h2.at λo e=>sb.extBut _ o D.ae e⟩
 done:=by
  intro X hP hw hK hc i pn s G H E I hf Z hg;subst hP hw hK;obtain⟨xs,ys,e1,e2,a6⟩:=hg;obtain⟨a5,r1,g1⟩:=Ym I e1;obtain⟨a4,r2,g2⟩:=Ym I e2;have fz:=hf z (by simp)
  have a0:=hf to (by simp)
  have f1:=hf i1 (by simp)
  have f2:=hf i2 (by simp)
  have a1:∀b ho,H b=some ho->ZOff z to i1 i2 b:=λb ho e=>⟨zg e fz.1,zg e a0.1,zg e f1.1,zg e f2.1⟩;have a8:=r1.length;have a7:=r2.length;refine T1 (I.ok.hd hc) D ⟨vh I e1 fz,vh I e1 a0,vh I e1 f1,vh I e1 f2⟩ ⟨vh I e2 fz,vh I e2 a0,vh I e2 f1,vh I e2 f2⟩ Z g1 g2 ?_ λg kp=>?_
  ·rcases a6 with q|q
   ·exact .inl (by simp;omega)
   exact .inr (by simp;omega)
  refine⟨rfl,?_⟩;have j:∀b,b∉[z,to,i1,i2]->ZOff z to i1 i2 b:=λb B=>by
   simp only[zam,List.not_mem_nil,or_false,not_or]at B;exact B
  have un:Un (frs X.stack) [z,to,i1,i2] H H s.heap g :=
   ⟨λb o q _ _ hx=>kp b o (j b hx) q,λb o q _ _ hx=>⟨o.slots,kp b o (j b hx) q⟩,λb o q n _=>n,λb o q hx=>⟨o,kp b o (j b hx) q⟩,
    λb zs q=>q,λb o zs q=>q,λb ps q=>⟨#[],by rw[q];simp⟩⟩
  refine I.call' (s':={s with heap:=g}) (ch:=[z,to,i1,i2]) rfl un (λb o e=>(I.hok b o e).stay (λc ob hc q=>kp c ob ?_ q) (λc q=>q) λc zs q=>q) I.bare λb B=>?_
  ·rcases hc with rfl|hc
   ·exact a1 _ _ e
   exact a1 _ _ hc
  have a3:b∈[z,ti,to,i1,i2]:=by
   simp only[zam,List.not_mem_nil,or_false]at B ⊢;rcases B with rfl|rfl|rfl|rfl <;> simp
  have q:=hf b a3;exact⟨q.2.2.2.1,q.2.1,q.2.2.2.2.1,q.2.2.2.2.2⟩
 self:=λ_ _ _ _ _ Z h=>wpAny_pyIter_zip Z.zz h
def W5:bootBuiltins "zip" = some (.type "zip"):=by kernel_rfl
def iZip(K:W.Frag)(ta:TA):TI:=λG H R=>ta G H λvs H1=>∃b1 b2 l1 l2 xs ys,vs=[.ref l1,.ref l2]/\SqK b1 K H1 l1 xs/\SqK b2 K H1 l2 ys/\R (Itz b1 b2 K l1 l2) H1
def Ck{X:Cx}{es:List Expr}{kk:Nat}{tp:Pos}{a b:Expr}{ta:TA}{p pos:Pos}(hg:Gl X "zip")(hm:X.mg "zip" = none)(ha:PA X [a,b] ta)(he:starEach [a,b] X.env=(false,eval a X.env)::starEach [b] X.env:=by rfl)(N:(backTo pos (starEach [b] X.env)).any (·.1)=false:=by rfl):PI X (.Tuple es kk tp) (.Call (.Name "zip" p) [a,b] [] pos) (iZip X.K ta):=by
 intro pn s G H R I h;refine wpAny_Call_Name_kw (su I hg hm W5 ?_ (by decide) (by decide))
 refine PyProof.Rows.callWith_type1 (thn (ha pos pn s G H _ I h) λus s1 Zh=>?_) he N;obtain⟨vs,H1,M,r1,b1,b2,l1,l2,xs,ys,e,e1,e2,q⟩:=Zh;subst e;obtain⟨u,v,rfl,ru,rv⟩:=Hd r1;cases ru;cases rv;obtain⟨B,r1,g1⟩:=Ym M e1;obtain⟨j,r2,g2⟩:=Ym M e2;refine Vz (xs:=B.toArray) (ys:=j.toArray) g1 g2 λg Z kp=>wpAny_pyIter_zip Z.zz ?_;have D:ZNe (s1.heap.objs.size+4) (s1.heap.objs.size+2) (s1.heap.objs.size+3) s1.heap.objs.size (s1.heap.objs.size+1):=by
  constructor <;> (intro z;exact absurd (show(_:Nat)=_ from z) (by omega))
 refine⟨_,_,_,_,H1,rfl,M.kept (t':=s1.toks) kp,Np D,Z,λb hb=>?_,q⟩;have lb:s1.heap.objs.size<=b:=by
  simp only[zam,List.not_mem_nil,or_false]at hb;rcases hb with rfl|rfl|rfl|rfl|rfl
  ·exact Nat.le_add_right _ _
  ·exact Nat.le_add_right _ _
  ·exact Nat.le_add_right _ _
  ·exact zaj _
  exact Nat.le_add_right _ _
 exact M.fpOk lb (M.hok.fresh lb)
structure FlyB(P:Program)(w:World)(outer:List Env)(H:Hp)(h:Heap)(H':Hp)(B:Heap)(h':Heap):Prop where
 un:Un (frs outer) [] H H' h h'
 hok:HOk P w H' h'
 cov:∀b o,h'.get? b=some o->b∉frs outer->(H' b≠none\/∃o0,h.get? b=some o0)->B.get? b=some o
def CX1(P:Program)(w:World):CXT:=λouter H s E e s'=>∃(a C:Addr)(t:Value)(H':Hp)(B:Heap),e=.ref a/\s'.os=s.os/\AllBare s'.gens/\FlyB P w outer H s.heap H' B s'.heap /\
 Heap.FlyingW B outer a (.ref C) t s'.heap/\E (.ref C) none H'
def sg(t b:Int):Int:=if b<0 then -(Int.gcd t b:Int) else Int.gcd t b
def rt(t b:Int):Int×Int:=(t.fdiv (sg t b),b.fdiv (sg t b))
open PySem.Builtin.Int (intBits)
def fdOk{i j:Int}{m:Nat}(h:j≠0)(q:intBits j<=m)(B:m<=8999:=by omega):FdOk i j:=by
 refine⟨h,?_⟩;unfold intBits at q;rw[if_neg (by simpa using h)]at q
 omega
def wt{n:Nat}{i:Int}:okD n (.int i)=True:=by cases n <;> rfl
def Bd{n:Nat}{i:Bool}:okD n (.bl i)=True:=by cases n <;> rfl
def gc{n:Nat}:okD n (.str i)=True:=by cases n <;> rfl
def Fs{n:Nat}:okD n .non=True:=by cases n <;> rfl
def Fq{n:Nat}(h:0<n):okD n (.tup ds)=∀x∈ds,okD (n-1) x:=by
 cases n with
 |zero=>omega
 |succ n=>rfl
def Y6{a b:Int}:eqD (.int a) (.int b)=(a==b):=rfl
def Oo{a b:Str}:eqD (.str a) (.str b)=(a==b):=rfl
def Ap{a b:Bool}:eqD (.bl a) (.bl b)=(a==b):=rfl
def w1(g:Int->(EV->Prop)->Prop):FT:=λds U=>match ds with
 |[.int a]=>g a U
 |_=>False
def r2(g:Int->Int->Int->Int->(EV->Prop)->Prop):FT:=λds U=>match ds with
 |[.tup [.int a,.int b],.tup [.int c,.int d]]=>g a b c d U
 |_=>False
structure Sm(a b c d:Int):Prop where
 a:intBits a<=3000
 b:intBits b<=3000
 c:intBits c<=3000
 d:intBits d<=3000
def z0w{x y:Int}(q:intBits x<=3000)(j:intBits y<=3000):IntMulOk x y:=IntMulOk.of_bits (zak q (by decide)) (zak j (by decide))
def z1u{α:Type}{x:α}{l:List α}:atI (x::l) 0=some x:=by
 rw[show(0:Int)=((0:Nat):Int) from rfl];exact Yg rfl
def z1t{α:Type}{x y:α}{l:List α}:atI (x::y::l) 1=some y:=by
 rw[show(1:Int)=((1:Nat):Int) from rfl];exact Yg rfl
def z1s{α:Type}{x y z:α}{l:List α}:atI (x::y::z::l) 2=some z:=by
 rw[show(2:Int)=((2:Nat):Int) from rfl];exact Yg rfl
variable{κ:Type}[DecidableEq κ]
def valV(kvs:List (κ×V))(k:κ):Option V:=(kvs.find? λj=>decide (j.1=k)).map (·.2)
def putK(kvs:List (κ×V))(k:κ)(v:V):List (κ×V) :=
 if (kvs.any λj=>decide (j.1=k))=true then kvs.map (λj=>if j.1=k then(j.1,v) else j) else kvs++[(k,v)]
def jc{p:κ×V}{r:List (κ×V)}{k:κ}(e:p.1=k):valV (p::r) k=some p.2:=by simp[valV,List.find?_cons,e]
def jd{p:κ×V}{r:List (κ×V)}{k:κ}(e:¬ p.1=k):valV (p::r) k=valV r k:=by simp[valV,List.find?_cons,e]
theorem U1(k:κ):∀kvs:List (κ×V),(kvs.any λj=>decide (j.1=k))=(valV kvs k).isSome
 |[]=>rfl
 |p::r=>by
  rw[List.any_cons];by_cases e:p.1=k
  ·simp only[jc e,decide_eq_true e,Bool.true_or,Option.isSome_some]
  rw[jd e,decide_eq_false e,Bool.false_or];exact U1 k r
def gm(kvs:List (κ×V))(k:κ)(v:V):(putK kvs k v).length<=kvs.length+1:=by
 unfold putK;split
 ·rw[zLm];omega
 rw[zLa,zLc,zLn];omega
def RelO.isSome_eq{o:Option V}{u:Option Value}(r:RelO o u):o.isSome=u.isSome:=by
 cases o with
 |none=>cases u with
  |none=>rfl
  |some _=>exact(show False from r).elim
 |some _=>cases u with
  |none=>exact(show False from r).elim
  |some _=>rfl
theorem RelO.getD{o:Option V}{u:Option Value}{d:V}{d':Value}(r:RelO o u)(j:RelV d d'):RelV (o.getD d) (u.getD d'):=by
 cases o with
 |none=>cases u with
  |none=>exact j
  |some _=>exact(show False from r).elim
 |some _=>cases u with
  |none=>exact(show False from r).elim
  |some _=>exact r
def KV.val{kvs:List (κ×V)}{vs:List (κ×Value)}(r:KV kvs vs)(k:κ):RelO (valV kvs k) (valueAt vs k):=by
 unfold KV at r
 induction r with
 |nil=>exact True.intro
 |@cons p q ps qs h t ih =>
  obtain⟨h1,h2⟩:=h;by_cases e:p.1=k
  ·have j:q.1=k:=h1.symm.trans e;have b:valueAt (q::qs) k=some q.2:=by simp[valueAt,List.find?_cons,j]
   rw[jc e,b];exact h2
  have j:¬ q.1=k:=λz=>e (h1.trans z);have b:valueAt (q::qs) k=valueAt qs k:=by simp[valueAt,List.find?_cons,j]
  rw[jd e,b];exact ih
theorem KV.any{kvs:List (κ×V)}{vs:List (κ×Value)}(r:KV kvs vs)(k:κ):(kvs.any λj=>decide (j.1=k))=vs.any λj=>decide (j.1=k):=by
 unfold KV at r
 induction r with
 |nil=>rfl
 |cons h t ih=>rw[List.any_cons,List.any_cons,ih,h.1]
def KV.repl{kvs:List (κ×V)}{vs:List (κ×Value)}(r:KV kvs vs)(k:κ){y:V}{u:Value}(B:RelV y u) :
  KV (kvs.map λj=>if j.1=k then(j.1,y) else j) (vs.map λj=>if j.1=k then(j.1,u) else j):=by
 unfold KV at r ⊢
 induction r with
 |nil=>exact .nil
 |@cons p q ps qs h t ih =>
  rw[List.map_cons,List.map_cons];refine .cons ?_ ih;obtain⟨h1,h2⟩:=h;by_cases e:p.1=k
  ·rw[if_pos e,if_pos (h1.symm.trans e)];exact⟨h1,B⟩
  rw[if_neg e,if_neg (λz=>e (h1.trans z))];exact⟨h1,h2⟩
def KV.put{kvs:List (κ×V)}{vs:List (κ×Value)}(r:KV kvs vs)(k:κ){y:V}{u:Value}(j:RelV y u):KV (putK kvs k y) (stored vs k u):=by
 unfold putK stored;rw[r.any k];by_cases e:(vs.any λq=>decide (q.1=k))=true
 ·rw[if_pos e,if_pos e];exact r.repl k j
 rw[if_neg e,if_neg e];exact Paired.snoc r ⟨rfl,j⟩
theorem KV.length{kvs:List (κ×V)}{vs:List (κ×Value)}(r:KV kvs vs):kvs.length=vs.length:=Paired.length r
def R8{P:Program}{w:World}{k:Key}{u:Value}(r:RelV (kV k) u):(yk P w).is k u=true:=by
 cases k with
 |inl i=>obtain⟨t,e⟩:=(show ∃t,u=Value.int i t from r);subst e;exact Wz P w i t
 |inr x=>obtain⟨t,e⟩:=(show ∃t,u=Value.str x t from r);subst e;exact gj P w x t
theorem X5{P:Program}{w:World}:∀{ks:List Key}{us:List Value},Vals (ks.map kV) us->ItemsAre (yk P w) ks us
 |[],_,r=>by rw[List.map_nil]at r;cases r;exact .nil
 |k::ks,_,r=>by
  rw[List.map_cons]at r;cases r with
  |cons h t=>exact .cons (R8 h) (X5 t)
abbrev KT(H:Hp):List (List Key×V)->List (List Key×Addr×Value)->Prop:=Paired λp q=>p.1=q.1/\H q.2.1=some (.tup (p.1.map kV))/\RelV p.2 q.2.2
def KT.val{H:Hp}{kvs:List (List Key×V)}{xs:List (List Key×Addr×Value)}(r:KT H kvs xs)(k:List Key):RelO (valV kvs k) ((atKey xs k).map (·.2)):=by
 induction r with
 |nil=>exact True.intro
 |@cons p q ps qs h t ih =>
  obtain⟨h1,_,h2⟩:=h;by_cases e:p.1=k
  ·have j:q.1=k:=h1.symm.trans e;have b:atKey (q::qs) k=some q.2:=by simp[atKey,List.find?_cons,j]
   rw[jc e,b];exact h2
  have j:¬ q.1=k:=λz=>e (h1.trans z);have b:atKey (q::qs) k=atKey qs k:=by simp[atKey,List.find?_cons,j]
  rw[jd e,b];exact ih
def KT.repl{H:Hp}{kvs:List (List Key×V)}{xs:List (List Key×Addr×Value)}(r:KT H kvs xs)(k:List Key){y:V}{u:Value}(B:RelV y u) :
  KT H (kvs.map λj=>if j.1=k then(j.1,y) else j) (xs.map (putAt k u)):=by
 induction r with
 |nil=>exact .nil
 |@cons p q ps qs h t ih =>
  rw[List.map_cons,List.map_cons];refine .cons ?_ ih;obtain⟨h1,h2,I⟩:=h;unfold putAt;by_cases e:p.1=k
  ·rw[if_pos e,if_pos (h1.symm.trans e)];exact⟨h1,h2,B⟩
  rw[if_neg e,if_neg (λz=>e (h1.trans z))];exact⟨h1,h2,I⟩
def KT.put{H:Hp}{kvs:List (List Key×V)}{xs:List (List Key×Addr×Value)}(r:KT H kvs xs)(k:List Key){b:Addr}{y:V}{u:Value}(I:H b=some (.tup (k.map kV)))(j:RelV y u) :
  KT H (putK kvs k y) (storedH xs k b u):=by
 have e:(kvs.any λB=>decide (B.1=k))=(atKey xs k).isSome:=by
  rw[U1,(r.val k).isSome_eq,Option.isSome_map]
 unfold putK storedH;rw[e];by_cases q:(atKey xs k).isSome=true
 ·rw[if_pos q,if_pos q];exact r.repl k j
 rw[if_neg q,if_neg q];exact Paired.snoc r ⟨rfl,I,j⟩
def KT.keeps{H H':Hp}{kvs:List (List Key×V)}{xs:List (List Key×Addr×Value)}(r:KT H kvs xs)(j:∀ b ys,H b=some (.tup ys)->H' b=some (.tup ys)):KT H' kvs xs :=
 Paired.mapP r λ_ _ z=>⟨z.1,j _ _ z.2.1,z.2.2⟩
variable{a:Addr}
def Dy{u:HO}(ok:HOk P w H h)(e:Rd H a u):wm P w H h a u:=e.ok ok
def Vq{kvs:List (Key×V)}(ok:HOk P w H h)(e:Rd H a (.dK kvs)):kvs.length<=sizeLine/\(a==sysModules)=false/\∃vs,KV kvs vs/\h.DictOf (yk P w) a vs :=
 show wm P w H h a (.dK kvs) from Dy ok e
def Ez{kvs:List (Key×V)}(ok:HOk P w H h)(e:H a=some (.dK kvs)):kvs.length<=sizeLine/\(a==sysModules)=false/\∃vs,KV kvs vs/\h.DictOf (yk P w) a vs:=Vq ok (.inl e)
def X2{ks:List Key}(ok:HOk P w H h)(e:H a=some (.tup (ks.map kV))):(tupleKind (yk P w)).is h ks a:=by
 obtain⟨_,its,r,⟨o,h1,h2,n,j⟩,_⟩:=(show wm P w H h a (.tup (ks.map kV)) from ok a _ e);exact⟨o,its.toArray,n,h1,h2,j,by simpa using X5 r⟩
def Rl{kvs:List (List Key×V)}(ok:HOk P w H h)(e:Rd H a (.dT kvs)):kvs.length<=sizeLine/\(a==sysModules)=false /\
  ∃xs,KT H kvs xs/\h.DictOfH (tupleKind (yk P w)) a xs:=by
 obtain⟨z,y,xs,r,o,es,ep,h1,h2,M,I,B⟩:=(show wm P w H h a (.dT kvs) from Dy ok e);refine⟨z,y,xs,r,o,es,ep,h1,h2,M,I,λx j=>?_,B⟩;have all:∀{l:List (List Key×V)}{m:List (List Key×Addr×Value)},KT H l m->∀x∈m,(tupleKind (yk P w)).is h x.1 x.2.1:=by
  intro l m q
  induction q with
  |nil=>intro x j;exact nomatch j
  |@cons p q ps qs hq t ih =>
   intro x j;rcases zam.mp j with e|j
   ·subst e;exact X2 ok (by rw[<- hq.1];exact hq.2.1)
   exact ih x j
 exact all r x j
def z1n{kvs:List (List Key×V)}(ok:HOk P w H h)(e:H a=some (.dT kvs)):kvs.length<=sizeLine/\(a==sysModules)=false /\
  ∃xs,KT H kvs xs/\h.DictOfH (tupleKind (yk P w)) a xs:=Rl ok (.inl e)
def DGet(H:Hp)(a:Addr)(y:V)(r:Option V):Prop :=
 (∃kvs k,Rd H a (.dK kvs)/\y=kV k/\r=valV kvs k)\/∃kvs k b,Rd H a (.dT kvs)/\y=.ref b/\H b=some (.tup (k.map kV))/\r=valV kvs k
def DPut(H:Hp)(a:Addr)(y v:V)(H':Hp):Prop :=
 (∃kvs k,H a=some (.dK kvs)/\y=kV k/\kvs.length<sizeLine/\H'=upd H a (.dK (putK kvs k v))) \/
 ∃kvs k b,H a=some (.dT kvs)/\y=.ref b/\H b=some (.tup (k.map kV))/\kvs.length<sizeLine/\H'=upd H a (.dT (putK kvs k v))
def DGet.k{H:Hp}{a:Addr}{kvs:List (Key×V)}{k:Key}(e:H a=some (.dK kvs)):DGet H a (kV k) (valV kvs k):=.inl ⟨kvs,k,.inl e,rfl,rfl⟩
def DGet.t{H:Hp}{a b:Addr}{kvs:List (List Key×V)}{k:List Key}(e:H a=some (.dT kvs))(j:H b=some (.tup (k.map kV))):DGet H a (.ref b) (valV kvs k):=.inr ⟨kvs,k,b,.inl e,rfl,j,rfl⟩
def DPut.k{H:Hp}{a:Addr}{kvs:List (Key×V)}{k:Key}{v:V}(e:H a=some (.dK kvs))(hl:kvs.length<sizeLine):DPut H a (kV k) v (upd H a (.dK (putK kvs k v))):=.inl ⟨kvs,k,e,rfl,hl,rfl⟩
def DPut.t{H:Hp}{a b:Addr}{kvs:List (List Key×V)}{k:List Key}{v:V}(e:H a=some (.dT kvs))(j:H b=some (.tup (k.map kV)))(hl:kvs.length<sizeLine) :
  DPut H a (.ref b) v (upd H a (.dT (putK kvs k v))):=.inr ⟨kvs,k,b,e,rfl,j,hl,rfl⟩
variable{y:V}{u r:Value}{o:Option V}
def Inv.big(I:Inv X pn G H s):sysModules<s.heap.objs.size:=by
 have h:mainGlobals<s.heap.objs.size:=(I.mod.glob.keeps I.bk).lt;exact Nat.lt_trans (by decide) h
def Ox{Q:Value->Shared->Prop}(hu:A.units+1<cLine)(I:Inv X pn G H s)(g:DGet H a y (some v))(ry:RelV y u)(h:∀ B s',Inv X pn G H s'->RelV v B->Q B s') :
  wpAny (model X.prog X.w) A (getItem (.ref a) u) Q E s:=by
 rcases g with⟨kvs,k,e,Z,l⟩|⟨kvs,k,b,e,Z,eb,l⟩
 ·subst Z;obtain⟨z,hd,vs,q,dd⟩:=Vq I.hok e;obtain⟨B,M,j⟩:=RelO.some_of (v:=v) (o:=valueAt vs k) (by rw[l];exact q.val k)
  exact wpAny_getItem_of (R8 ry) dd.mapOf M (h B _ (I.tok _) j)
 subst Z;cases (show u=Value.ref b from ry);obtain⟨z,hd,xs,q,dd⟩:=Rl I.hok e;obtain⟨B,M,j⟩:=RelO.some_of (v:=v) (o:=(atKey xs k).map (·.2)) (by rw[l];exact q.val k)
 obtain⟨p,hp,N⟩:=zar.mp M;refine wpAny_getItem_heap (tupleKind_room_in1 hu) (X2 I.hok eb) dd hp ?_;rw[N];exact h B _ (I.tok _) j
def d_in{Q:Value->Shared->Prop}(hu:A.units+1<cLine)(I:Inv X pn G H s)(g:DGet H a y o)(N:RelV y u)(h:∀ s',Inv X pn G H s'->Q (.bool o.isSome) s') :
  wpAny (model X.prog X.w) A (compareOp .In u (.ref a)) Q E s:=by
 rcases g with⟨kvs,k,e,M,l⟩|⟨kvs,k,b,e,M,Z,l⟩
 ·subst M;obtain⟨z,B,vs,j,dd⟩:=Vq I.hok e;refine wpAny_in_of (R8 N) B dd.mapOf ?_;rw[<- (j.val k).isSome_eq,<- l];exact h _ (I.tok _)
 subst M;cases (show u=Value.ref b from N);obtain⟨z,B,xs,j,dd⟩:=Rl I.hok e;refine wpAny_in_heap (tupleKind_room_in1 hu) (X2 I.hok Z) B dd ?_;have q:=(j.val k).isSome_eq;rw[Option.isSome_map]at q;rw[<- q,<- l];exact h _ (I.tok _)
def D1{Q:Value->Shared->Prop}(hu:A.units+1<cLine)(I:Inv X pn G H s)(g:DGet H a y o)(N:RelV y u)(h:∀ s',Inv X pn G H s'->Q (.bool (!o.isSome)) s') :
  wpAny (model X.prog X.w) A (compareOp .NotIn u (.ref a)) Q E s:=by
 rcases g with⟨kvs,k,e,M,l⟩|⟨kvs,k,b,e,M,Z,l⟩
 ·subst M;obtain⟨z,B,vs,j,dd⟩:=Vq I.hok e;refine wpAny_notIn_of (R8 N) B dd.mapOf ?_;rw[<- (j.val k).isSome_eq,<- l];exact h _ (I.tok _)
 subst M;cases (show u=Value.ref b from N);obtain⟨z,B,xs,j,dd⟩:=Rl I.hok e;refine wpAny_notIn_heap (tupleKind_room_in1 hu) (X2 I.hok Z) B dd ?_;have q:=(j.val k).isSome_eq;rw[Option.isSome_map]at q;rw[<- q,<- l];exact h _ (I.tok _)
def Vs{h':Heap}{t':Nat}{j:HO}(I:Inv X pn G H s)(M:Mut (H a))(hs:Heap.SameBut a s.heap h')(N:∃ q,h'.get? a=some q)(B:wm X.prog X.w (upd H a j) h' a j) :
  Inv X pn G (upd H a j) {s with heap:=h',toks:=t'} :=
 I.write (x:=a) (e:=a) M (.inl rfl) (λb q Z z=>(hs.2 b Z).trans z) N B
def To{P:Program}{w:World}{H':Hp}{h':Heap}{kvs:List (Key×V)}{vs:List (Key×Value)}(z:kvs.length<=sizeLine)(q:(a==sysModules)=false)(j:KV kvs vs)(dd:h'.DictOf (yk P w) a vs) :
  wm P w H' h' a (.dK kvs):=⟨z,q,vs,j,dd⟩
def Ow{H':Hp}{Q:Unit->Shared->Prop}(hu:A.units+1<cLine)(I:Inv X pn G H s)(g:DPut H a y v H')(ry:RelV y u)(rv:RelV v r)(h:∀ s',Inv X pn G H' s'->Q () s') :
  wpAny (model X.prog X.w) A (setItem (.ref a) u r) Q E s:=by
 rcases g with⟨kvs,k,e,ey,l,eH⟩|⟨kvs,k,b,e,ey,eb,l,eH⟩
 ·subst ey eH;obtain⟨z,Z,vs,j,dd⟩:=Ez I.hok e;have N:vs.length<=sizeLine:=by rw[<- j.length];exact z
  have hl:(putK kvs k v).length<=sizeLine:=by have:=gm kvs k v;omega
  refine wpAny_setItem_pairs (hsz:=N) (R8 ry) dd λh' B hs=>h _ ?_;have he:∃q,h'.get? a=some q:=let ⟨q,_,_,M,_⟩:=B;⟨q,M⟩
  exact Vs I (by rw[e];exact True.intro) hs he (To hl Z (j.put k rv) B)
 subst ey eH;cases (show u=Value.ref b from ry);obtain⟨z,Z,xs,j,dd⟩:=z1n I.hok e;have N:xs.length<=sizeLine:=by rw[<- Paired.length j];exact z
 have hl:(putK kvs k v).length<=sizeLine:=by have:=gm kvs k v;omega
 refine wpAny_setItem_heap (hsz:=N) (tupleKind_room_in1 hu) (X2 I.hok eb) dd λh' B hs=>h _ ?_;obtain⟨q,es,ep,M,h2,h3,h4,_,h5⟩:=B;refine Vs I (by rw[e];exact True.intro) hs ⟨q,M⟩ ⟨hl,Z,_,(j.put k eb rv).keeps λc ys ec=>?_,q,es,ep,M,h2,h3,h4,h5⟩
 rw[y0 (z0v ec e (λz=>nomatch z))];exact ec
variable{kvs:List (Key×V)}
def z1o{Q:Value->Shared->Prop}(I:Inv X pn G H s)(e:Rd H a (.dK kvs))(h:∀ t s',Inv X pn G H s'->Q (.int kvs.length t) s'):wpAny (model X.prog X.w) A (call (.builtin "len") [.ref a]) Q E s:=by
 obtain⟨z,q,vs,j,dd⟩:=Vq I.hok e;refine call_len_dict q dd (by rw[<- j.length];rw[sizeLine_eq]at z;omega) ?_
 rw[<- j.length];exact h _ _ (I.tok _)
def Vr{X:Cx}{pn:List (Addr×Obj)}{G:St}{H:Hp}{s:Shared}{a:Addr}{y:V}{o:Option V}(I:Inv X pn G H s)(g:DGet H a y o):s.TypeIs (.ref a) "dict":=by
 rcases g with⟨kvs,k,e,_,_⟩|⟨kvs,k,b,e,_,_,_⟩
 ·obtain⟨_,_,vs,_,dd⟩:=Vq I.hok e;exact dd.typeIs
 obtain⟨_,_,xs,_,dd⟩:=Rl I.hok e;exact dd.typeIs
def z0m(td ty tv:TE):TS:=λD G H=>tv G H λv H1=>td G H1 λx H2=>ty G H2 λy j=>∃a H4,x=.ref a/\DPut j a y v H4/\D.nx G H4
section
variable{o i value:Expr}{pos':Pos}{td ty tv:TE}
def Gs(hu:X.A.units+1<cLine)(ho:PE X o td)(hi:PE X i ty)(hv:PE X value tv)(hs:swapsWith value (some (.Subscript o i pos')) pos.line X.env=pure false) :
  PS X (.Assign [.Subscript o i pos'] value pos) (z0m td ty tv):=by
 intro pn s G H D I h;refine wpAny_Assign_Subscript (thn (hv pn s G H _ I h) λr s1 ⟨v,H1,I1,B,Z⟩=>thn (ho pn s1 G H1 _ I1 Z) λu s2 ⟨x,H2,I2,q,N⟩=>thn (hi pn s2 G H2 _ I2 N) λiv s3 Zh=>?_) hs;obtain⟨y,H3,I3,j,a,H4,ex,g,M⟩:=Zh;subst ex;obtain rfl:u=Value.ref a:=q;exact Ow hu I3 g j B λs4 I4=>⟨G,H4,I4,M⟩
end
def Ka{P:Program}{w:World}{H:Hp}(h:Heap)(j:sysModules<h.objs.size):wm P w H (h.push {cls:=.type "dict",data:=.dict #[]}) h.objs.size (.dK []) :=
 ⟨Nat.zero_le _,beq_eq_false_iff_ne.mpr (Ne.symm (Nat.ne_of_lt j)),[],.nil,Heap.DictOf.new h⟩
def Dl:TE:=λ_ H Q=>∀p,H p=none->Q (.ref p) (upd H p (.dK []))
def Mp:PE X (.Dict [] [] pos) Dl:=λpn s G H Q I h =>
 wpAny_Dict_empty ⟨.ref s.heap.objs.size,_,I.laid (a:=s.heap.objs.size) (o:=.dK []) (t':=s.toks) (λ_ _ q=>zac _ q) (zaj _) (Ka s.heap I.big),rfl,h _ (I.hok.fresh (zaj _))⟩
structure M1(X:Cx)(o:Expr)(m:Str)(apos:Pos)(e:Expr)(cpos:Pos):Prop where
 base:attributeBase o m X.env (eval o X.env)=eval o X.env
 few:((backTo cpos (starEach [e] X.env)).all (λx=>!x.1)&&(backToKw cpos (keywordEach [] X.env)).all (λx=>x.1.isSome)
  && decide (([e]:List Expr).length+([]:List Keyword).length+(if ([]:List Keyword).isEmpty then 0 else 1)<30))=true
 line:(apos.endLine==cpos.line)=true
 trees:backTo cpos (starEach [e] X.env)=[(false,eval e X.env)]
def IsD(H:Hp)(a:Addr):Prop:=(∃kvs,Rd H a (.dK kvs))\/∃kvs,Rd H a (.dT kvs)
def Aa{X:Cx}{pn:List (Addr×Obj)}{G:St}{H:Hp}{s:Shared}{a:Addr}(I:Inv X pn G H s)(d:IsD H a) :
  s.TypeIs (.ref a) "dict"/\(∀b,Value.ref a=.ref b->∃j,s.heap.get? b=some j/\j.dict=none)/\(a==sysModules)=false:=by
 rcases d with⟨kvs,e⟩|⟨kvs,e⟩
 ·obtain⟨_,B,vs,_,dd⟩:=Vq I.hok e;refine⟨dd.typeIs,λb q=>?_,B⟩;cases q;obtain⟨j,_,_,h1,h2,_⟩:=dd;exact⟨j,h1,h2.2.1⟩
 obtain⟨_,B,xs,_,dd⟩:=Rl I.hok e;refine⟨dd.typeIs,λb q=>?_,B⟩;cases q;obtain⟨j,_,_,h1,h2,_⟩:=dd;exact⟨j,h1,h2.2.1⟩
def N4:vz X (.builtin "len") (λxs H Q=>∃a kvs,xs=[V.ref a]/\H a=some (.dK kvs)/\Q (.int kvs.length) H):=by
 intro pn s G H xs us Q I r h;obtain⟨a,kvs,rfl,B,q⟩:=h;obtain⟨u,rfl,j⟩:=uz r;cases j;exact z1o I (.inl B) λt s' M=>⟨.int kvs.length,H,M,⟨t,rfl⟩,q⟩
instance decMemKey (k:Key) (ks:List Key):Decidable (k∈ks):=decidable_of_iff (ks.any (λx=>decide (x=k))=true) (by simp)
variable{α:Type}
def ua:List Key->List α->Key->Option α
 |k'::ks,d::ds,k=>if k'=k then some d else ua ks ds k
 |_,_,_=>none
def kput(ks:List Key)(k:Key):List Key:=if k∈ks then ks else ks++[k]
def dput:List Key->List α->Key->α->List α
 |k'::ks,d'::ds,k,d=>if k'=k then d::ds else d'::dput ks ds k d
 |_,_,_,d=>[d]
theorem bz:∀(ks:List Key)(xs:List V)(k:Key),valV (ks.zip xs) k=ua ks xs k
 |[],xs,k=>by cases xs <;> rfl
 |k'::ks,[],k=>rfl
 |k'::ks,x::xs,k=>by
  rw[List.zip_cons_cons,ua];by_cases e:k'=k
  ·rw[if_pos e,jc (by exact e)]
  rw[if_neg e,jd (by exact e),bz ks xs k]
theorem k5{α:Type}:∀{ks:List Key}{xs:List α}{k:Key},ks.length=xs.length->(ua ks xs k=none ↔ k∉ks)
 |[],xs,k,h=>by cases xs <;> simp[ua] at *
 |k'::ks,[],k,h=>by simp at h
 |k'::ks,x::xs,k,h=>by
  rw[ua];by_cases e:k'=k
  ·simp[e]
  rw[if_neg e,k5 (by simpa using h)]
  simp[e,Ne.symm e]
theorem Pf:∀(ks:List Key)(xs:List V)(k:Key)(v:V),k∉ks->(ks.zip xs).map (λj=>if j.1=k then(j.1,v) else j)=ks.zip xs
 |[],xs,k,v,_=>by cases xs <;> rfl
 |k'::ks,[],k,v,_=>rfl
 |k'::ks,x::xs,k,v,h=>by
  rw[List.zip_cons_cons,List.map_cons,Pf ks xs k v λz=>h (zal _ z)];rw[if_neg (by intro z;exact h (zam.mpr (.inl z.symm)))]
theorem Vx:∀{ks:List Key}{xs:List V}{k:Key},ks.length=xs.length->(((ks.zip xs).any λj=>decide (j.1=k))=true ↔ k∈ks)
 |[],xs,k,h=>by cases xs <;> simp at *
 |k'::ks,[],k,h=>by simp at h
 |k'::ks,x::xs,k,h=>by
  rw[List.zip_cons_cons,List.any_cons,Bool.or_eq_true,Vx (by simpa using h)]
  simp[eq_comm]
theorem Ji:∀{ks:List Key}{xs:List V}{k:Key}{v:V},ks.Nodup->ks.length=xs.length->k∈ks->(ks.zip xs).map (λj=>if j.1=k then(j.1,v) else j)=ks.zip (dput ks xs k v)
 |[],_,_,_,_,_,h=>by cases h
 |k'::ks,[],_,_,_,h,_=>by simp at h
 |k'::ks,x::xs,k,v,nd,hl,h=>by
  obtain⟨n1,n2⟩:=List.nodup_cons.mp nd;rw[List.zip_cons_cons,List.map_cons,dput];by_cases e:k'=k
  ·subst e;rw[if_pos rfl,if_pos rfl,Pf ks xs k' v n1,List.zip_cons_cons]
  rw[if_neg e,if_neg e,List.zip_cons_cons,Ji n2 (by simpa using hl) ((zam.mp h).resolve_left (Ne.symm e))]
theorem jj{α:Type}:∀{ks:List Key}{xs:List α}{k:Key}{v:α},ks.length=xs.length->k∉ks->dput ks xs k v=xs++[v]
 |[],xs,k,v,h,_=>by
  cases xs with
  |nil=>rfl
  |cons=>simp at h
 |k'::ks,[],_,_,h,_=>by simp at h
 |k'::ks,x::xs,k,v,h,hn=>by
  rw[dput,if_neg (λz=>hn (zam.mpr (.inl z.symm))),jj (by simpa using h) λz=>hn (zal _ z)]
  rfl
def Mf(nd:ks.Nodup)(hl:ks.length=xs.length):putK (ks.zip xs) k v=(kput ks k).zip (dput ks xs k v):=by
 unfold putK kput;by_cases h:k∈ks
 ·rw[if_pos ((Vx hl).mpr h),if_pos h,Ji nd hl h]
 rw[if_neg (λz=>h ((Vx hl).mp z)),if_neg h,jj hl h,List.zip_append hl];rfl
def K9{α:Type}:∀{ks:List Key}{xs:List α}{k:Key}{v:α},ks.length=xs.length->(kput ks k).length=(dput ks xs k v).length:=λ{ks xs k v} h=>by
 by_cases hk:k∈ks
 ·unfold kput;rw[if_pos hk]
  induction ks generalizing xs with
  |nil=>cases hk
  |cons k' ks ih =>
   cases xs with
   |nil=>simp at h
   |cons x xs =>
    rw[dput];by_cases e:k'=k
    ·rw[if_pos e];simpa using h
    rw[if_neg e];have:=ih (xs:=xs) (by simpa using h) ((zam.mp hk).resolve_left (Ne.symm e))
    simp[this]
 rw[jj h hk];unfold kput;rw[if_neg hk];simp[h]
def R6(nd:ks.Nodup):(kput ks k).Nodup:=by
 unfold kput;split
 ·exact nd
 rename_i h;exact List.nodup_append.mpr ⟨nd,by simp,by intro a q b j e;simp at j;subst j;exact h (e▸q)⟩
theorem Yr:∀{ks:List Key}{ds:List D}{xs:List V}{k:Key},Reps K H O ds xs->(∀d,ua ks ds k=some d->∃v,ua ks xs k=some v/\Rep K H O d v)/\(ua ks ds k=none->ua ks xs k=none)
 |[],ds,xs,k,r=>⟨(λd h=>by cases ds <;> cases h),(λ_=>by cases xs <;> rfl)⟩
 |k'::ks,[],xs,k,r=>by
  cases r
  exact⟨(λd h=>by cases h),λ_=>rfl⟩
 |k'::ks,d'::ds,xs,k,r=>by
  obtain⟨v,ws,rfl,q,t⟩:=r;rw[ua,ua];by_cases e:k'=k
  ·rw[if_pos e,if_pos e];exact⟨(λd h=>by cases h;exact⟨v,rfl,q⟩),(λh=>by cases h)⟩
  rw[if_neg e,if_neg e];exact Yr t
theorem Ys:∀{ks:List Key}{ds:List D}{xs:List V}{k:Key}{d:D}{v:V},Reps K H O ds xs->Rep K H O d v->Reps K H O (dput ks ds k d) (dput ks xs k v)
 |[],ds,xs,k,d,v,r,q=>by
  have e1:dput ([]:List Key) ds k d=[d]:=by cases ds <;> rfl
  have e2:dput ([]:List Key) xs k v=[v]:=by cases xs <;> rfl
  rw[e1,e2];exact Reps.one q
 |k'::ks,[],xs,k,d,v,r,q=>by
  cases r
  exact Reps.one q
 |k'::ks,d'::ds,xs,k,d,v,r,q=>by
  obtain⟨j,ws,rfl,B,t⟩:=r;rw[dput,dput];by_cases e:k'=k
  ·rw[if_pos e,if_pos e];exact⟨v,ws,rfl,q,t⟩
  rw[if_neg e,if_neg e];exact⟨j,_,rfl,B,Ys t q⟩
def keyD:D->Option Key
 |.int i=>some (.inl i)
 |.str x=>some (.inr x)
 |_=>none
def Zj{K:W.Frag}{H:Hp}{O:List Addr}{d:D}{v:V}{k:Key}(h:View K H O d v)(e:keyD d=some k):v=kV k:=by
 cases d with
 |int i=>cases e;exact h
 |str i=>cases e;exact h
 |_=>cases e
variable{a o:Expr}{td:TD}{t:TDs}
def K7:ED Y X (.Dict [] [] pos) (λ_ U=>U (df (.dk [] []))):=λH_=>impE Mp λG H Q q=>by
 obtain⟨L,o,R,U,j,k⟩:=q;intro p B;exact k (.ref p) (df (.dk [] [])) _ (y7 B _) ⟨p,rfl,B,R.ofree B,[],zw,rfl,List.nodup_nil,rfl⟩ j
def B7(hu:X.A.units+1<cLine):OpR X (compareOp .In) (λx y H Q=>∃a kvs k,y=.ref a/\H a=some (.dK kvs)/\x=kV k/\Q (.bl (valV kvs k).isSome) H):=by
 intro pn s G H x y v u Q I B j h;obtain⟨a,kvs,k,rfl,M,rfl,q⟩:=h;cases j;exact d_in hu I (DGet.k M) B λs' N=>⟨.bl _,H,N,rfl,q⟩
def P5(hu:X.A.units+1<cLine):OpR X (compareOp .NotIn) (λx y H Q=>∃a kvs k,y=.ref a/\H a=some (.dK kvs)/\x=kV k/\Q (.bl (!(valV kvs k).isSome)) H):=by
 intro pn s G H x y v u Q I B j h;obtain⟨a,kvs,k,rfl,M,rfl,q⟩:=h;cases j;exact D1 hu I (DGet.k M) B λs' N=>⟨.bl _,H,N,rfl,q⟩
def Vc{α:Type}{ks:List Key}{xs:List α}(h:ks.length=xs.length):(ua ks xs k).isSome=decide (k∈ks):=by
 by_cases hk:k∈ks
 ·rw[decide_eq_true hk];cases e:ua ks xs k with
  |none=>exact absurd hk ((k5 h).mp e)
  |some _=>rfl
 rw[decide_eq_false hk,(k5 h).mpr hk];rfl
def dz:D->Bool
 |.non=>true
 |.bl _=>true
 |.int _=>true
 |.str _=>true
 |_=>false
def inD(x:D)(l:List D):Bool:=l.any λy=>eqD y x
def sIn(j:Bool):D->D->(EV->Prop)->Prop:=λx y U=>match y with
 |.dk ks _=>(match keyD x with|some k=>U (dv (.bl (if j then !decide (k∈ks) else decide (k∈ks))))|none=>False)
 |.lst l=>dz x=true/\l.all dz=true/\U (dv (.bl (if j then !inD x l else inD x l)))
 |.tup l=>dz x=true/\l.all dz=true/\U (dv (.bl (if j then !inD x l else inD x l)))
 |.str z=>(match x with|.str p=>U (dv (.bl (if j then !(!(Builtin.Str.occurrences z p 0 z.length 1).isEmpty) else !(Builtin.Str.occurrences z p 0 z.length 1).isEmpty)))|_=>False)
 |_=>False
def fg{K:W.Frag}{H:Hp}{O:List Addr}{d:D}{v:V}(h:View K H O d v)(f:dz d=true):dy v=true/\∀(e:D)(w:V),View K H O e w->dz e=true->eqV v w=eqD d e:=by
 cases d with
 |non=>cases (show v=_ from h);exact⟨rfl,λe w j q=>by cases e <;> first|(cases (show w=_ from j);rfl)|cases q⟩
 |bl b=>cases (show v=_ from h);exact⟨rfl,λe w j q=>by cases e <;> first|(cases (show w=_ from j);rfl)|cases q⟩
 |int b=>cases (show v=_ from h);exact⟨rfl,λe w j q=>by cases e <;> first|(cases (show w=_ from j);rfl)|cases q⟩
 |str b=>cases (show v=_ from h);exact⟨rfl,λe w j q=>by cases e <;> first|(cases (show w=_ from j);rfl)|cases q⟩
 |_=>cases f
theorem Ve{K:W.Frag}{H:Hp}{O:List Addr}{x:D}{v:V}(j:View K H O x v)(B:dz x=true):∀{l:List D}{xs:List V},Reps K H O l xs->l.all dz=true->xs.all dy=true/\inV v xs=inD x l
 |[],_,r,_=>by cases r;exact⟨rfl,rfl⟩
 |d::l,xs,r,f=>by
  obtain⟨w,ws,rfl,q,t⟩:=r;rw[List.all_cons,Bool.and_eq_true]at f;obtain⟨i1,i2⟩:=Ve j B t f.2;obtain⟨g1,g2⟩:=fg q.view f.1;refine⟨by rw[List.all_cons,g1,i1];rfl,?_⟩
  unfold inV inD at *;rw[List.any_cons,List.any_cons,i2,g2 x v j B]
def Pj{K:W.Frag}{B:Bool}:kh K (λx y H Q=>(∃a kvs k,y=.ref a/\H a=some (.dK kvs)/\x=kV k/\Q (.bl (if B then !(valV kvs k).isSome else(valV kvs k).isSome)) H)\/rIn K B x y H Q\/∃i j,x=.str i/\y=.str j/\Q (.bl (if B then !(!(Builtin.Str.occurrences j i 0 j.length 1).isEmpty) else !(Builtin.Str.occurrences j i 0 j.length 1).isEmpty)) H) (sIn B):=by
 intro H O x y vx vy U Q ho I N h k;unfold sIn at h;split at h
 ·split at h
  ·rename_i ks ds kk ek;obtain⟨a,xs,rfl,q,l,nd,r⟩:=N;refine .inl ⟨a,_,kk,rfl,q,Zj I ek,?_⟩;rw[bz,Vc (by rw[l,r.length])]
   exact k _ _ H (Same.refl H) (by exact rfl) h
  exact h.elim
 ·obtain⟨M,Z,h⟩:=h;obtain⟨a,xs,rfl,q,r⟩:=N;obtain⟨g1,g2⟩:=Ve I M r Z;refine .inr (.inl ⟨a,xs,rfl,.inl (SqL.of q),(fg I M).1,g1,?_⟩);rw[g2];exact k _ _ H (Same.refl H) (by exact rfl) h
 ·obtain⟨M,Z,h⟩:=h;obtain⟨a,xs,rfl,q,r⟩:=N;obtain⟨g1,g2⟩:=Ve I M r Z;refine .inr (.inl ⟨a,xs,rfl,.inr q.1,(fg I M).1,g1,?_⟩);rw[g2];exact k _ _ H (Same.refl H) (by exact rfl) h
 ·split at h
  ·exact .inr (.inr ⟨_,_,I,N,k _ _ H (Same.refl H) (by exact rfl) h⟩)
  exact h.elim
 exact h.elim
def z1k(hu:X.A.units+64<cLine)(B:ED Y X a ta)(q:ED Y X b tb)(j:behindInMarks .In b=false:=by with_unfolding_all rfl):ED Y X (.Compare a [.In] [b] pos) (d2 (sIn false) ta tb):=Tj ((B7 (by omega)).or (P7.or P6)) Pj B q j
def Lv(hu:X.A.units+64<cLine)(B:ED Y X a ta)(q:ED Y X b tb)(j:behindInMarks .NotIn b=false:=by with_unfolding_all rfl):ET Y X (.Compare a [.NotIn] [b] pos) (tBo (d2 (sIn true) ta tb)):=ky ((P5 (by omega)).or (Yw.or Yv)) Pj B q j
def sIxx:D->D->(EV->Prop)->Prop:=λx y U=>match x with
 | .dk ks ds=>(match keyD y with
  | some k=>(match ua ks ds k with
   |some d=>U (dv d)
   | none=>False)
  | none=>False)
 |x=>sIx1 x y U
def E6(hu:X.A.units+1<cLine):IxR X (λx y H Q=>∃a kvs k v,x=.ref a/\H a=some (.dK kvs)/\y=kV k/\valV kvs k=some v/\Q v H):=by
 intro value j pn s G H x y v u Q I N M h hs;obtain⟨a,kvs,k,w,rfl,Z,rfl,e,q⟩:=h;cases N;have g:DGet H a (kV k) (some w):=by rw[<- e];exact DGet.k Z
 exact tail_any (Vr I g) PySem.F.slot_dict_getitem.lookup (Ox hu I g M λw' s' I' B=>⟨w,H,I',B,q⟩) hs
def Mx:kh X.K (λx y H Q=>rIx X.K x y H Q\/∃a kvs k v,x=.ref a/\H a=some (.dK kvs)/\y=kV k/\valV kvs k=some v/\Q v H) sIxx:=by
 intro H O x y N M U Q ho I B h k;cases x with
 |dk ks ds =>
  obtain⟨a,xs,rfl,q,l,nd,r⟩:=I;unfold sIxx at h
  dsimp only at h
  split at h
  ·rename_i j ek;split at h
   ·rename_i d ed;obtain⟨v,ev,Z⟩:=(Yr (ks:=ks) (k:=j) r).1 d ed;exact .inr ⟨a,_,j,v,rfl,q,Zj B ek,by rw[bz];exact ev,k _ _ H (Same.refl H) (RV.val Z) h⟩
   exact h.elim
  exact h.elim
 |_=>exact .inl (Fx H O _ y N M U Q ho I B h k)
def ze(hu:X.A.units+64<cLine)(q:ED Y X a ta)(j:ED Y X b tb)(hs:Vy b:=by intro _ _;rfl):ED Y X (.Subscript a b pos) (d2 sIxx ta tb):=λH_=>impE (Cu (Jm.or (E6 (by omega))) (q H_) (j H_) hs) (L1 Mx)
def z1q(td tk j:TD):TD:=λL U=>td L λr=>match r.d with
 | .dk ks ds=>tk L λy=>j L λz=>(match z.k with|.own=>False|_=>True)/\(match keyD y.d with
  |some k=>U (dv ((ua ks ds k).getD z.d))
  | none=>False)
 |_=>False
variable{ke:Expr}{tk:TD}{pos':Pos}
def Qk(i:Nat)(tk te:TD):TDS:=λL Z=>match slot L i with
 | some ⟨.own,.dk ks ds⟩=>te L λr=>tk L λj=>(match r.k with|.own=>False|_=>True)/\ds.length<=100000/\(match keyD j.d with
  |some k=>Z.nx (setS L i (dO (.dk (kput ks k) (dput ks ds k r.d))))
  | none=>False)
 |_=>False
def Hq(i:Nat)(hu:X.A.units+64<cLine)(hk:ED Y X ke tk)(he:ED Y X e te)(hN:X.N[i]?=some x:=by rfl)(hv:Vis X.env.scope x:=by walk_at "o")(hd:D_ x:=by decide)(a2:(x==("__classdict__" : Str))=false:=by decide)(hs:swapsWith e (some (.Subscript (.Name x np) ke pos')) pos.line X.env=pure false:=by rfl):SD Y X (.Assign [.Subscript (.Name x np) ke pos'] e pos) (Qk i tk te):=λH_ =>
 impS (Gs (by omega) (uw hN hv hd a2) (hk H_) (he H_) hs) λD G H h=>by
  obtain⟨L,o,R,Z,I,k1,k2,k3,k4⟩:=h;unfold Qk at I;split at I
  ·rename_i ks ds es;obtain⟨v0,B,q0⟩:=R.slots i _ (xn es);rcases q0 with⟨k,_⟩|⟨_,a,rfl,m,c⟩
   ·cases k
   obtain⟨xs,hx,hl,nd,rx⟩:=c;refine⟨L,o,R,_,I,λv r H1 s1 rv h1=>⟨.ref a,B,L,o,R.to s1,_,h1,λv2 r2 H2 s2 a0 h2=>?_⟩⟩;obtain⟨h0,q,h2⟩:=h2;split at h2
   ·rename_i k ek;have hk:v2=kV k:=Zj a0.view ek;subst hk;have j:=s1.trans s2;have a1:=j _ _ hx;have M:=Reps.grow (Grow.same j) _ _ rx;have xl:ks.length=xs.length:=by rw[hl,rx.length]
    refine⟨a,_,rfl,DPut.k a1 ?_,?_⟩
    ·rw[List.length_zip,xl,Nat.min_self,rx.length];exact Nat.lt_of_le_of_lt q (by decide)
    rw[Mf nd xl];obtain⟨R3,g3⟩:=(R.to j).chg (d':=.dk (kput ks k) (dput ks ds k r.d)) (ho:=.dK ((kput ks k).zip (dput ks xs k v))) (xn es) B m ⟨λ_ z=>(by cases z),λ_ _ z=>(by cases z)⟩ λgr =>
     ⟨dput ks xs k v,zw,K9 hl,R6 nd,gr _ _ (Ys M ((rv.same s2).solid (vo h0)))⟩
    exact k1 _ G _ o ((Grow.same j).trans g3) R3 h2
   exact h2.elim
  exact I.elim
def XP(Y:Hp->Prop)(X:Cx)(q:DE->Addr->Prop):Prop:=∀(H_:Hp),Y H_->∀(L:DE)(o:List (Nat×Addr))(pn:List (Addr×Obj))(G:St)(H:Hp)(s:Shared)(e:Value)(s':Shared),Inv X pn G H s->REnv X.K H_ H G L o ->
 CX1 X.prog X.w X.stack H s (λj _ H'=>Same H H'/\∃C,j=.ref C/\q L C) e s'->X.xe e s'
def ug(r:Reps K H [] ds vs):REnv K H H (ZZ.start N vs) (xa N.length ds) []:=by
 have j:=r.length;refine⟨Same.refl H,(λ_ z=>absurd z (by simp)),(λ_ z=>absurd z (by simp)),(λ_ z=>absurd z (by simp)),List.nodup_nil,λi r' e=>?_,?_⟩
 ·unfold xa at e;rcases Nat.lt_or_ge i ds.length with hi|hi
  ·rw[List.getElem?_append_left (by simpa using hi),zai]at e
   have q:ds[i]?=some ds[i]:=by simp[hi]
   rw[q]at e;have M:some (dv ds[i])=some r':=Option.some.inj e;cases M;obtain⟨v,I,B⟩:=r.get q;refine⟨v,?_,.inl ⟨rfl,B⟩⟩;unfold ZZ.start;rw[List.getElem?_append_left (by rw[zLm,j];exact hi),zai,I]
   rfl
  rw[List.getElem?_append_right (by simpa using hi),List.getElem?_replicate]at e
  split at e <;> cases e
 unfold ZZ.start xa;simp[j]
def cp10(h0:0<=j)(h1:j<=1000):CPow 10 j=True:=by
 refine eq_true ⟨h0,by omega,by decide⟩
def Q0:((10:Int) ^ k=0)=False:=by
 refine eq_false ?_;have:(0:Int)<10 ^ k:=Int.pow_pos (by decide)
 omega
def fh(h:j≠0)(h1:j.natAbs<=1000000000000):FdOk i j=True:=eq_true (fdOk (m:=64) h (PySem.intBits_le_iff.mpr (by omega)))
def da{α:Type}{l:List α}{i:Int}{x:α}(h0:0<=i)(h:l[i.toNat]?=some x):atI l i=some x:=by
 have:=Yg h
 rwa [Int.toNat_of_nonneg h0]at this
def N8{α:Type}{l:List α}(h:l≠[])(x:Int):∃r∈l,atI l (x.fmod (l.length:Int))=some r:=by
 have j:(0:Int)<(l.length:Int):=by
  have:=List.length_pos_iff.mpr h;omega
 have h0:=Int.fmod_nonneg_of_pos x j;have h1:=Int.fmod_lt_of_pos x j;have hl:(x.fmod (l.length:Int)).toNat<l.length:=by omega
 exact⟨l[(x.fmod (l.length:Int)).toNat],List.getElem_mem hl,da h0 (by simp[hl])⟩
def z0q{α:Type}(a b:α)(x:Int):∃r,(r=a\/r=b)/\atI [a,b] (x.fmod 2)=some r:=by
 obtain⟨r,hr,e⟩:=N8 (l:=[a,b]) (by simp) x
 exact⟨r,by simpa using hr,e⟩
def gi(x m:Int)(h:0<m):0<=x.fmod m/\x.fmod m<m:=⟨Int.fmod_nonneg_of_pos x h,Int.fmod_lt_of_pos x h⟩
def Tu{x:Int}(h:x.natAbs<2 ^ m):intBits x<=m:=PySem.intBits_le_iff.mpr h
def wq{tb:TDS}(ds:List D)(h:∀ U:List D->Prop,U ds->ti L U)(P:Nat->DE->Prop)(h0:P 0 L)(j:∀ i d L,ds[i]?=some d->P i L->g d L λρ'=>tb ρ' {Z with nx:=P (i+1),ct:=P (i+1),bk:=Z.nx})(q:∀ L,P ds.length L->Z.nx L):sFor ti g tb L Z:=h _ ⟨P,h0,j,q⟩
def yp(ds:List D)(h:∀ N:List D->Prop,N ds->ti L N)(f:D->Option D)(hl:ds.length<=100000)(q:∀ d∈ds,g d (ρ0 n js L) λρ'=>tc ρ' λc=>(c=true->te ρ' λr=>(match r.k with|.own=>False|_=>True)/\f d=some r.d)/\(c=false->f d=none))(j:U (df (.lst (ds.filterMap f)))):Ke ti n js g tc te L U:=h _ ⟨f,hl,q,j⟩
def t6{lo:Int}(h:(rngD lo n)[i]?=some d):i<n/\d=.int (lo+(i:Int)):=by
 unfold rngD at h;rw[zai]at h;cases e:(List.range n)[i]? with
 |none=>rw[e]at h;cases h
 |some m =>
  rw[e]at h;have hi:=(zag.mp e).1;rw[List.length_range]at hi;rw[List.getElem?_range hi]at e;cases e;cases h;exact⟨hi,rfl⟩
def t5{lo:Int}:(rngD lo n).length=n:=by unfold rngD;simp
def D4{α q:Type}(f:α->q)(l:List α)(i:Int):atI (l.map f) i=(atI l i).map f:=by
 unfold atI;rw[zLm];cases ixN l.length i with
 |none=>rfl
 |some j=>simp
def Cj(a b x:Int):∃r:Int,(r=a\/r=b)/\atI [D.int a,D.int b] (x.fmod 2)=some (D.int r):=by
 obtain⟨r,hr,e⟩:=z0q (D.int a) (D.int b) x;rcases hr with rfl|rfl
 ·exact⟨a,.inl rfl,e⟩
 exact⟨b,.inr rfl,e⟩
def uq{t:TGs}(I:X.K=K0)(B:X.calm=true)(h:PGs X es t)(q:(assignEach es X.env).length=n:=by rfl)(j:(assignEach es X.env).findIdx? (·.1)=none:=by rfl):PG X (.Tuple es k pos) (gTup K0 n t):=by
 subst I;exact Co B h q j
def zipD(xs ys:List D):List D:=List.zipWith (λx y=>D.tup [x,y]) xs ys
def seqD:D->Option (List D)
 |.lst ds=>some ds
 |.tup ds=>some ds
 |.scr ns=>some (ns.map D.int)
 |_=>none
def M3:seqD (.lst ds)=some ds:=rfl
def M0:seqD (.tup ds)=some ds:=rfl
def M2:seqD (.scr ns)=some (ns.map D.int):=rfl
def SeqP(b:Bool)(K:W.Frag)(H:Hp)(O:List Addr)(l:Addr)(d:D):Prop:=match d with
 |.lst ds=>b=false/\∃xs,H l=some (.lst xs)/\l∉O/\Reps K H O ds xs
 |.tup ds=>b=true/\∃xs,SqT K H l xs/\Reps K H O ds xs
 |.scr ns=>b=false/\Scr K H l ns
 |_=>False
def SeqP.of{K:W.Frag}{H:Hp}{O:List Addr}{d:D}{v:V}{ds:List D}(h:Rep K H O d v)(e:seqD d=some ds):∃b l,v=.ref l/\SeqP b K H O l d:=by
 cases d with
 |lst es=>obtain⟨a,xs,rfl,q,n,r⟩:=h;exact⟨false,a,rfl,rfl,xs,q,n,r⟩
 |tup es=>obtain⟨a,xs,rfl,q,r⟩:=h;exact⟨true,a,rfl,rfl,xs,q.1,r⟩
 |scr ns=>obtain⟨a,rfl,q⟩:=h;exact⟨false,a,rfl,rfl,q⟩
 |_=>cases e
def SeqP.sq{b:Bool}{K:W.Frag}{H:Hp}{O:List Addr}{l:Addr}{d:D}{ds:List D}(h:SeqP b K H O l d)(e:seqD d=some ds):∃xs,SqK b K H l xs/\Reps K H O ds xs:=by
 cases d with
 |lst es=>obtain⟨rfl,xs,q,n,r⟩:=h;cases e;exact⟨xs,SqL.of q,r⟩
 |tup es=>obtain⟨rfl,xs,q,r⟩:=h;cases e;exact⟨xs,q,r⟩
 |scr ns=>obtain⟨rfl,q⟩:=h;cases e;exact⟨_,q.seq,Reps.ints ns⟩
 |_=>cases e
theorem SeqP.grow{b:Bool}{K:W.Frag}{H H':Hp}{O O':List Addr}{l:Addr}{d:D}(h:SeqP b K H O l d)(g:Grow O O' H H'):SeqP b K H' O' l d:=by
 cases d with
 |lst es=>obtain⟨rfl,xs,q,n,r⟩:=h;exact⟨rfl,xs,(g.keep _ _ q n).1,(g.keep _ _ q n).2,Reps.grow g _ _ r⟩
 |tup es=>obtain⟨rfl,xs,q,r⟩:=h;exact⟨rfl,xs,Z4 g q,Reps.grow g _ _ r⟩
 |scr ns=>obtain⟨rfl,q⟩:=h;exact⟨rfl,je g q⟩
 |_=>exact h.elim
def A6{K:W.Frag}{b1 b2:Bool}{l1 l2:Addr}{d1 d2:D}{xs ys:List D}(e1:seqD d1=some xs)(e2:seqD d2=some ys):ItD K (Itz b1 b2 K l1 l2) (zipD xs ys) (λH O=>SeqP b1 K H O l1 d1/\SeqP b2 K H O l2 d2) where
 go:=λH O i d ⟨B,p2⟩ e=>by
  obtain⟨us,M,Z⟩:=B.sq e1;obtain⟨vs,I,r2⟩:=p2.sq e2;unfold zipD at e;rw[List.getElem?_zipWith]at e;cases ex:xs[i]? with
  |none=>rw[ex]at e;cases e
  |some x =>
   cases ey:ys[i]? with
   |none=>rw[ex,ey]at e;cases e
   |some y =>
    rw[ex,ey]at e;cases e;obtain⟨u,eu,ru⟩:=Z.get ex;obtain⟨v,ev,rv⟩:=r2.get ey;refine⟨⟨us,vs,u,v,M,I,eu,ev⟩,λz H' yl=>?_⟩;obtain⟨T,u',v',hT,rfl,q,j,rfl⟩:=yl;have q:=q _ M;have j:=j _ I;rw[eu]at q;rw[ev]at j;cases q;cases j;have N:Same H (upd H T (.tup [u,v])):=λb w hb=>by rw[y0 (zg hb hT)];exact hb
    refine⟨N,T,[u,v],rfl,⟨.inl (.inl zw),zw⟩,?_⟩;exact⟨u,[v],rfl,Rep.grow (Grow.same N) _ _ ru,v,[],rfl,Rep.grow (Grow.same N) _ _ rv,rfl⟩
 stop:=λH O ⟨B,p2⟩=>by
  obtain⟨us,M,Z⟩:=B.sq e1;obtain⟨vs,I,r2⟩:=p2.sq e2;refine⟨us,vs,M,I,?_⟩;have h1:=Z.length;have h2:=r2.length;unfold zipD;rw[List.length_zipWith,h1,h2];omega
 keep:=λO O' H H' ⟨B,p2⟩ g=>⟨B.grow g,p2.grow g⟩
def iZ(t:TDs):TID:=λL U=>t L λrs=>match rs with
 |[⟨k1,d1⟩,⟨k2,d2⟩]=>(match k1 with|.own=>False|_=>True)/\(match k2 with|.own=>False|_=>True)/\match seqD d1,seqD d2 with
  |some xs,some ys=>U (zipD xs ys)
  |_,_=>False
 |_=>False
def Ot{es:List Expr}{kk:Nat}{tp:Pos}{a b:Expr}{t:TDs}{p pos:Pos}(hm:X.mg "zip" = none)(ha:EA Y X [a,b] t)(hg:Gl X "zip":=by rfl)(he:starEach [a,b] X.env=(false,eval a X.env)::starEach [b] X.env:=by rfl)(I:(backTo pos (starEach [b] X.env)).any (·.1)=false:=by rfl):EI Y X (.Tuple es kk tp) (.Call (.Name "zip" p) [a,b] [] pos) (iZ t):=λH_=>impI (Ck hg hm (ha H_) he I) λG H R q=>by
 obtain⟨L,o,RE,U,B,k⟩:=q;refine⟨L,o,RE,_,B,λvs rs H1 s1 j h1=>?_⟩;split at h1
 ·rename_i k1 d1 k2 d2;obtain⟨n1,n2,h1⟩:=h1;obtain⟨v1,w1,rfl,q1,v2,w2,rfl,q2,rfl⟩:=j;have p1:=q1.solid (vo n1);have p2:=q2.solid (vo n2);split at h1
  ·rename_i xs ys e1 e2;obtain⟨b1,l1,rfl,N⟩:=SeqP.of p1 e1;obtain⟨b2,l2,rfl,M⟩:=SeqP.of p2 e2;obtain⟨us,y1,_⟩:=N.sq e1;obtain⟨ws,Z,_⟩:=M.sq e2;exact⟨b1,b2,l1,l2,us,ws,rfl,y1,Z,k _ _ _ H1 s1 (A6 e1 e2) ⟨N,M⟩ h1⟩
  exact h1.elim
 exact h1.elim
theorem O0:∀{ns:List Int}{its:List Value},Vals (ns.map V.int) its->∃xs:List (Int×Tok),its=xs.map (λp=>Value.int p.1 p.2)/\xs.map (·.1)=ns
 |[],_,h=>by cases h;exact⟨[],rfl,rfl⟩
 |n::ns,_,h=>by
  cases h with
  |cons r t =>
   obtain⟨xs,e1,e2⟩:=O0 t;obtain⟨tk,rfl⟩:=r;exact⟨(n,tk)::xs,by rw[e1];rfl,by rw[<- e2];rfl⟩
def N1(Z:X.calm=true):vz X (.builtin "sum") (λxs H Q=>∃(p:Addr)(ns:List Int),xs=[.ref p]/\SqL X.K H p (ns.map V.int)/\Q (.int ns.sum) H):=by
 intro pn s G H xs us Q I r h;obtain⟨p,ns,rfl,M,q⟩:=h;obtain⟨u,rfl,j⟩:=uz r;cases j;obtain⟨its,B,pl,hz⟩:=I.list M;obtain⟨xs,e1,e2⟩:=O0 B;have hl:s.heap.IsList p (intItems xs.toArray):=by
  have:=pl.isList;rw[e1]at this;unfold intItems;simpa using this
 refine sum_intListG (I.ok.hd Z) hl λh' tk t' N=>?_;rw[preSum_eq,List.take_of_length_le (by simp)]
 rw[show xs.toArray.toList.map (·.1)=ns from e2];exact⟨.int ns.sum,H,I.kept (t':=tk) N,⟨t',rfl⟩,q⟩
def j9:List D->Option (List Int)
 |[]=>some []
 |.int n::r=>(j9 r).map (n::·)
 |_::_=>none
theorem T8:∀{ds:List D}{ns:List Int},j9 ds=some ns->ds=ns.map D.int
 |[],ns,h=>by cases h;rfl
 |d::r,ns,h=>by
  cases d with
  |int n =>
   cases e:j9 r with
   |none=>unfold j9 at h;rw[e]at h;cases h
   |some ms =>
    unfold j9 at h;rw[e]at h;cases h;rw[T8 e];rfl
  |_=>cases h
theorem t9:∀(ns:List Int),j9 (ns.map D.int)=some ns
 |[]=>rfl
 |n::ns=>by rw[List.map_cons,j9,t9 ns];rfl
theorem uf{K:W.Frag}{H:Hp}{O:List Addr}:∀{ns:List Int}{xs:List V},Reps K H O (ns.map D.int) xs->xs=ns.map V.int
 |[],_,h=>h
 |n::ns,xs,h=>by
  obtain⟨v,r,rfl,q,t⟩:=h;rw[uf t];cases (show v=_ from q);rfl
def sSum:FT:=λds U=>match ds with
 |[.lst l]=>match j9 l with
  |some ns=>U (dv (.int ns.sum))
  |none=>False
 |_=>False
def Vp{e:Expr}{es:List Expr}{t:TDs}{p pos:Pos}(I:X.mg "sum" = none)(ha:EA Y X (e::es) t)(Z:X.calm=true:=by rfl)(M:Gl X "sum":=by rfl)(N:S_ X e es:=by rfl)(j:B_ X es pos:=by rfl):ED Y X (.Call (.Name "sum" p) (e::es) [] pos) (dCB sSum t) :=
 u9 (N1 Z) (λH O ds vs U Q ho B h k=>by
  unfold sSum at h;split at h
  ·rename_i l;split at h
   ·rename_i ns en;obtain⟨v,ws,rfl,⟨a,xs,rfl,q,r⟩,rfl⟩:=B;have el:=T8 en;subst el;have:=uf r;subst this;exact⟨a,ns,rfl,SqL.of q,k _ _ H (Same.refl H) (by exact rfl) h⟩
   exact h.elim
  exact h.elim) I (by kernel_rfl) ha M (by decide) (by decide) N j
def frzS:DE->Nat->DE
 |[],_=>[]
 |x::r,0=>x.map (λr=>dv r.d)::r
 |x::r,i+1=>x::frzS r i
theorem Tc:∀(L:DE)(i j:Nat),(frzS L i)[j]?=if j=i then L[j]?.map (λx=>x.map λr=>dv r.d) else L[j]?
 |[],i,j=>by simp[frzS]
 |x::r,0,0=>rfl
 |x::r,0,j+1=>by simp[frzS]
 |x::r,i+1,0=>by simp[frzS]
 |x::r,i+1,j+1=>by
  have:=Tc r i j;simp only[frzS,List.getElem?_cons_succ,this];by_cases h:j=i
  ·simp[h]
  rw[if_neg h,if_neg (by omega)]
theorem Tb:∀(L:DE)(i:Nat),(frzS L i).length=L.length
 |[],_=>rfl
 |_::_,0=>rfl
 |x::r,i+1=>by simp[frzS,Tb r i]
def REnv.frz1{K:W.Frag}{H_ H:Hp}{G:St}{L:DE}{o:List (Nat×Addr)}(R:REnv K H_ H G L o)(i:Nat):∃o',REnv K H_ H G (frzS L i) o'/\∀p∈o',p∈o:=by
 refine⟨o.filter λp=>decide (p.1≠i),?_,λp I=>(List.mem_filter.mp I).1⟩;have sub:∀p∈o.filter (λp=>decide (p.1≠i)),p∈o:=λp I=>(List.mem_filter.mp I).1;have B:∀a∈(o.filter (λp=>decide (p.1≠i))).map Prod.snd,a∈o.map Prod.snd:=λa Z=>by
  obtain⟨p,I,e⟩:=zah.mp Z;exact zah.mpr ⟨p,sub p I,e⟩
 exact {
  same:=R.same
  fresh:=λp I=>R.fresh p (sub p I)
  trk:=λp I=>R.trk p (sub p I)
  mtb:=λp I=>R.mtb p (sub p I)
  nda:=List.Nodup.sublist (List.Sublist.map _ List.filter_sublist) R.nda
  len:=by rw[Tb];exact R.len
  slots:=λj r e=>by
   rw[Tc]at e;by_cases hj:j=i
   ·rw[if_pos hj]at e;cases e1:L[j]? with
    |none=>rw[e1]at e;cases e
    |some x =>
     rw[e1]at e;cases x with
     |none=>cases e
     |some r' =>
      have e':some (dv r'.d)=some r:=Option.some.inj e;cases e';obtain⟨v,N,q⟩:=R.slots j r' e1;refine⟨v,N,.inl ⟨rfl,?_⟩⟩;rcases q with⟨_,q⟩|⟨_,a,rfl,m,c⟩
      ·exact Rep.sub B _ _ q
      refine(c.sub B).rep λz=>?_;obtain⟨p,I,ep⟩:=zah.mp z;have:=Vd R.nda (sub p I) m ep;have M:=of_decide_eq_true (List.mem_filter.mp I).2;rw[this]at M;exact M hj
   rw[if_neg hj]at e;obtain⟨v,N,q⟩:=R.slots j r e;refine⟨v,N,?_⟩;rcases q with⟨k,q⟩|⟨k,a,e1,m,c⟩
   ·exact .inl ⟨k,Rep.sub B _ _ q⟩
   exact .inr ⟨k,a,e1,List.mem_filter.mpr ⟨m,decide_eq_true hj⟩,c.sub B⟩}
def sFrz(i:Nat)(t:TDS):TDS:=λL Z=>t (frzS L i) Z
def t4(i:Nat){X:Cx}{st:Stmt}{t:TDS}(h:SD Y X st t):SD Y X st (sFrz i t):=λH_=>impS (h H_) λD G H h=>by
 obtain⟨L,o,R,Z,hZ,k1,k2,N,M⟩:=h;obtain⟨o',R',sub⟩:=R.frz1 i;have g:Grow (o.map Prod.snd) (o'.map Prod.snd) H H:=⟨λb u h n=>⟨h,λz=>n (by
  obtain⟨p,hp,e⟩:=zah.mp z;exact zah.mpr ⟨p,sub p hp,e⟩)⟩,λb xs h=>h,λb ob u h=>h⟩
 exact⟨_,o',R',Z,hZ,λq j H2 I g2 R2 B=>k1 q j H2 I (g.trans g2) R2 B,λq j H2 I g2 R2 B=>k2 q j H2 I (g.trans g2) R2 B,λq j H2 I g2 R2 B=>N q j H2 I (g.trans g2) R2 B,M⟩
def Hs(i:Nat)(tk te:TD):TDS:=λL Z=>match slot L i with
 | some ⟨.own,.lst ds⟩=>te L λr=>tk L λq=>(match r.k with|.own=>False|_=>True)/\(match q.d with
  | .int k=>(match ixN ds.length k with
   |some j=>Z.nx (setS L i (dO (.lst (ds.set j r.d))))
   | none=>False)
  | _=>False)
 |_=>False
def Ho(i:Nat)(hu:X.A.units+64<cLine)(hk:ED Y X ke tk)(he:ED Y X e te)(hN:X.N[i]?=some x:=by rfl)(hv:Vis X.env.scope x:=by walk_at "o")(hd:D_ x:=by decide)(a3:(x==("__classdict__" : Str))=false:=by decide)(hs:swapsWithSole [.Subscript (.Name x np) ke pos'] e pos.line X.env=pure false:=by rfl)(hw:swappedStores [.Subscript (.Name x np) ke pos'] e X.env=pure none:=by rfl)(h1:(assignEach [.Subscript (.Name x np) ke pos'] X.env).map (·.2)=[assign (.Subscript (.Name x np) ke pos') X.env]:=by rfl)(ha:∀ v,assign (.Subscript (.Name x np) ke pos') X.env v=(do
   let I <- holding [v] (eval (.Name x np) X.env)
   let iv <- holding [v,I] (eval ke X.env)
   standAt pos'
   holding [v,I,iv] (setItem I iv v)
   release [v,I,iv] []):=by intro _;rfl):SD Y X (.Assign [.Subscript (.Name x np) ke pos'] e pos) (Hs i tk te):=λH_ =>
 impS (Ut (he H_) (Jc (uw hN hv hd a3) (hk H_) U7 ha) hs hw h1) λD G H h=>by
  obtain⟨L,o,R,Z,M,k1,k2,k3,k4⟩:=h;unfold Hs at M;split at M
  ·rename_i ds es;obtain⟨v0,B,q0⟩:=R.slots i _ (xn es);rcases q0 with⟨k,_⟩|⟨_,a,rfl,m,c⟩
   ·cases k
   obtain⟨xs,hx,rx⟩:=c;refine⟨L,o,R,_,M,λv r H1 s1 rv h1=>⟨.ref a,B,L,o,R.to s1,_,h1,λv2 r2 H2 s2 a1 h2=>?_⟩⟩;obtain⟨h0,h2⟩:=h2;have vw:=a1.view;split at h2
   ·rename_i k ek;rw[ek]at vw;cases (show v2=_ from vw);split at h2
    ·rename_i j ej;have q:=s1.trans s2;have a2:=q _ _ hx;have a0:=Reps.grow (Grow.same q) _ _ rx;refine⟨a,xs,k,j,rfl,rfl,a2,by rw[rx.length];exact ej,?_⟩
     obtain⟨R3,g3⟩:=(R.to q).chg (d':=.lst (ds.set j r.d)) (ho:=.lst (xs.set j v)) (xn es) B m ⟨λ_ z=>(by cases z),λ_ _ z=>(by cases z)⟩ λgr =>
      ⟨xs.set j v,zw,gr _ _ (a0.set j ((rv.same s2).solid (vo h0)))⟩
     exact k1 _ G _ o ((Grow.same q).trans g3) R3 h2
    exact h2.elim
   exact h2.elim
  exact M.elim
def blsD:List D->Option (List Bool)
 |[]=>some []
 |.bl b::r=>(blsD r).map (b::·)
 |_::_=>none
theorem N7:∀{ds:List D}{bs:List Bool},blsD ds=some bs->ds=bs.map D.bl
 |[],bs,h=>by cases h;rfl
 |d::r,bs,h=>by
  cases d with
  |bl n =>
   cases e:blsD r with
   |none=>unfold blsD at h;rw[e]at h;cases h
   |some ms =>
    unfold blsD at h;rw[e]at h;cases h;rw[N7 e];rfl
  |_=>cases h
theorem Yd:∀(bs:List Bool),blsD (bs.map D.bl)=some bs
 |[]=>rfl
 |b::bs=>by rw[List.map_cons,blsD,Yd bs];rfl
theorem Ui{K:W.Frag}{H:Hp}{O:List Addr}:∀{bs:List Bool}{xs:List V},Reps K H O (bs.map D.bl) xs->xs=bs.map V.bl
 |[],_,h=>h
 |n::bs,xs,h=>by
  obtain⟨v,r,rfl,q,t⟩:=h;rw[Ui t];cases (show v=_ from q);rfl
variable{es:List Expr}{p:Pos}
def M4(g:List Bool->Bool):FT:=λds U=>match ds with
 |[.lst l]=>match blsD l with
  |some bs=>U (dv (.bl (g bs)))
  |none=>False
 |_=>False
def Mz{f:List V->Bool}{g:List Bool->Bool}(I:∀ bs:List Bool,f (bs.map V.bl)=g bs):Nf X.K (rAll X.K f) (M4 g):=by
 intro H O ds vs U Q ho B h k;unfold M4 at h;split at h
 ·rename_i l;split at h
  ·rename_i bs M;obtain⟨v,ws,rfl,⟨a,xs,rfl,q,r⟩,rfl⟩:=B;have N:=N7 M;subst N;have:=Ui r;subst this;refine⟨a,_,rfl,.inl (SqL.of q),λy j=>?_,?_⟩
   ·obtain⟨b,_,rfl⟩:=zah.mp j;rfl
   rw[I];exact k _ _ H (Same.refl H) (by exact rfl) h
  exact h.elim
 exact h.elim
def Y8(q:X.mg "all" = none)(N:EA Y X (e::es) t)(M:X.calm=true:=by rfl)(B:Gl X "all":=by rfl)(I:S_ X e es:=by rfl)(j:B_ X es pos:=by rfl):ED Y X (.Call (.Name "all" p) (e::es) [] pos) (dCB (M4 λbs=>bs.all id) t) :=
 u9 (W4 M) (Mz λbs=>by
  induction bs with
  |nil=>rfl
  | cons b bs ih=>rw[List.map_cons,List.all_cons,List.all_cons,ih];cases b <;> rfl) q (by kernel_rfl) N B (by decide) (by decide) I j
def cat_tup0{t b:Addr}{ws:List Value}{Q:Value->Shared->Prop}(ht:IsTup s.heap t #[])(hb:IsTup s.heap b ws.toArray)(h1:Q (.ref b) s):wpAny (model prog w) A (binaryOp .Add (.ref t) (.ref b)) Q E s:=by
 obtain⟨⟨a2,dd,a0,sl⟩,ho,hc,n,Z⟩:=id ht;obtain⟨⟨a1,M,N,I⟩,j,B,n2,q⟩:=id hb;simp only at hc Z B q;subst hc Z B q;exact concat_meets ⟨_,ho,rfl⟩ ⟨_,j,rfl⟩ noFill_tuple_add seq_tuple_add PySem.F.slot_tuple_add PySem.F.entry_tuple_add (PySem.F.args_tuple_add_2 _ _)
   (tuple_addW0 t b #[] ws.toArray n n2 dd M sl I (by simp)) ⟨ho,j,h1⟩
def C2(K:W.Frag):R2:=λx y H Q=>∃a b ys,x=.ref a/\y=.ref b/\SqT K H a []/\SqT K H b ys/\Q (.ref b) H
def Mr:OpR X (binaryOp .Add) (C2 X.K):=by
 intro pn s G H x y v u Q I M B h;obtain⟨a,b,ys,rfl,rfl,ha,hb,q⟩:=h;cases M;cases B;obtain⟨its,N,Z,_⟩:=I.tuple ha;obtain⟨j,r2,p2,_⟩:=I.tuple hb;cases N;exact ZZ.cat_tup0 Z p2 ⟨.ref b,H,I,rfl,q⟩
def RV.anew{K:W.Frag}{H0 H:Hp}{O:List Addr}{r:EV}{v:V}(h:RV K H0 H O r v)(p:rh r):RepN K H (λa=>a∉O/\H0 a=none) r.d v:=by
 obtain⟨k,d⟩:=r;cases k with
 |val=>exact Rep.toN _ _ p h
 |own=>exact p.elim
 |new=>exact h
 |fre =>
  obtain⟨a,rfl,m,n,c⟩:=h;cases d with
  |lst ds=>obtain⟨xs,q,r⟩:=c;exact⟨a,xs,rfl,q,⟨n,m⟩,Reps.toN _ _ p r⟩
  |dk ks ds=>obtain⟨xs,q,l,nd,r⟩:=c;exact⟨a,xs,rfl,q,⟨n,m⟩,l,nd,Reps.toN _ _ p r⟩
  |_=>exact c.elim
def Ay(ta tb:TD):TD:=λL U=>ta L λx=>tb L λy=>match x.d,y.d with
 |.tup p,.tup q=>rh x/\rh y/\p.length+q.length<=sizeLine/\U ⟨.new,.tup (p++q)⟩
 |_,_=>False
def Ov(ha:ED Y X a ta)(hb:ED Y X b tb):ED Y X (.BinOp a .Add b pos) (Ay ta tb):=λH_=>impE (Cq (P8.or Mr) (ha H_) (hb H_)) λG H Q q=>by
 obtain⟨L,o,R,U,a0,k⟩:=q;refine⟨L,o,R,_,a0,λv1 j H1 s1 M h1=>⟨L,o,R.to s1,_,h1,λv2 r2 H2 s2 I h2=>?_⟩⟩;have n1:=λp=>(M.same s2).anew p;have n2:=λp=>(I.start s1).anew p;obtain⟨k1,d1⟩:=j;obtain⟨k2,d2⟩:=r2;cases d1 with
 |tup p =>
  cases d2 with
  |tup q =>
   obtain⟨p1,p2,hl,B⟩:=h2;obtain⟨a1,xs,rfl,Z,j⟩:=n1 p1;obtain⟨a2,ys,rfl,N,r2⟩:=n2 p2;have l1:=j.length;have l2:=r2.length;cases p with
   |nil =>
    have e:xs=[]:=List.eq_nil_of_length_eq_zero l1;subst e;exact .inr ⟨a1,a2,ys,rfl,rfl,Z.1,N.1,k _ ⟨.new,.tup q⟩ H2 (s1.trans s2) ⟨a2,ys,rfl,N,r2⟩ B⟩
   |cons d p =>
    refine .inl ⟨a1,a2,xs,ys,rfl,rfl,Z.1,N.1,(λz=>by subst z;cases l1),by rw[l1,l2];exact hl,λz=>?_,λz p' hp=>?_⟩
    ·subst z;have e:q=[]:=List.eq_nil_of_length_eq_zero l2.symm;subst e;rw[List.append_nil]at B;exact k _ ⟨.new,.tup (d::p)⟩ H2 (s1.trans s2) ⟨a1,xs,rfl,Z,j⟩ B
    exact k _ ⟨.new,.tup (d::p++q)⟩ _ ((s1.trans s2).trans (y7 hp _)) ⟨p',xs++ys,rfl,⟨SqT.of zw,zw⟩,xq.to (y7 hp _) (λ_ z=>z) _ _ (j.append r2)⟩ B
  |_=>exact h2.elim
 |_=>exact h2.elim
def popD(ds:List D):Option (List D×D):=match ds.getLast? with
 |some d=>some (ds.dropLast,d)
 |none=>none
def Uv(ds:List D)(d:D):popD (ds++[d])=some (ds,d):=by
 unfold popD;simp
def Gu(h:popD ds=some (ds',d)):ds=ds'++[d]:=by
 unfold popD at h;split at h
 ·rename_i x e;cases h;obtain⟨y,j⟩:=List.getLast?_eq_some_iff.mp e;rw[j];simp
 cases h
def Ma{K:W.Frag}{H:Hp}{O:List Addr}{ds j:List D}{d:D}{xs:List V}(r:Reps K H O ds xs)(h:popD ds=some (j,d)):∃y,xs[xs.length-1]?=some y/\Rep K H O d y/\Reps K H O j xs.dropLast:=by
 have e:=Gu h;subst e;have l:=r.length;rw[zLa]at l;obtain⟨y,B,q⟩:=r.get (i:=j.length) (d:=d) (by simp)
 refine⟨y,by rw[l];simpa using B,q,?_⟩
 have:=r.dropLast;simpa using this
def sPop(i j:Nat):TDS:=λL Z=>match slot L i with
 |some ⟨.own,.lst ds⟩=>match popD ds with
  |some (ds',d)=>Z.nx (setS (setS L i (dO (.lst ds'))) j (dv d))
  |none=>False
 |_=>False
def J5(i j:Nat){x y:Str}(hN:X.N.Nodup)(hi:X.N[i]?=some x:=by rfl)(hj:X.N[j]?=some y:=by rfl)(hy:Loc X.env.scope y:=by first|exact Or.inl rfl|exact Or.inr rfl)(hv:Vis X.env.scope x:=by walk_at "o")(hd:D_ x:=by decide)(M:(x==("__classdict__" : Str))=false:=by decide)(hp:∀ {ta:TE},X.N.Nodup->PE X (.Name x np) ta->PS X (.Assign [.Name y pos'] (.Call (.Attribute (.Name x np) "pop" apos) [] [] cpos) pos) (tAsg (tBM0 X.K "list" rPop ta) (rq j)):=by
   intro ta hN h1;exact jz hN rfl (by walk_at "o") (Jf PySem.F.plainAttrs_list PySem.F.slot_list_pop PySem.F.type_list_pop Jh h1)) :
  SD Y X (.Assign [.Name y pos'] (.Call (.Attribute (.Name x np) "pop" apos) [] [] cpos) pos) (sPop i j):=λH_=>impS (hp hN (uw hi hv hd M)) λD G H h=>by
 obtain⟨L,o,R,Z,q,k1,k2,k3,k4⟩:=h;unfold sPop at q;split at q
 ·rename_i ds es;obtain⟨v0,B,q0⟩:=R.slots i _ (xn es);rcases q0 with⟨k,_⟩|⟨_,a,rfl,m,c⟩
  ·cases k
  obtain⟨xs,hx,rx⟩:=c;split at q
  ·rename_i a0 d ep;obtain⟨yv,ey,I,rd⟩:=Ma rx ep;obtain⟨R2,g2⟩:=R.chg (d':=.lst a0) (ho:=.lst xs.dropLast) (xn es) B m ⟨λ_ z=>(by cases z),λ_ _ z=>(by cases z)⟩ λgr=>⟨xs.dropLast,zw,gr _ _ rd⟩
   refine⟨.ref a,B,.inl ⟨rfl,xs,SqL.of hx⟩,a,xs,yv,rfl,rfl,hx,ey,?_⟩;exact k1 _ _ _ o g2 (R2.setV j (Rep.grow g2 _ _ I)) q
  exact q.elim
 exact q.elim
def sExt(i:Nat)(t:TDs):TDS:=λL Z=>match slot L i with
 |some ⟨.own,.lst ds⟩=>t L λrs=>jq rs=true/\Nat.ble rs.length 1000=true/\ds.length<=100000/\Z.nx (setS L i (dO (.lst (ds++rs.map EV.d))))
 |_=>False
def Qf(i:Nat)(h:EA Y X es t)(hi:X.N[i]?=some x:=by rfl)(hv:Vis X.env.scope x:=by walk_at "o")(hd:D_ x:=by decide)(a4:(x==("__classdict__" : Str))=false:=by decide)(hp:∀ {ta:TE} {tc:TA},PE X (.Name x np) ta->PA X es tc->PS X (.Expr (.Call (.Attribute (.Name x np) "extend" apos) [.List es lpos] [] cpos) pos)
    (Wl (tBM X.K "list" Za ta (Sd (tLst tc) tNil))):=by
   intro ta tc h1 h3;exact t8 (Sn PySem.F.plainAttrs_list PySem.F.slot_list_extend PySem.F.type_list_extend gf h1 (w5 (Jd h3) u4))) :
  SD Y X (.Expr (.Call (.Attribute (.Name x np) "extend" apos) [.List es lpos] [] cpos) pos) (sExt i t):=λH_=>impS (hp (uw hi hv hd a4) (h H_)) λD G H h=>by
 obtain⟨L,o,R,Z,hZ,k1,k2,k3,k4⟩:=h;unfold sExt at hZ;split at hZ
 ·rename_i ds a0;obtain⟨v0,M,q0⟩:=R.slots i _ (xn a0);rcases q0 with⟨k,_⟩|⟨_,a,rfl,m,c⟩
  ·cases k
  obtain⟨xs,hx,rx⟩:=c;refine⟨.ref a,M,.inl ⟨rfl,xs,SqL.of hx⟩,?_⟩;refine⟨L,o,R,_,hZ,λvs rs H1 s1 q h1=>?_⟩;obtain⟨a2,I,hl,hn⟩:=h1;have l1:=q.length;have B:=Nat.le_of_ble_eq_true I;refine⟨by rw[l1];exact V0 I,λp a3=>?_⟩
  have s2:=y7 a3 (.lst vs);have j:=s1.trans s2;have R1:=R.to j;have a1:=Reps.grow (Grow.same j) _ _ rx;refine⟨a,p,xs,vs,rfl,rfl,j _ _ hx,zw,?_,?_⟩
  ·rw[rx.length,l1];exact zak (Nat.add_le_add hl B) (by decide)
  obtain⟨R2,g2⟩:=R1.chg (d':=.lst (ds++rs.map EV.d)) (ho:=.lst (xs++vs)) (xn a0) M m ⟨λ_ z=>(by cases z),λ_ _ z=>(by cases z)⟩ λgr=>⟨xs++vs,zw,gr _ _ (a1.append (Reps.grow (Grow.same s2) _ _ (q.reps (tu a2))))⟩
  exact k1 _ G _ o ((Grow.same j).trans g2) R2 hn
 exact hZ.elim
def g1(g:D->(EV->Prop)->Prop):FT:=λds U=>match ds with
 |[d]=>g d U
 |_=>False
def g2(g:D->D->(EV->Prop)->Prop):FT:=λds U=>match ds with
 |[d,e]=>g d e U
 |_=>False
def g3(g:D->D->D->(EV->Prop)->Prop):FT:=λds U=>match ds with
 |[d,e,f]=>g d e f U
 |_=>False
def z1j(h:g1 g ds U):∃d,ds=[d]/\g d U:=by
 unfold g1 at h;split at h
 ·exact⟨_,rfl,h⟩
 exact h.elim
def z1i(h:g2 g ds U):∃d e,ds=[d,e]/\g d e U:=by
 unfold g2 at h;split at h
 ·exact⟨_,_,rfl,h⟩
 exact h.elim
def Nx:FT:=λds U=>match ds with
 |[.scr ns,.int k]=>0<=k/\U (dv (.int (ns.getD k.toNat 0)))
 |_=>False
def wv{t u:TDS}(J:DE->Prop)(h1:t L {Z with nx:=J})(h2:∀ ρ2,J ρ2->u ρ2 Z):sSeq (sCut t) u L Z:=⟨J,h1,h2⟩
def z_g{t u:TDS}{L:DE}{Z:DZ}(E:DE)(h1:t L {Z with nx:=λL=>L=E})(h2:u E Z):sSeq (sCut t) u L Z:=⟨λL=>L=E,h1,λ_ e=>by subst e;exact h2⟩
def D9(e:slot L i=some (dO (.lst ds)))(h:U (!ds.isEmpty)):tTru (Rm i) L U:=by
 unfold tTru Rm;rw[e];exact h
def Ql(e:slot L i=some (dO (.lst ds)))(h:te L λr=>(match r.k with|.own=>False|_=>True)/\ds.length<=100000/\Z.nx (setS L i (dO (.lst (ds++[r.d]))))):sApp i te L Z:=by
 unfold sApp;rw[e];exact h
section
def Ds:FT:=λds U=>match ds with
 |[.dk ks l]=>U (df (.dk ks l))
 |_=>False
def sLenD:FT:=λds U=>match ds with
 |[.dk ks l]=>U (dv (.int ks.length))
 |_=>False
def Eu(I:X.mg "len" = none)(Z:EA Y X (e::es) t)(M:Gl X "len":=by rfl)(N:S_ X e es:=by rfl)(j:B_ X es pos:=by rfl):ED Y X (.Call (.Name "len" p) (e::es) [] pos) (dCB sLenD t) :=
 u9 N4 (λH O ds vs U Q ho B h k=>by
  unfold sLenD at h;split at h
  ·obtain⟨v,ws,rfl,⟨a,xs,rfl,q,l,nd,r⟩,rfl⟩:=B;refine⟨a,_,rfl,q,?_⟩;rw[List.length_zip,r.length,<- l,Nat.min_self];exact k _ _ H (Same.refl H) (by exact rfl) h
  exact h.elim) I PySem.boot_len Z M (by decide) (by decide) N j
end
def sw:entryFor table "dict.update.loop" = some Builtin.«dict.update.loop»:=entryFor_of_tree (by kernel_rfl)
def wz:plainId "dict.update.loop" = true:=by decide +kernel
def di:typeLookup (.type "list") "keys" = pure none:=by rw[typeLookup_type,builtinLookup_eq_fast];kernel_rfl
def Pp{a:Addr}{xs:Array Value}{Q:Option Value->Shared->Prop}(hl:PlainL s.heap a xs)(hA:A.handled=none)(h:∀ h' tk,(∀ b o,s.heap.get? b=some o->h'.get? b=some o)->Q none {s with heap:=h',toks:=tk}):wpAny (model prog w) A (getAttr? (.ref a) "keys") Q E s:=by
 obtain⟨o,k,I,N,M,j⟩:=hl;obtain⟨c,a0,a1,Z⟩:=o;simp only at N j M;subst N j M;obtain⟨hp,g,d,tk,os⟩:=s;have hT:∀q,(⟨hp,g,d,q,os⟩:Shared).TypeIs (.ref a) "list":=λ_=>⟨_,I,rfl⟩;have f1:=sub_AttributeError;have f3:=F.slot_list_getattribute.lookup;have f4:=F.slot_list_getattribute.bind (.ref a);have f5:=am_list_getattr_none;unfold getAttr? getAttrBy? getAttrBy
 repeat (any_goals (first|assumption|exact hT _|((with_reducible show wpAny _ _ (call (Value.builtin "list.__getattribute__") _ _) _ _ _);refine call_meets F.slot_list_getattribute (hT _) am_entry_list_getattribute (F.args_list_getattribute_2 _ _) (meets_getattribute_miss_list a xs k Z "keys" _ di (by decide +kernel) (by size_fits)) ⟨I,hA,λh' q e B=>?_⟩)|wp_step))
 obtain⟨t',u',he⟩:=B.there;show wpAny _ _ (getattributeRaised _ _ _ _ _ _ _) _ _ _;unfold getattributeRaised
 repeat (any_goals (first|assumption|wp_step))
 exact h _ _ B.keeps
section
variable{K:Type}[DecidableEq K]{knd:KeyKind prog w K}{R:Result->Shared->Prop}
def Tz(knd:KeyKind prog w K)(h:Heap)(v:Value)(j:K×Value):Prop:=∃b o n key,v=.ref b/\h.get? b=some o/\o.cls=.type "tuple"/\o.data=.seq #[key,j.2] n/\knd.is j.1 key=true
def cw{kvs:List (K×Value)}{k:K}{x:Value}(h:k∉kvs.map (·.1)):stored kvs k x=kvs++[(k,x)]:=by
 unfold stored;rw[if_neg];intro z;rw[List.any_eq_true]at z;obtain⟨p,j,e⟩:=z;exact h (zah.mpr ⟨p,j,by simpa using e⟩)
def Nl(hh:A.handled=none)(d it l:Addr)(Z:d≠it)(b4:d≠l)(a3:l≠it)(its:List Value)(more:List (K×Value))(b7:its.length=more.length)(b0:(more.map (·.1)).Nodup)(hsz:more.length<=sizeLine) :
  ∀(k i:Nat)(s:Shared),its.length=i+k->s.heap.IsListIter it l i->s.heap.IsList l its.toArray->s.heap.DictOf knd d (more.take i) ->
  (∀(j:Nat) v kx,its[j]?=some v->more[j]?=some kx->Tz knd s.heap v kx) ->
  (∀h' tk,h'.DictOf knd d more->(∀b o,b≠d->b≠it->s.heap.get? b=some o->h'.get? b=some o)->R (.ok (.ret .none)) {s with heap:=h',toks:=tk}) ->
  codeAny (model prog w) A (.builtin "dict.update.loop" ⟨[.ref d,.ref it,rawInt (i:Int),.none],[]⟩) R s:=by
 intro k
 induction k with
 |zero =>
  intro i s hk hi hl hd hp hR;refine codeAny_builtin sw ?_;rw[Around.under_plainId wz _];have W:=Walks.list (prog:=prog) (w:=w) (A:=A.in1) hh it l a3 its.toArray;show wpAny _ A.in1 (pyNext (.ref it) >>= _) _ _ s;refine zaa (W.done s _ _ ⟨by simpa [hk] using hi,hl⟩ λh' tk I=>?_)
  show wpAny _ A.in1 (Builtin.Dict.addKeywords d [] >>= _) _ _ _;refine zaa (zab (zab ?_));refine hR h' tk ?_ λb o _ hb e=>I b o (by simpa using hb) e
  rw[List.take_of_length_le (by omega)]at hd
  obtain⟨o,es,ep,ho,r⟩:=hd;exact⟨o,es,ep,I d o (by simpa using Z) ho,r⟩
 |succ k ih =>
  intro i s hk hi hl hd hp hR;refine codeAny_builtin sw ?_;rw[Around.under_plainId wz _];have W:=Walks.list (prog:=prog) (w:=w) (A:=A.in1) hh it l a3 its.toArray;show wpAny _ A.in1 (pyNext (.ref it) >>= _) _ _ s;refine zaa (W.item i s _ _ (by simp;omega) ⟨hi,hl⟩ λv h' tk hv N I=>?_)
  have a9:its[i]?=some v:=by simpa using hv
  have b3:i<more.length:=by omega
  obtain⟨kx,a0⟩:∃kx,more[i]?=some kx:=⟨more[i],zaf b3⟩;have a6:h'.DictOf knd d (more.take i):=by
   obtain⟨o,es,ep,ho,r⟩:=hd;exact⟨o,es,ep,I d o (by simpa using Z) ho,r⟩
  have a1:∀(j:Nat) v kx,its[j]?=some v->more[j]?=some kx->Tz knd h' v kx:=λj v kx h1 h2=>by
   obtain⟨b,o,n,B,e1,e2,e3,e4,e5⟩:=hp j v kx h1 h2;refine⟨b,o,n,B,e1,I b o ?_ e2,e3,e4,e5⟩;intro z;have:b=it:=by simpa using z
   subst this;obtain⟨o',q,a7,_⟩:=hi;rw[q]at e2;cases e2;rw[a7]at e3;exact absurd e3 (by decide)
  obtain⟨b,o,n,B,rfl,hb,b6,b5,a4⟩:=a1 i v kx a9 a0;have hT:({s with heap:=h',toks:=tk}:Shared).TypeIs (.ref b) "tuple":=⟨o,hb,b6⟩;refine zaa (wpAny_holding ?_);refine zaa (wpAny_tryCatch ?_);show wpAny _ A.in1 (typeOf (.ref b) >>= _) _ _ _;refine zaa (wpAny_typeOf hT ?_);show wpAny _ A.in1 (seqItems? (.ref b) >>= _) _ _ _;refine zaa (wpAny_seqItems hb b5 (zab ?_));show wpAny _ A.in1 (holding [B,kx.2] (dictSet d B kx.2)) _ _ _;have a2:kx.1∉(more.take i).map (·.1):=by
   have e:more.take (i+1)=more.take i++[kx]:=by rw[List.take_succ,a0];rfl
   have h4:((more.take (i+1)).map (·.1)).Nodup:=b0.sublist ((List.take_sublist _ _).map _);rw[e,zMa,List.nodup_append]at h4;intro z;exact h4.2.2 _ z kx.1 (by simp) rfl
  refine wpAny_holding (wpAny_dictSet_pairs (hsz:=by rw[List.length_take];omega) a4 a6 λh2 dd hs=>?_)
  rw[cw a2,show more.take i++[(kx.1,kx.2)]=more.take (i+1) by rw[List.take_succ,a0];rfl]at dd
  refine zab ⟨plainId_quiet wz _,?_⟩;have keep:∀b o,b≠d->h'.get? b=some o->h2.get? b=some o:=λb o hb e=>(hs.2 b hb).trans e;refine ih (i+1) _ (by omega) ?_ ?_ dd ?_ λh3 a8 d3 k3=>?_
  ·obtain⟨o',q,r'⟩:=N.1;exact⟨o',keep _ _ (Ne.symm Z) q,r'⟩
  ·obtain⟨o',q,r'⟩:=N.2;exact⟨o',keep _ _ (Ne.symm b4) q,r'⟩
  ·intro j v kx h1 M;obtain⟨b,o,n,B,e1,e2,e3,e4,e5⟩:=a1 j v kx h1 M;refine⟨b,o,n,B,e1,keep b o ?_ e2,e3,e4,e5⟩;intro z;subst z;obtain⟨o',es,ep,q,a7,a5,_⟩:=a6;rw[q]at e2;cases e2;rw[a5]at e4;cases e4
  exact hR h3 a8 d3 λb o h1 M e=>k3 b o h1 M (keep b o h1 (I b o (by simpa using M) e))
def d7{E:Value->Shared->Prop}{l:Addr}{its:List Value}{more:List (K×Value)}{Q:Value->Shared->Prop}(hh:A.handled=none)(hl:PlainL s.heap l its.toArray)(a0:its.length=more.length)(a3:(more.map (·.1)).Nodup)(hsz:more.length<=sizeLine)(hp:∀ (j:Nat) v kx,its[j]?=some v->more[j]?=some kx->Tz knd s.heap v kx)(h:∀ h' tk,h'.DictOf knd s.heap.objs.size more->(∀ b o,s.heap.get? b=some o->h'.get? b=some o)->Q (.ref s.heap.objs.size) {s with heap:=h',toks:=tk}) :
  wpAny (model prog w) A (call (.type "dict") [.ref l]) Q E s:=by
 refine callType_codes (Q₁:=λN B=>N=.ref s.heap.objs.size/\B={s with heap:=s.heap.push {cls:=.type "dict",data:=.dict #[]}}) F.kt_called_dict (F.kt_typeCall_dict_1 _) F.entry_dict_init (kt_code_dict_new _ ⟨rfl,rfl⟩) ?_;rintro N B ⟨rfl,rfl⟩;have q:(s.heap.push {cls:=.type "dict",data:=.dict #[]}).DictOf knd s.heap.objs.size []:=Heap.DictOf.new s.heap;have k1:∀b o,s.heap.get? b=some o->(s.heap.push {cls:=.type "dict",data:=.dict #[]}).get? b=some o:=λb o e=>zac _ e;have hl1:=hl.keeps k1;have a5:l<s.heap.objs.size:=by obtain⟨o,n,e,_⟩:=hl;exact zae e
 refine⟨q.typeIs,F.args_dict_init_2 _ _,?_⟩;unfold Builtin.«dict.__init__»;refine zaa ?_;unfold Builtin.Dict.selfAndRest;refine zaa (wpAny_notOrdered_dict q.typeIs ?_);show wpAny _ _ (pure (s.heap.objs.size,[Value.ref l])) _ _ _;refine zab ?_;show wpAny _ _ (Builtin.Dict.updateFrom "dict.__init__" s.heap.objs.size (.ref l) [] .none) _ _ _;unfold Builtin.Dict.updateFrom;refine zaa (wpAny_typeOf hl1.isList.typeIs ?_);rw[if_pos (by decide)]
 refine zaa (Pp hl1 hh λh2 a7 Z=>?_);rw[if_pos (by rfl)]
 refine zaa (wpAny_rule ?_);have M:=(hl1.keeps Z).isList;have a4:l<h2.objs.size:=by obtain⟨o,e,_⟩:=M;exact zae e
 refine zaa (wpAny_pyIter_list M ?_);have I:s.heap.objs.size<h2.objs.size:=by
  obtain⟨o,es,ep,ho,_⟩:=q;exact zae (Z _ _ ho)
 refine zab ⟨plainId_quiet wz _,?_⟩;refine Nl (knd:=knd) (A:=A.in1) hh s.heap.objs.size h2.objs.size l (Nat.ne_of_lt I) (Nat.ne_of_gt a5) (Nat.ne_of_lt a4) its more a0 a3 hsz its.length 0 _ (by omega) ?_ ?_ ?_ ?_ λh3 a1 d3 k3=>?_
 ·exact⟨_,zad _ rfl,rfl,rfl⟩
 ·exact M.push _
 ·obtain⟨o,es,ep,ho,r⟩:=q;exact⟨o,es,ep,zac _ (Z _ _ ho),r⟩
 ·intro j v kx h1 a6;obtain⟨b,o,n,a2,e1,e2,e3,e4,e5⟩:=hp j v kx h1 a6;exact⟨b,o,n,a2,e1,zac _ (Z _ _ (k1 _ _ e2)),e3,e4,e5⟩
 refine⟨rfl,h h3 a1 d3 λb o e=>k3 b o ?_ ?_ (zac _ (Z _ _ (k1 _ _ e)))⟩
 ·exact Nat.ne_of_lt (zae e)
 exact Nat.ne_of_lt (Nat.lt_trans (zae e) I)
end
def Nb(K:W.Frag)(H:Hp):List V->List (Key×V)->Prop:=Paired λp j=>∃b,p=V.ref b/\SqT K H b [kV j.1,j.2]
def Ro(hc:X.calm=true):vz X (.type "dict") (λxs H Q=>∃a ps kvs,xs=[.ref a]/\SqL X.K H a ps/\Nb X.K H ps kvs/\(kvs.map (·.1)).Nodup/\∀p,H p=none->Q (.ref p) (upd H p (.dK kvs))):=by
 intro pn s G H xs us Q I r h;obtain⟨a,ps,kvs,rfl,ha,hp,hn,q⟩:=h;obtain⟨u,rfl,ru⟩:=uz r;cases ru;obtain⟨its,rv,pl,hz⟩:=I.list ha;have B:ps.length=kvs.length:=hp.length;have a2:=rv.length;have ex:∃more:List (Key×Value),KV kvs more/\∀(j:Nat) v kx,its[j]?=some v->more[j]?=some kx->Tz (yk X.prog X.w) s.heap v kx:=by
  clear hn q hz pl B a2 ha
  induction rv generalizing kvs with
  |nil=>cases hp;exact⟨[],.nil,λj v kx e=>by simp at e⟩
  |cons r1 r2 ih =>
   cases hp with
   |cons h t =>
    obtain⟨more,N,Z⟩:=ih _ t;obtain⟨b,rfl,sq⟩:=h;cases r1;obtain⟨ts,rt,⟨o,e1,e2,n,e3⟩,_⟩:=I.tuple sq;cases rt with
    |cons t1 rt =>
     cases rt with
     |cons t2 rt =>
      cases rt
      rename_i kk a0 x;refine⟨(_,x)::more,.cons ⟨rfl,t2⟩ N,λj v kx h1 h2=>?_⟩;cases j with
      |zero =>
       simp at h1 h2;subst h1 h2;exact⟨b,o,n,a0,rfl,e1,e2,e3,R8 t1⟩
      |succ j=>exact Z j v kx (by simpa using h1) (by simpa using h2)
 obtain⟨more,N,Z⟩:=ex;have a1:kvs.length=more.length:=N.length;have M:more.map (·.1)=kvs.map (·.1):=by
  clear hn q hp B Z a1
  induction N with
  |nil=>rfl
  |cons h t ih=>rw[List.map_cons,List.map_cons,ih,h.1]
 have hb:=I.big;refine d7 (knd:=yk X.prog X.w) (I.ok.hd hc) pl (by omega) (by rw[M];exact hn) (by omega) Z λh' tk hd keep=>?_
 refine⟨.ref s.heap.objs.size,_,I.laid (t':=tk) (a:=s.heap.objs.size) (o:=.dK kvs) keep (zaj _) ?_,rfl,q _ (I.hok.fresh (zaj _))⟩;exact To (by omega) (by simpa using(Nat.ne_of_gt hb)) N hd
def kD:Key->D
 |.inl i=>.int i
 |.inr x=>.str x
def P4(ks:List Key)(ds:List D):List D:=(ks.zip ds).map λq=>.tup [kD q.1,q.2]
def sDictP:FT:=λxs U=>match xs with
 |[.lst l]=>∃ks ds,l=P4 ks ds/\ks.length=ds.length/\ks.Nodup/\U (df (.dk ks ds))
 |_=>False
def Dx{K:W.Frag}{H:Hp}{O:List Addr}{k:Key}{v:V}(h:Rep K H O (kD k) v):v=kV k:=by
 cases k with
 |inl i=>exact h
 |inr x=>exact h
theorem cy{K:W.Frag}{H:Hp}{O:List Addr}:∀(ks:List Key)(ds:List D)(ps:List V),ks.length=ds.length->Reps K H O (P4 ks ds) ps->∃xs,Nb K H ps (ks.zip xs)/\Reps K H O ds xs
 |[],[],ps,_,h=>by
  cases (show ps=[] from h)
  exact⟨[],.nil,rfl⟩
 |[],_::_,_,h,_=>by cases h
 |_::_,[],_,h,_=>by cases h
 |k::ks,d::ds,ps,hl,h=>by
  obtain⟨v,ws,rfl,⟨a,q,rfl,sq,r⟩,hr⟩:=h;obtain⟨v1,w1,rfl,j,v2,B,rfl,r2,rfl⟩:=r;cases Dx j;obtain⟨xs,h1,h2⟩:=cy ks ds ws (by simpa using hl) hr
  exact⟨v2::xs,.cons ⟨a,rfl,sq.1⟩ h1,v2,xs,rfl,r2,h2⟩
theorem rn{α j:Type}:∀(ks:List α)(xs:List j),ks.length=xs.length->(ks.zip xs).map (·.1)=ks
 |[],_,_=>rfl
 |k::ks,[],h=>by cases h
 |k::ks,x::xs,h=>by
  rw[List.zip_cons_cons,List.map_cons,rn ks xs (by simpa using h)]
def K6(Z:X.mg "dict" = none)(ha:EA Y X (e::es) t)(hc:X.calm=true:=by rfl)(hg:Gl X "dict":=by rfl)(he:S_ X e es:=by rfl)(I:B_ X es pos:=by rfl):ED Y X (.Call (.Name "dict" p) (e::es) [] pos) (dCB sDictP t) :=
 qm (Ro hc) (λH O ds vs U Q ho N h k=>by
  unfold sDictP at h;split at h
  ·obtain⟨ks,ds,rfl,hl,nd,h⟩:=h;obtain⟨v,ws,rfl,⟨a,xs,rfl,q,r⟩,rfl⟩:=N;obtain⟨B,h1,h2⟩:=cy ks ds xs hl r;have M:ks.length=B.length:=by rw[hl,h2.length]
   exact⟨a,xs,_,rfl,SqL.of q,h1,by rw[rn ks B M];exact nd,λp j=>k _ (df (.dk _ _)) _ (y7 j _) ⟨p,rfl,j,ho p j,B,zw,hl,nd,Reps.grow (Zs j) _ _ h2⟩ h⟩
  exact h.elim) Z boot_dict' ha hg (by decide) (by decide) he I
section
end
def ipM:TIp:=λx y H Q=>∃i j,x=.int i/\y=.int j/\IntMulOk i j/\Q (.int (i*j)) H
def Ab:PIp X .Mult ipM:=by
 intro pn s G H x y v u Q I B r2 h;obtain⟨i,j,e1,e2,M,q⟩:=h;subst e1;subst e2;obtain⟨t,rfl⟩:=B;obtain⟨t',rfl⟩:=r2;exact PyProof.Rows.imul_int ⟨.int _,H,I.tok _,⟨_,rfl⟩,q⟩ M
def Hv(i:Nat)(te:TD):TDS:=λL Z=>match slot L i with
 |some ⟨.val,.int a⟩=>te L λr=>match r.d with
  |.int b=>IntMulOk a b/\Z.nx (setS L i (dv (.int (a*b))))
  |_=>False
 |_=>False
def Qg(i:Nat)(hN:X.N.Nodup)(he:ED Y X e te)(hi:X.N[i]?=some x:=by rfl)(hx:Loc X.env.scope x:=by first|exact Or.inl rfl|exact Or.inr rfl)(hf:X.fn x=true\/X.env.scope.names.lookup x=some .local:=by first|exact .inl rfl|exact .inr rfl|assumption):SD Y X (.AugAssign (.Name x pos') .Mult e pos) (Hv i te):=λH_=>impS (Cg hN hi hx (he H_) Ab hf) λD G H h=>by
 obtain⟨L,o,R,Z,j,k1,k2,k3,k4⟩:=h;unfold Hv at j;split at j
 ·rename_i a I;obtain⟨v0,B,q⟩:=R.slots i _ (xn I);rcases q with⟨_,q⟩|⟨k,_⟩
  ·cases (show v0=_ from q)
   refine⟨.int a,B,L,o,R,_,j,λv r H1 s1 rv h1=>?_⟩;have M:=rv.view;split at h1
   ·rename_i b eb;rw[eb]at M;cases (show v=_ from M);exact⟨a,b,rfl,rfl,h1.1,k1 _ _ _ o (Grow.same s1) ((R.to s1).setV i (d:=.int (a*b)) (by exact rfl)) h1.2⟩
   exact h1.elim
  cases k
 exact j.elim
def Ite(K:W.Frag)(l:Addr):It :=
 ⟨λi H=>∃xs x,SqL K H l xs/\xs[i]?=some x,
  λi H v H'=>∃T x,H T=none/\v=.ref T/\(∀xs,SqL K H l xs->xs[i]?=some x)/\H'=upd H T (.tup [.int i,x]),
  λi H=>∃xs,SqL K H l xs/\xs.length<=i⟩
def Rw{P:Program}{w:World}{K:W.Frag}{es:List Expr}{kk:Nat}{tp:Pos}{e it l:Addr}(a2:e≠it) :
  Turn P w K (.Tuple es kk tp) (Ite K l) [e,it] e (λi h=>(∃M,IsEnum h e it i M)/\h.IsListIter it l i) where
 mem:=by simp
 obj:=λi h Z b B=>by
  obtain⟨⟨M,h1⟩,o,h2,h3,h4⟩:=Z;simp only[zam,List.not_mem_nil,or_false]at B;rcases B with rfl|rfl
  ·exact⟨_,h1,λv q=>(by cases q)⟩
  exact⟨o,h2,λv q=>by rw[h4]at q;cases q⟩
 keep:=λi h h' Z k=>by
  obtain⟨⟨M,h1⟩,h2⟩:=Z;exact⟨⟨M,k e (by simp) _ h1⟩,h2.at λo q=>k it (by simp) o q⟩
 item:=by
  intro X hP hw hK hc i pn s G H E I hf Z hg;subst hP hw hK;obtain⟨xs,x,e1,hx⟩:=hg;obtain⟨a1,r1,pl,hz⟩:=I.list e1;obtain⟨u,hu,ru⟩:=r1.get hx;obtain⟨⟨M,z1⟩,z2⟩:=Z;have fe:=hf e (by simp)
  have fi:=hf it (by simp)
  refine wpAny_pyNext_enum_item z1 z2 pl.isList (x:=u) (by simpa using hu) a2 λg zo zi pr hsz kp=>?_
  have hn:H s.heap.objs.size=none:=I.fresh;have j:∀b,b∉[e,it]->b≠e/\b≠it:=λb B=>by
   simp only[zam,List.not_mem_nil,or_false,not_or]at B;exact B
  have a0:∀b ho,H b=some ho->b≠e/\b≠it:=λb ho q=>⟨zg q fe.1,zg q fi.1⟩;have un:Un (frs X.stack) [e,it] H (upd H s.heap.objs.size (.tup [.int i,x])) s.heap g :=
   ⟨λb o q _ _ hx=>kp b o (j b hx).1 (j b hx).2 q,λb o q _ _ hx=>⟨o.slots,kp b o (j b hx).1 (j b hx).2 q⟩,λb o q n _=>by rw[y0 (Nat.ne_of_lt (zae q))];exact n,λb o q hx=>⟨o,kp b o (j b hx).1 (j b hx).2 q⟩,
    λb zs q=>by rw[y0 (zg q hn)];exact q,λb o zs q=>by rw[y0 (zg q hn)];exact q,λb ps q=>⟨#[],by rw[y0 (zg q hn),q];simp⟩⟩
  have hok:HOk X.prog X.w (upd H s.heap.objs.size (.tup [.int i,x])) g:=λb o q=>by
   by_cases B:b=s.heap.objs.size
   ·subst B;rw[zw]at q;cases q;refine⟨by simp only[zLc,zLn];rw[sizeLine_eq];decide,[.int i s.toks,u],.cons ⟨_,rfl⟩ (.cons ru .nil),⟨_,pr,rfl,_,rfl⟩,_,pr,rfl⟩
   rw[y0 B]at q;refine(I.hok b o q).stay (λc ob hc q2=>kp c ob ?_ ?_ q2) (λc q=>by rw[y0 (zg q hn)];exact q) λc zs q=>by rw[y0 (zg q hn)];exact q
   ·rcases hc with rfl|hc
    ·exact(a0 _ _ q).1
    exact(a0 _ _ hc).1
   rcases hc with rfl|hc
   ·exact(a0 _ _ q).2
   exact(a0 _ _ hc).2
  have I2:Inv X pn G (upd H s.heap.objs.size (.tup [.int i,x])) {s with heap:=g,toks:=s.toks+1}:=I.call' (s':={s with heap:=g,toks:=s.toks+1}) (ch:=[e,it]) rfl un hok I.bare λb B=>by
   have q:=hf b B;exact⟨q.2.2.2.1,q.2.1,q.2.2.2.2.1,q.2.2.2.2.2⟩
  have N:∀b∈[e,it],upd H s.heap.objs.size (.tup [.int i,x]) b=none:=λb B=>by
   have lb:b<s.heap.objs.size:=by
    obtain⟨o,q2,_⟩:=z2;simp only[zam,List.not_mem_nil,or_false]at B;rcases B with rfl|rfl
    ·exact zae z1
    exact zae q2
   rw[y0 (Nat.ne_of_lt lb)];exact(hf b B).1
  refine⟨_,rfl,wpAny_letOwnedTupleGo_enum zo λg2 z3 sb=>?_⟩;refine⟨.ref s.heap.objs.size,_,I2.turned (t':=s.toks+1) (λb o B q=>sb.extBut b o B q) (N e (by simp)) fe.2.1 fe.2.2.2.1 fe.2.2.2.2.1 fe.2.2.2.2.2,rfl,⟨_,x,hn,rfl,(λzs q=>by rw[<- I.list_inj e1 q];exact hx),rfl⟩,?_,N⟩
  exact⟨⟨_,by exact_mod_cast z3⟩,zi.at λo q=>sb.extBut _ o (Ne.symm a2) q⟩
 done:=by
  intro X hP hw hK hc i pn s G H E I hf Z hg;subst hP hw hK;obtain⟨xs,e1,a3⟩:=hg;obtain⟨a1,r1,pl,hz⟩:=I.list e1;obtain⟨⟨M,z1⟩,z2⟩:=Z;have fi:=hf it (by simp)
  have a4:=r1.length;exact wpAny_pyNext_enum_end (I.ok.hd hc) z1 z2 pl.isList (by simp;omega) λg kp=>⟨rfl,I.turned (t':=s.toks) (λb o B q=>kp b o B q) fi.1 fi.2.1 fi.2.2.2.1 fi.2.2.2.2.1 fi.2.2.2.2.2⟩
 self:=λ_ _ _ _ _ Z h=>by
  obtain⟨⟨M,z1⟩,_⟩:=Z;exact wpAny_pyIter_enum z1 h
def d9:bootBuiltins "enumerate" = some (.type "enumerate"):=by kernel_rfl
def z1e(K:W.Frag)(ta:TA):TI:=λG H R=>ta G H λvs H1=>∃l xs,vs=[.ref l]/\SqL K H1 l xs/\R (Ite K l) H1
def F0{X:Cx}{es:List Expr}{kk:Nat}{tp:Pos}{a:Expr}{ta:TA}{p pos:Pos}(hg:Gl X "enumerate")(hm:X.mg "enumerate" = none)(ha:PA X [a] ta)(he:starEach [a] X.env=(false,eval a X.env)::starEach [] X.env:=by rfl):PI X (.Tuple es kk tp) (.Call (.Name "enumerate" p) [a] [] pos) (z1e X.K ta):=by
 intro pn s G H R I h;refine wpAny_Call_Name_kw (su I hg hm d9 ?_ (by decide) (by decide))
 refine PyProof.Rows.callWith_type1 (thn (ha pos pn s G H _ I h) λus s1 Zh=>?_) he (by rfl)
 obtain⟨vs,H1,j,M,l,xs,e,e1,q⟩:=Zh;subst e;obtain⟨u,rfl,ru⟩:=uz M;cases ru;obtain⟨Z,M,pl,hz⟩:=j.list e1;refine call_enumerate_list pl.isList λg B z2 hsz kp=>wpAny_pyIter_enum B ?_;refine⟨_,_,_,_,H1,rfl,j.kept (t':=s1.toks) kp,Rw (by exact Nat.succ_ne_self _),⟨⟨_,B⟩,z2⟩,λb hb=>?_,q⟩
 have N:s1.heap.objs.size<=b:=by
  simp only[zam,List.not_mem_nil,or_false]at hb;rcases hb with rfl|rfl
  ·exact Nat.le_add_right _ _
  exact zaj _
 exact j.fpOk N (j.hok.fresh N)
def enD(l:List D):List D:=l.zipIdx.map λq=>.tup [.int (q.2:Nat),q.1]
def iE(t:TDs):TID:=λL U=>t L λrs=>match rs with
 | [r]=>(match r.k with|.own=>False|_=>True)/\(match r.d with
  |.lst l=>U (enD l)
  | _=>False)
 |_=>False
def E9{K:W.Frag}{l:Addr}{ds:List D}:ItD K (Ite K l) (enD ds) (λH O=>Rep K H O (.lst ds) (.ref l)) where
 go:=λH O i d B e=>by
  obtain⟨a,xs,I,q,_,r⟩:=B;cases I;unfold enD at e;rw[zai,List.getElem?_zipIdx]at e;cases ex:ds[i]? with
  |none=>rw[ex]at e;cases e
  |some x =>
   rw[ex]at e;have ed:d=.tup [.int (i:Nat),x]:=by simpa using e.symm
   subst ed;obtain⟨u,Z,ru⟩:=r.get ex;refine⟨⟨xs,u,SqL.of q,Z⟩,λz H' yl=>?_⟩;obtain⟨T,u',hT,rfl,j,rfl⟩:=yl;have j:=j _ (SqL.of q);rw[Z]at j;cases j;have M:Same H (upd H T (.tup [.int i,u])):=λb w N=>by rw[y0 (zg N hT)];exact N
   refine⟨M,T,[.int i,u],rfl,⟨.inl (.inl zw),zw⟩,?_⟩;exact⟨.int i,[u],rfl,by exact rfl,u,[],rfl,Rep.grow (Grow.same M) _ _ ru,rfl⟩
 stop:=λH O B=>by
  obtain⟨a,xs,I,q,_,r⟩:=B;cases I;exact⟨xs,SqL.of q,by unfold enD;rw[zLm,List.length_zipIdx,r.length];exact zaj _⟩
 keep:=λO O' H H' B g=>Rep.grow g _ _ B
def Xw(N:X.mg "enumerate" = none)(ha:EA Y X [a] t)(Z:Gl X "enumerate":=by rfl)(he:starEach [a] X.env=(false,eval a X.env)::starEach [] X.env:=by rfl):EI Y X (.Tuple es kk tp) (.Call (.Name "enumerate" p) [a] [] pos) (iE t):=λH_=>impI (F0 Z N (ha H_) he) λG H R q=>by
 obtain⟨L,o,RE,U,B,k⟩:=q;refine⟨L,o,RE,_,B,λvs rs H1 s1 j h1=>?_⟩;split at h1
 ·rename_i r;obtain⟨n1,h1⟩:=h1;obtain⟨v1,w1,rfl,M,rfl⟩:=j;have I:=M.solid (vo n1);obtain⟨kd,d⟩:=r;cases d with
  |lst l =>
   obtain⟨a,xs,rfl,q,no,r⟩:=id I;exact⟨a,xs,rfl,SqL.of q,k _ _ _ H1 s1 E9 I h1⟩
  |_=>exact h1.elim
 exact h1.elim
def wf{α:Type}(xs:List α)(lo hi st:Option Int):List α :=
 let b:=sliceBounds lo hi st xs.length
 (sliceRange b.1 b.2.1 b.2.2).filterMap λi=>xs[i]?
section
variable{te:TE}{lo hi:Option Expr}{st:Expr}{tl th ts:TO}{p2:Pos}
theorem jl(r:Vals xs us):∀is:List Nat,Vals (is.filterMap λi=>xs[i]?) (is.filterMap λi=>us[i]?)
 |[]=>.nil
 |i::is=>by
  rw[List.filterMap_cons,List.filterMap_cons];cases ex:xs[i]? with
  |none =>
   rw[r.none_of ex];exact jl r is
  |some x =>
   obtain⟨u,q,j⟩:=r.get ex;rw[q];exact .cons j (jl r is)
def Q3(K:W.Frag)(te:TE)(tl th ts:TO):TE:=λG H Q=>te G H λx H1=>tl G H1 λl H2=>th G H2 λu q=>ts G q λk j=>∃a xs,x=.ref a/\SqL K j a xs/\k≠some 0/\∀p,j p=none->Q (.ref p) (upd j p (.lst (wf xs l u k)))
def Fa(he:PE X e te)(hl:PO X lo tl)(hu:PO X hi th)(hs:PO X (some st) ts):PE X (.Subscript e (.Slice lo hi (some st) p2) pos) (Q3 X.K te tl th ts):=by
 intro pn s G H Q I h;refine Subscript_ (thn (he pn s G H _ I h) λv s1 Zh=>?_);obtain⟨x,H1,I1,r1,q1⟩:=Zh;refine wpAny_Slice (thn (hl pn s1 G H1 _ I1 q1) λvl s2 ⟨l,H2,I2,pl,q2⟩=>thn (hu pn s2 G H2 _ I2 q2) λZ s3 ⟨u,H3,I3,pu,q3⟩=>thn (hs pn s3 G H3 _ I3 q3) λvk B Zh=>?_);obtain⟨k,H4,I4,pk,a,xs,e1,sq,k0,q⟩:=Zh;subst e1;cases r1;have N:Inv X pn G H4 {B with heap:=B.heap.push {cls:=.type "slice",data:=.fields #[vl,Z,vk]}}:=I4.kept (t':=B.toks) λb ob q=>zac _ q;obtain⟨its,r,j,hz⟩:=N.list sq;have M:its.length=xs.length:=r.length.symm;show wpAny (model X.prog X.w) X.A (subscriptTail e (.Slice lo hi (some st) p2) (.ref a) (.ref B.heap.objs.size)) (EP X pn G Q) X.xe {B with heap:=B.heap.push {cls:=.type "slice",data:=.fields #[vl,Z,vk]}};refine tail_any (ops:=[.ref a,.ref B.heap.objs.size]) j.isList.typeIs list_getitem_lookup ?_ (by with_unfolding_all rfl)
 refine wpAny_getItem_list_slice j.isList (Heap.IsSliceOf.new ..) pl pu pk k0 ?_ (by simp;omega)
 refine⟨.ref _,_,N.laid (t':=B.toks) (o:=.lst (wf xs l u k)) (λb ob q=>zac _ q) (zaj _) ?_,rfl,q _ (N.hok.fresh (zaj _))⟩;have hp:(slicePick its.toArray l u k).toList=wf its l u k:=by
  unfold slicePick wf;simp
 have hv:Vals (wf xs l u k) (wf its l u k):=by
  unfold wf;rw[M];exact jl r _
 have a0:(wf its l u k).length<=its.length:=by
  have:=slicePick_size_le its.toArray l u k;rw[<- Array.length_toList,hp]at this;simpa using this
 refine⟨by rw[hv.length];omega,wf its l u k,0,hv,?_⟩
 rw[zad _ rfl,<- hp]
end
def Aw(te:TD)(tl th ts:TDo):TD:=λL U=>te L λx=>tl L λl=>th L λu=>ts L λk=>k≠some 0/\match x.d with
 |.lst ds=>U (df (.lst (wf ds l u k)))
 |.scr ns=>U (df (.lst ((wf ns l u k).map D.int)))
 |_=>False
theorem ju{K:W.Frag}{H:Hp}{O:List Addr}{ds:List D}{xs:List V}(r:Reps K H O ds xs):∀is:List Nat,Reps K H O (is.filterMap λi=>ds[i]?) (is.filterMap λi=>xs[i]?)
 |[]=>rfl
 |i::is=>by
  rw[List.filterMap_cons,List.filterMap_cons];cases ex:ds[i]? with
  |none =>
   have:xs[i]?=none:=by
    rw[List.getElem?_eq_none_iff]at ex ⊢;rw[r.length];exact ex
   rw[this];exact ju r is
  |some d =>
   obtain⟨v,q,j⟩:=r.get ex;rw[q];exact⟨v,_,rfl,j,ju r is⟩
def Ws{K:W.Frag}{H:Hp}{O:List Addr}{ds:List D}{xs:List V}(r:Reps K H O ds xs)(l u k:Option Int):Reps K H O (wf ds l u k) (wf xs l u k):=by
 unfold wf;rw[r.length];exact ju r _
def Ml{α j:Type}(f:α->j)(xs:List α)(l u k:Option Int):wf (xs.map f) l u k=(wf xs l u k).map f:=by
 unfold wf;rw[zLm,List.map_filterMap]
 dsimp only
 congr 1
 funext i
 rw[zai]
def Ep{lo hi:Option Expr}{st:Expr}{tl th ts:TDo}{p2:Pos}(he:ED Y X e te)(hl:EO Y X lo tl)(hu:EO Y X hi th)(hs:EO Y X (some st) ts):ED Y X (.Subscript e (.Slice lo hi (some st) p2) pos) (Aw te tl th ts):=λH_ =>
 impE (Fa (he H_) (hl H_) (hu H_) (hs H_)) λG H Q q=>by
  obtain⟨L,o,R,U,N,kk⟩:=q;refine⟨L,o,R,_,N,λv r H1 s1 rv h1=>⟨L,o,R.to s1,_,h1,λl H2 s2 h2=>⟨L,o,R.to (s1.trans s2),_,h2,λu H3 M h3=>⟨L,o,R.to ((s1.trans s2).trans M),_,h3,λk H4 s4 I=>?_⟩⟩⟩⟩;have j:=((s1.trans s2).trans M).trans s4;have Z:=(rv.same ((s2.trans M).trans s4)).view;obtain⟨h0,I⟩:=I;obtain⟨kd,d⟩:=r;cases d with
  |lst ds =>
   obtain⟨a,xs,rfl,q,r⟩:=Z;refine⟨a,xs,rfl,SqL.of q,h0,λp B=>?_⟩;exact kk _ _ _ (j.trans (y7 B _)) (RV.start (sk (λa e=>R.ofree (j.free e)) B (Ws r l u k)) j) I
  |scr ns =>
   obtain⟨a,rfl,q⟩:=Z;refine⟨a,_,rfl,q.seq,h0,λp B=>?_⟩;rw[Ml];exact kk _ _ _ (j.trans (y7 B _)) (RV.start (sk (λa e=>R.ofree (j.free e)) B (Reps.ints _)) j) I
  |_=>exact I.elim
abbrev TK:=List Key
instance decMemTK (k:TK) (ks:List TK):Decidable (k∈ks):=decidable_of_iff (ks.any (λx=>decide (x=k))=true) (by simp)
section
open PySem PySem.Spec PySem.W PyProof.Rows
def RawD(h:Heap)(d:Addr)(rows:Array DictEntry)(ep:Nat):Prop:=∃o,h.get? d=some o/\o.ExactDict/\o.data=.dict rows ep
def RawD.lt(x:RawD h d rows ep):d<h.objs.size:=let ⟨_,g,_⟩:=x;zae g
variable{n:Nat}
abbrev POrd(n:Nat)(p:Array Nat):Prop:=p.Perm (List.toArray (List.range n))
def POrd.lt{p:Array Nat}(h:POrd n p)(j:0<n)(i:Nat):p.getD i 0<n:=by
 by_cases hi:i<p.size
 ·have e:p.getD i 0=p[i]:=by simp[Array.getD,hi]
  rw[e];have m:p[i]∈List.toArray (List.range n):=h.mem_iff.mp (Array.getElem_mem hi);simpa using m
 have e:p.getD i 0=0:=by simp[Array.getD,hi]
 omega
theorem vj{α:Type}:∀l:List α,(l.zip l).map (λx=>x.2)=l
 |[]=>rfl
 |a::l=>by rw[List.zip_cons_cons,List.map_cons,vj l]
def z1a:Key->Option Int
 |.inl i=>some i
 |.inr _=>none
section
theorem POrd.size{p:Array Nat}(h:POrd n p):p.size=n:=by
 have:=h.size_eq;simpa using this
end
end
def zK1(k:TK):List Int:=k.filterMap z1a
theorem Tl(B:l≠J):∀(n i:Nat)(s:Shared)(Q:List Value->Shared->Prop),s.heap.IsListIter J l i->s.heap.IsList l its->i+n<=its.size ->
  (∀h',h'.IsListIter J l (i+n)->h'.IsList l its->Heap.SameBut J s.heap h'->Q ((its.toList.drop i).take n) {s with heap:=h'})->wpAny (model prog w) A (draw (.ref J) n) Q E s
 |0,i,s,Q,y,hl,_,q=>by
  show wpAny _ _ (pure []) Q E s;apply zab;have:=q s.heap y hl (Heap.SameBut.refl ..);simpa using this
 |n+1,i,s,Q,y,hl,le,q=>by
  have lt:i<its.size:=by omega
  show wpAny _ _ (pyNext (.ref J) >>= _) Q E s;apply zaa;refine wpAny_pyNext_list_item y hl (x:=its[i]) (by simp[lt]) λh1 M s1=>?_
  have hl1:h1.IsList l its:=hl.at λo e=>s1.extBut l o B e;apply zaa;apply wpAny_holding;refine Tl B n (i+1) _ _ M hl1 (by omega) λh2 I j s2=>zab (?_:_)
  have N:its.toList.drop i=its[i]::its.toList.drop (i+1):=by simp[List.drop_eq_getElem_cons,lt]
  have:=q h2 (by rw[show i+(n+1)=i+1+n by omega];exact I) j (s1.trans s2)
  rw[N,List.take_succ_cons]at this;exact this
def S8 {x1} {Q:Unit->Shared->Prop} (N:A.handled=none) (hl:s.heap.IsList l its) (M:(assignEach elts env).length=its.size) (hs:(assignEach elts env).findIdx? (·.1)=none) (q:∀h',Heap.ExtBut s.heap.objs.size s.heap h'->wpAny (model prog w) A (assignInOrder ((assignEach elts env).map (·.2)) its.toList) Q E {s with heap:=h'}):wpAny (model prog w) A (assign (.Tuple elts x1 pos) env (.ref l)) Q E s:=by
 have I:l≠s.heap.objs.size:=by obtain⟨o,e,_⟩:=hl;exact Nat.ne_of_lt (zae e)
 rw[assign_Tuple];apply zaa;apply wpAny_standAt;unfold unpack;rw[M,hs];apply zaa;apply wpAny_holding;unfold unpackItems;apply zaa;unfold notIterableAtAll;apply zaa;refine wpAny_specialOf hl.typeIs PySem.F.slot_list_iter.lookup (?_:_);apply zab;simp only[Bool.false_eq_true,if_false];apply zaa;apply wpAny_holding;refine wpAny_pyIter_list hl (?_:_);apply zaa;apply wpAny_holding;refine Tl I its.size 0 _ _ ⟨_,zad _ rfl,rfl,rfl⟩ (hl.push _) (by omega) λh1 B hl1 s1=>?_
 rw[show List.take its.size (List.drop 0 its.toList)=its.toList by rw[List.drop_zero];exact List.take_of_length_le (by simp)]
 rw[if_neg (show ¬ _ by simp)]
 apply zaa;apply wpAny_holding;refine wpAny_pyNext_list_end N B hl1 (by simp) λh2 e2=>?_
 simp only[Option.isSome_none,Bool.false_eq_true,if_false];refine zab (q h2 λb o j e=>e2 b o j (s1.extBut b o j (zac _ e)))
def gLst(K:W.Frag)(n:Nat)(t:TGs):TG:=λv G H Q=>∃a xs,v=.ref a/\SqL K H a xs/\xs.length=n/\t xs G H Q
def P1{t:TGs}(hK:X.K=K0)(hc:X.calm=true)(h:PGs X es t)(hn:(assignEach es X.env).length=n:=by rfl)(q:(assignEach es X.env).findIdx? (·.1)=none:=by rfl):PG X (.Tuple es k pos) (gLst K0 n t):=by
 subst hK;intro pn s G H v u Q I r j;obtain⟨a,xs,e1,Z,hl,j⟩:=j;subst e1;cases r;obtain⟨its,B,N,hz⟩:=I.list Z;refine S8 (I.ok.hd hc) N.isList (by simp[hn,<- hl,B.length]) q λh' M=>?_
 have I1:Inv X pn G H {s with heap:=h'}:=I.kept (t':=s.toks) λb o e=>M b o (Nat.ne_of_lt (zae e)) e;exact h pn _ G H xs _ Q I1 (by simpa using B) j
def gL4(i j l m:Nat):TGD:=λd L N=>match d with
 |.lst [a,b,c,e]=>N (setS (setS (setS (setS L i (dv a)) j (dv b)) l (dv c)) m (dv e))
 |_=>False
def O6{K:W.Frag}(i j l m:Nat):Wd K (gLst K 4 (dt (rq i) (dt (rq j) (dt (rq l) (dt (rq m) gNil))))) (gL4 i j l m):=λH_ H G L o d v N Q R h B k=>by
 unfold gL4 at B;split at B
 ·rename_i a b c e;obtain⟨p,xs,rfl,q,n,r⟩:=h;obtain⟨v1,r1,rfl,h1,v2,r2,rfl,h2,v3,r3,rfl,Z,I,r4,rfl,M,rfl⟩:=r;refine⟨p,_,rfl,SqL.of q,rfl,v1,_,rfl,v2,_,rfl,v3,_,rfl,I,_,rfl,rfl,?_⟩;exact k _ _ ((((R.setV i h1).setV j h2).setV l Z).setV m M) B
 exact B.elim
theorem qt:∀{ts:List Str}{us:List Value},Vals (ts.map V.str) us->∃l:List (Str×Tok),us=strValues l/\l.map (·.1)=ts
 |[],_,.nil=>⟨[],rfl,rfl⟩
 |t::ts,_,.cons r q=>by
  obtain⟨k,rfl⟩:=r;obtain⟨l,rfl,e⟩:=qt q;exact⟨(t,k)::l,rfl,by rw[List.map_cons,e]⟩
theorem X4(n:Nat):∀(ts:List Str)(a:Nat),ts.foldl (λj (t:Str)=>j+t.length+n) a=a+(ts.map λt=>t.length+n).sum
 |[],a=>by simp
 |t::ts,a=>by
  rw[List.foldl_cons,X4 n ts,List.map_cons,List.sum_cons];omega
def Fv:MtR X "str.join" (λx xs H Q=>∃j p ts,x=.str j/\xs=[.ref p]/\(SqL X.K H p (ts.map V.str)\/SqT X.K H p (ts.map V.str))/\(ts.map λt=>t.length+j.length).sum<=sizeLine/\Q (.str (Str.join j ts)) H):=by
 intro pn s G H x xs v us Q I rx rs h;obtain⟨j,p,ts,rfl,rfl,M,hb,q⟩:=h;obtain⟨t,rfl⟩:=rx;obtain⟨u,rfl,ru⟩:=uz rs;cases ru;have Z:∀l:List (Str×Tok),l.map (·.1)=ts->(joinMade j l).post (λv s'=>EP X pn G Q v s') s:=λl B=>by
  have lg:(Builtin.Str.glued j ts).length<=sizeLine:=by
   rw[size_glued];refine zak ?_ hb;have e:(ts.map λt=>t.length+j.length).sum=(ts.map (·.length)).sum+ts.length*j.length:=by
    clear hb q M B
    induction ts with
    |nil=>simp
    |cons t ts ih=>simp[ih,Nat.add_mul];omega
   rw[e];exact Nat.add_le_add_left (Nat.mul_le_mul_right _ (Nat.sub_le _ _)) _
  have N:EP X pn G Q (.str (Builtin.Str.glued j ts) s.toks) {s with toks:=s.toks+1}:=⟨.str (Str.join j ts),H,I.tok _,⟨s.toks,by rw[PySem.StrLaws.glued_eq_join]⟩,q⟩
  match l,B with
  |[],B=>subst B;exact⟨lg,N⟩
  |[p],B=>subst B;exact⟨.str p.1,H,I,⟨p.2,rfl⟩,q⟩
  |p::r::l,B=>subst B;exact⟨lg,N⟩
 have hl:∀l:List (Str×Tok),l.map (·.1)=ts->Builtin.Str.tooLong ((l.map (·.1)).toArray.foldl (·+·.length+j.length) 0)=false:=λl B=>by
  rw[B];unfold Builtin.Str.tooLong;simp only[List.foldl_toArray];rw[X4];simp;omega
 rcases M with M|M
 ·obtain⟨its,rv,pl,hz⟩:=I.list M;obtain⟨l,rfl,B⟩:=qt rv;exact call_meets PySem.F.slot_str_join (typeIs_str s j t) PySem.F.entry_str_join (PySem.F.args_str_join_2 _ _) (meets_str_join_list j t p l (hl l B)) ⟨pl.isList,Z l B⟩
 obtain⟨its,rv,pl,hz⟩:=I.tuple M;obtain⟨l,rfl,B⟩:=qt rv;obtain⟨o,g,c,n,d⟩:=pl;exact call_meets PySem.F.slot_str_join (typeIs_str s j t) PySem.F.entry_str_join (PySem.F.args_str_join_2 _ _) (meets_str_join_tuple j t p l (hl l B)) ⟨⟨o,n,g,c,d⟩,Z l B⟩
theorem qw{K:W.Frag}{H:Hp}{O:List Addr}:∀{ns:List Str}{xs:List V},Reps K H O (ns.map D.str) xs->xs=ns.map V.str
 |[],_,h=>h
 |n::ns,xs,h=>by
  obtain⟨v,r,rfl,q,t⟩:=h;cases (show v=_ from q);rw[qw t];rfl
def Jw(td te:TD):TD:=λL U=>td L λx=>match x.d with
 | .str sep=>te L λy=>(match y.d with
  |.lst ds=>∃ts:List Str,ds=ts.map D.str/\(ts.map λt=>t.length+sep.length).sum<=sizeLine/\U (dv (.str (Str.join sep ts)))
  |.tup ds=>∃ts:List Str,ds=ts.map D.str/\(ts.map λt=>t.length+sep.length).sum<=sizeLine/\U (dv (.str (Str.join sep ts)))
  | _=>False)
 |_=>False
def K4(ho:ED Y X o td)(he:ED Y X e te)(B:attributeBase o "join" X.env (eval o X.env)=eval o X.env:=by rfl)(M:((backTo cpos (starEach [e] X.env)).all (λx=>!x.1)&&(backToKw cpos (keywordEach [] X.env)).all (λx=>x.1.isSome)&&decide (([e]:List Expr).length+([]:List Keyword).length+(if ([]:List Keyword).isEmpty then 0 else 1)<30))=true:=by rfl)(j:(apos.endLine==cpos.line)=true:=by rfl)(hs:starEach [e] X.env=(false,eval e X.env)::starEach [] X.env:=by rfl)(a0:(backTo cpos (starEach [] X.env)).any (·.1)=false:=by rfl) :
  ED Y X (.Call (.Attribute o "join" apos) [e] [] cpos) (Jw td te):=λH_ =>
 impE (Sn PySem.F.plainAttrs_str PySem.F.slot_str_join PySem.F.type_str_join Fv (ho H_) (w5 (he H_) u4 hs) B M j hs a0) λG H Q q=>by
  obtain⟨L,oo,R,U,Z,kk⟩:=q;refine⟨L,oo,R,_,Z,λv r H1 s1 rv h1=>?_⟩;obtain⟨kd,d⟩:=r;cases d with
  |str sep =>
   cases (show v=_ from rv.view)
   refine⟨rfl,L,oo,R.to s1,_,h1,λv2 r2 H2 s2 I h2=>?_⟩;obtain⟨a1,d2⟩:=r2;cases d2 with
   |lst ds =>
    obtain⟨ts,rfl,hb,h2⟩:=h2;obtain⟨a,xs,rfl,q,N⟩:=I.view;cases qw N;exact⟨sep,a,ts,rfl,rfl,.inl (SqL.of q),hb,kk _ (dv (.str (Str.join sep ts))) H2 (s1.trans s2) (by exact rfl) h2⟩
   |tup ds =>
    obtain⟨ts,rfl,hb,h2⟩:=h2;obtain⟨a,xs,rfl,q,N⟩:=I.view;cases qw N;exact⟨sep,a,ts,rfl,rfl,.inr q.1,hb,kk _ (dv (.str (Str.join sep ts))) H2 (s1.trans s2) (by exact rfl) h2⟩
   |_=>exact h2.elim
  |_=>exact h1.elim
def cm:bootBuiltins "reversed" = some (.type "reversed"):=by kernel_rfl
def cstD:Cst->D
 |.int i=>.int i
 |.str x=>.str x
 |.tup cs=>.cn (.tup cs)
def Gc:∀{c:Cst}{v:V},CRep K c v->Rep K H O (cstD c) v
 |.int _,_,h=>h
 |.str _,_,h=>h
 |.tup _,_,h=>h
theorem Uh:∀{cs:List Cst}{xs:List V},Rq K cs xs->Reps K H O (cs.map cstD) xs
 |[],_,h=>h
 |c::cs,xs,h=>by
  obtain⟨v,r,e,q,t⟩:=h;exact⟨v,r,e,Gc q,Uh t⟩
def Jz{cs:List Cst}(h:CRep K (.tup cs) v):∃a xs,v=.ref a/\SqT K H a xs/\Rq K cs xs:=by
 obtain⟨a,o,its,n,xs,e,l,c,d,z,r,t⟩:=h;exact⟨a,xs,e,.inr ⟨o,its,n,l,c,d,z,r⟩,t⟩
theorem bp:∀ws:List Str,Rq K (ws.map Cst.str) (ws.map V.str)
 |[]=>rfl
 |w::ws=>⟨_,_,rfl,rfl,bp ws⟩
theorem W1:∀{cs:List Cst}{xs:List V},Rq K cs xs->xs.length=cs.length
 |[],_,h=>by cases (show _=[] from h);rfl
 |c::cs,xs,h=>by
  obtain⟨v,r,e,q,t⟩:=h;subst e;simp[W1 t]
def Lg{K:W.Frag}{mg:Str->Option Value}{a:Addr}{o:Obj}{n:Nat}{ws:List Str}(q:mg x=some (.ref a))(hl:K.lookup a=some o)(I:o.cls=.type "tuple")(B:o.data=.seq its n)(hs:its.size<=sizeLine)(j:Vals (ws.map V.str) its.toList) :
  GC K mg x (.cn (.tup (ws.map Cst.str))):=⟨.ref a,.ref a,q,rfl,λ_ _=>⟨a,o,its,n,_,rfl,hl,I,B,hs,j,bp ws⟩⟩
def Kf(ws:List Str):(ws.map Cst.str).map cstD=ws.map D.str:=by
 rw[List.map_map];rfl
section
variable{tg:Expr}
def iCn(te:TD):TID:=λL U=>te L λr=>match r.k,r.d with
 |.val,.cn (.tup cs)=>U (cs.map cstD)
 |_,_=>False
def As(I:ED Y X e te):EI Y X tg e (iCn te):=λH_=>impI (Cm (I H_) Ja) λG H R q=>by
 obtain⟨L,o,N,U,j,k⟩:=q;refine⟨L,o,N,_,j,λv r H1 s1 B h1=>?_⟩;obtain⟨Z,d⟩:=r
 dsimp only at h1
 split at h1
 ·rename_i cs;obtain⟨a,xs,rfl,q,M⟩:=Jz (H:=H1) (show CRep X.K (.tup cs) v from B);exact⟨a,rfl,⟨xs,q⟩,k _ _ _ H1 s1 Jo ⟨xs,q,Uh M⟩ h1⟩
 exact h1.elim
def sLenC:FT:=λds U=>match ds with
 |[.cn (.tup cs)]=>U (dv (.int cs.length))
 |_=>False
def Ew(I:X.mg "len" = none)(Z:EA Y X (e::es) t)(M:Gl X "len":=by rfl)(N:S_ X e es:=by rfl)(j:B_ X es pos:=by rfl):ED Y X (.Call (.Name "len" p) (e::es) [] pos) (dCB sLenC t) :=
 u9 kz (λH O ds vs U Q ho B h k=>by
  unfold sLenC at h;split at h
  ·rename_i cs;obtain⟨v,ws,rfl,h1,rfl⟩:=B;obtain⟨a,xs,rfl,q,cr⟩:=Jz (H:=H) (show CRep X.K (.tup cs) v from h1);refine⟨a,xs,rfl,.inr q,?_⟩;rw[W1 cr];exact k _ _ H (Same.refl H) (by exact rfl) h
  exact h.elim) I PySem.boot_len Z M (by decide) (by decide) N j
end
def dd(l:List Str)(k:Str):List Str:=if k∈l then l else l++[k]
def fm(val:Nat->Str)(i:Nat):List Str:=((List.range i).map val).foldl dd []
def many(l:List Str):Nat:=(l.foldl dd []).length
def uj:entryFor table "dict.update.loop" = some Builtin.«dict.update.loop»:=entryFor_of_tree (by kernel_rfl)
def xj:plainId "dict.update.loop" = true:=by decide +kernel
structure ZAt1(g:Heap)(z ti to i1 i2 l1 l2:Addr)(f:Value)(k:Nat):Prop where
 zz:IsZip g z ti to f
 its:IsPair g ti (.ref i1) (.ref i2)
 out:∃a b,IsPair g to a b
 one:g.IsTupleIter i1 l1 k
 two:g.IsListIter i2 l2 k
structure ZNe1(z ti to i1 i2:Addr):Prop where
 ab:ti≠z
 ac:to≠z
 ad:i1≠z
 ae:i2≠z
 bc:ti≠to
 bd:ti≠i1
 be:ti≠i2
 cd:to≠i1
 ce:to≠i2
 de:i1≠i2
structure Na(P:Program)(w:World)(K:W.Frag)(a:Addr)(f:Str->Option Value):Prop where
 at_:∃es ep,K.lookup a=some {cls:=.type "dict",data:=.dict es ep}/\KeysOf (strKind P w) es/\∀k,findBy (strKind P w).is es k=f k
 ne:(a==sysModules)=false
variable{a:Addr}{f:Str->Option Value}
def Na.map(T:Na X.prog X.w X.K a f)(I:Inv X pn G H s):s.heap.MapOf (strKind X.prog X.w) a f:=by
 obtain⟨es,ep,j,q,B⟩:=T.at_;exact⟨_,es,ep,I.kIn a _ j,⟨rfl,rfl,rfl⟩,rfl,q,B⟩
variable{td te:TE}
def Jk{a b:List (Key×V)}{x y:List (Key×Value)}(h:KV a x)(g:KV b y):KV (a++b) (x++y):=by
 induction h with
 |nil=>exact g
 |cons h t ih=>exact .cons h ih
def L6{a:List (Key×V)}{b:List (Key×Value)}(h:KV a b):b.map (·.1)=a.map (·.1):=by
 induction h with
 |nil=>rfl
 |cons h t ih=>rw[List.map_cons,List.map_cons,ih,h.1]
def Dk(td te:TE):TE:=λG H Q=>td G H λx H1=>∃a kvs0,x=.ref a/\H1 a=some (.dK kvs0)/\te G H1 λy H2=>∃b kvs more,y=.ref b/\a≠b/\H2 a=some (.dK kvs)/\H2 b=some (.dK more)/\kvs.length+more.length<=sizeLine/\((kvs++more).map (·.1)).Nodup/\Q .non (upd H2 a (.dK (kvs++more)))
def Ff(ho:PE X o td)(he:PE X e te)(m:M1 X o "update" apos e cpos):PE X (.Call (.Attribute o "update" apos) [e] [] cpos) (Dk td te):=by
 intro pn s G H Q I h;refine wpAny_Call_method m.base m.few m.line PySem.F.plainAttrs_dict PySem.F.slot_dict_update PySem.F.type_dict_update (thn (ho pn s G H _ I h) λu s1 Zh=>?_);obtain⟨x,H1,I1,rx,a,a1,ex,d,q1⟩:=Zh;subst ex;obtain rfl:u=Value.ref a:=rx;obtain⟨t1,t2,_⟩:=Aa I1 (.inl ⟨_,.inl d⟩);refine⟨t1,t2,?_⟩;rw[m.trees];refine Calls.callWith_builtin rfl (Calls.evalArgs_plain (Calls.spliced_cons (thn (he pn s1 G H1 _ I1 q1) λiv s2 ⟨y,H2,I2,ry,b,kvs,more,ey,B,ha,hb,hl,M,q2⟩=>Calls.spliced_nil ?_)));subst ey;obtain rfl:iv=Value.ref b:=ry;obtain⟨z1,a0,ks,j,d1⟩:=Ez I2.hok ha;obtain⟨z2,Z,ms,r2,d2⟩:=Ez I2.hok hb;refine call_meetsIn PySem.F.slot_dict_update d1.typeIs PySem.F.entry_dict_update (PySem.F.args_dict_update_2 _ _) (meets_dict_update (yk X.prog X.w) a b B Z) ⟨ks,ms,d1,d2,by rw[<- j.length,<- r2.length];exact hl,λh' dd a2 sb=>?_⟩
 have e:merged ks ms=ks++ms:=merged_append_of_fresh ks ms (by rw[L6 (Jk j r2)];exact M)
 rw[e]at dd;have N:∃q,h'.get? a=some q:=let ⟨q,_,_,hq,_⟩:=dd;⟨q,hq⟩
 exact⟨.non,_,Vs (t':=s2.toks) I2 (by rw[ha];exact True.intro) sb N (To (by rw[zLa];exact hl) a0 (Jk j r2) dd),rfl,q2⟩
theorem Wf{α j:Type}:∀(a:List α)(x:List j)(b:List α)(y:List j),a.length=x.length->(a++b).zip (x++y)=a.zip x++b.zip y
 |[],[],_,_,_=>rfl
 |_::_,[],_,_,h=>by cases h
 |[],_::_,_,_,h=>by cases h
 |a::as,x::xs,b,y,h=>by
  show(a,x)::(as++b).zip (xs++y)=(a,x)::(as.zip xs++b.zip y);rw[Wf as xs b y (by simpa using h)]
theorem Yp{K:W.Frag}{H:Hp}{O:List Addr}:∀{ns:List Str}{xs:List V},Reps K H O (ns.map D.str) xs->xs=ns.map V.str
 |[],_,h=>h
 |n::ns,xs,h=>by
  obtain⟨v,r,rfl,q,t⟩:=h;cases (show v=_ from q);rw[Yp t];rfl
def W7:bootBuiltins "set" = some (.type "set"):=by kernel_rfl
section
open PySem PySem.Spec PySem.W PyProof.Rows
def z0z(D:Addr)(i n ep:Nat)(q j I B:Value):Obj:={cls:=.type "dict_itemiterator",dict:=none,data:=.fields #[q,j,.ref D,.int i 0,.int n 0,.int ep 0,I,B],slots:=#[]}
def RawJ(h:Heap)(J D:Addr)(i n ep:Nat):Prop:=∃x0 x1 o1 o2,h.get? J=some (z0z D i n ep x0 x1 o1 o2)/\((x0=.none/\x1=.bool false)\/∃(b:Addr)(f:Bool)(ob:Obj),x0=rawInt b/\x1=.bool f/\h.get? b=some ob/\b≠J)
def z0t(e:DictEntry):Obj:={cls:=.type "tuple",data:=.seq #[e.key,e.val]}
def RawJ.lt{J D:Addr}(y:RawJ h J D i n ep):J<h.objs.size:=let ⟨_,_,_,_,e,_⟩:=y;zae e
def Nc(h:Heap)(rows:Array DictEntry)(J:Addr)(as:List Addr):Prop:=(∀a∈as,J<a)/\as.Nodup/\∀(j:Nat) a,as[j]?=some a->∃e,rows[j]?=some e/\h.get? a=some (z0t e)
def Nc.lt{h:Heap}{rows:Array DictEntry}{J a:Addr}{as:List Addr}(p:Nc h rows J as)(m:a∈as):a<h.objs.size:=by
 obtain⟨j,q⟩:=List.getElem?_of_mem m;obtain⟨e,_,g⟩:=p.2.2 j a q;exact zae g
end
def Km{α:Type}{a:Addr}{k:Option Obj->Sem α}{Q:α->Shared->Prop}{E:Value->Shared->Prop}{s:Shared}(h:wpAny M A (k (s.heap.get? a)) Q E s):wpAny M A (Sem.loadIfAlive a k) Q E s:=λY p j=>by
 rw[Sem.wp_loadIfAlive];exact h Y p j
def ZipF(h:Heap)(z ti to a:Addr)(j:Bool):Prop:=h.get? z=some {cls:=.type "zip",dict:=none,data:=.fields #[rawInt a,.bool j,.bool false,.ref ti,.ref to],slots:=#[]}
def O8{q:Bool}{o:Obj}{Q:Bool->Shared->Prop}(j:ZipF s.heap z ti to a q)(M:s.heap.get? a=some o)(B:∀ g,ZipF g z ti to a true->Heap.SameBut z s.heap g->Q false {s with heap:=g}):wpAny (model P w) A (Builtin.SmallTypes.ownedTupleIsFree (.ref z)) Q E s:=by
 unfold Builtin.SmallTypes.ownedTupleIsFree;refine zaa (wpAny_field j rfl (x:=rawInt a) rfl ?_);show wpAny _ _ (Sem.loadIfAlive (Int.toNat (a:Int)) _) _ _ _;refine Km ?_;rw[Int.toNat_natCast,M];show wpAny _ _ (field (.ref z) 1 >>= _) _ _ _;refine zaa (wpAny_field j rfl (x:=.bool q) rfl ?_);cases q with
 |true=>exact zab (B s.heap j (Heap.SameBut.refl _ _))
 |false =>
  show wpAny _ _ (setField (.ref z) 1 (.bool true) >>= _) _ _ _;refine zaa (wpAny_setField_rec j (by simp) λg I s1=>?_)
  exact zab (B g I s1)
def Rr{b1 b2:Bool}{z ti to i1 i2 l1 l2 a:Addr}{fb:Bool}{o:Obj}{k:Nat}{xs ys:Array Value}{x y:Value}{Q:Value->Shared->Prop}(n1:i1≠z)(n2:i2≠z)(j:i1≠i2)(nt:ti≠z)(a1:ti≠i1)(M:l1≠z)(B:l2≠z)(I:l2≠i1)(N:ZipF s.heap z ti to a fb)(ha:s.heap.get? a=some o)(Z:IsPair s.heap ti (.ref i1) (.ref i2))(h1:ItAt b1 s.heap i1 l1 k)(h2:ItAt b2 s.heap i2 l2 k)(t1:SqAt b1 s.heap l1 xs)(t2:SqAt b2 s.heap l2 ys)(hx:xs[k]?=some x)(hy:ys[k]?=some y)(hQ:∀ g,ZipF g z ti to a true->ItAt b1 g i1 l1 (k+1)->ItAt b2 g i2 l2 (k+1)->IsPair g s.heap.objs.size x y->g.objs.size=s.heap.objs.size+1->(∀ c o,c≠z->c≠i1->c≠i2->s.heap.get? c=some o->g.get? c=some o)->Q (.ref s.heap.objs.size) {s with heap:=g}) :
  wpAny (model P w) A (Builtin.«zip.__next__» ⟨[.ref z],[]⟩) (λa0 s'=>∃v,a0=.done (.ret v)/\Q v s') E s:=by
 show wpAny _ _ (field (.ref z) 2 >>= _) _ _ _;refine zaa (wpAny_field N rfl (x:=.bool false) rfl ?_);show wpAny _ _ (field (.ref z) 3 >>= _) _ _ _;refine zaa (wpAny_field N rfl (x:=.ref ti) rfl ?_);refine zaa (wpAny_seqItems Z rfl ?_);show wpAny _ _ (Builtin.SmallTypes.ownedTupleIsFree (.ref z) >>= _) _ _ _;refine zaa (O8 N ha λg1 z1 s1=>?_);simp only[Bool.false_eq_true,if_false];refine zaa ?_;rw[<- Array.forIn_toList];simp only[List.forIn_cons,List.forIn_nil];refine zaa (zaa (wpAny_holding ?_));show wpAny _ _ (Builtin.SmallTypes.nextOf (.ref i1) >>= _) _ _ _;refine zaa (uh (h1.at λo e=>s1.extBut _ o n1 e) (t1.at λo e=>s1.extBut _ o M e) hx λg2 p2 s2=>zab (zab ?_));refine zaa (zaa (wpAny_holding ?_));show wpAny _ _ (Builtin.SmallTypes.nextOf (.ref i2) >>= _) _ _ _;refine zaa (uh (h2.at λo e=>s2.extBut _ o j.symm (s1.extBut _ o n2 e)) (t2.at λo e=>s2.extBut _ o I (s1.extBut _ o B e)) hy λg3 p3 q=>zab (zab (zab ?_)));show wpAny _ _ (newTuple [x,y] >>= _) _ _ _;refine zaa (wpAny_newTuple ?_);have sz:g3.objs.size=s.heap.objs.size:=by rw[q.1,s2.1,s1.1]
 refine zab ⟨_,rfl,?_⟩;show Q (.ref g3.objs.size) _;rw[sz];have up:∀c o,c≠z->c≠i1->c≠i2->s.heap.get? c=some o->(g3.push {cls:=.type "tuple",data:=.seq #[x,y]}).get? c=some o:=λc o c1 c2 c3 e=>zac _ (q.extBut _ _ c3 (s2.extBut _ _ c2 (s1.extBut _ _ c1 e)));refine hQ _ (zac _ (q.extBut _ _ n2.symm (s2.extBut _ _ n1.symm z1))) ((p2.at λo e=>q.extBut _ o j e).at λo e=>zac _ e) (p3.at λo e=>zac _ e) ?_ (by rw[Heap.size_push,sz]) up
 have:=zad g3 (o:=({cls:=.type "tuple",data:=.seq #[x,y]}:Obj)) rfl;rw[sz]at this;exact this
def Nh{b1 b2:Bool}{z ti to i1 i2 l1 l2 a:Addr}{o:Obj}{xs:Array Value}{Q:Fin->Shared->Prop}(hh:A.handled=none)(n1:i1≠z)(j:l1≠z)(B:ZipF s.heap z ti to a fb)(ha:s.heap.get? a=some o)(I:IsPair s.heap ti (.ref i1) (.ref i2))(h1:ItAt b1 s.heap i1 l1 k)(M:SqAt b1 s.heap l1 xs)(Z:xs[k]?=none)(hE:∀ g e,(∀ c o,c≠z->c≠i1->s.heap.get? c=some o->g.get? c=some o)->(∃ o,g.get? e=some o/\o.cls=.type "StopIteration")->E (.ref e) {s with heap:=g}) :
  wpAny (model P w) A (Builtin.«zip.__next__» ⟨[.ref z],[]⟩) Q E s:=by
 show wpAny _ _ (field (.ref z) 2 >>= _) _ _ _;refine zaa (wpAny_field B rfl (x:=.bool false) rfl ?_);show wpAny _ _ (field (.ref z) 3 >>= _) _ _ _;refine zaa (wpAny_field B rfl (x:=.ref ti) rfl ?_);refine zaa (wpAny_seqItems I rfl ?_);show wpAny _ _ (Builtin.SmallTypes.ownedTupleIsFree (.ref z) >>= _) _ _ _;refine zaa (O8 B ha λg1 z1 s1=>?_);simp only[Bool.false_eq_true,if_false];refine zaa ?_;rw[<- Array.forIn_toList];simp only[List.forIn_cons,List.forIn_nil];refine zaa (zaa (wpAny_holding ?_));show wpAny _ _ (Builtin.SmallTypes.nextOf (.ref i1) >>= _) _ _ _;refine zaa (gd hh (h1.at λo e=>s1.extBut _ o n1 e) (M.at λo e=>s1.extBut _ o j e) Z λg2 e N he=>?_);exact hE g2 e (λc o c1 c2 q=>N c o c2 (s1.extBut _ _ c1 q)) he
def Ss{o:Obj}{xs ys:Array Value}{x y:Value}{Q:Option Value->Shared->Prop}(n1:i1≠z)(n2:i2≠z)(q:i1≠i2)(nt:ti≠z)(j:ti≠i1)(M:l1≠z)(B:l2≠z)(I:l2≠i1)(Z:ZipF s.heap z ti to a fb)(ha:s.heap.get? a=some o)(N:IsPair s.heap ti (.ref i1) (.ref i2))(h1:ItAt b1 s.heap i1 l1 k)(h2:ItAt b2 s.heap i2 l2 k)(t1:SqAt b1 s.heap l1 xs)(t2:SqAt b2 s.heap l2 ys)(hx:xs[k]?=some x)(hy:ys[k]?=some y)(hQ:∀ g,ZipF g z ti to a true->ItAt b1 g i1 l1 (k+1)->ItAt b2 g i2 l2 (k+1)->IsPair g s.heap.objs.size x y->g.objs.size=s.heap.objs.size+1->(∀ c o,c≠z->c≠i1->c≠i2->s.heap.get? c=some o->g.get? c=some o)->Q (some (.ref s.heap.objs.size)) {s with heap:=g}) :
  wpAny (model P w) A (pyNext (.ref z)) Q E s:=by
 have ty:s.TypeIs (.ref z) "zip":=⟨_,Z,rfl⟩;unfold pyNext;exact zaa (wpAny_attempt (wpAny_callSpecial?_slot (name:=Str.ofString "__next__") ty F.slot_zip_next (wpAny_call_entry F.slot_zip_next ty F.entry_zip_next (Rr n1 n2 q nt j M B I Z ha N h1 h2 t1 t2 hx hy λg q1 q2 q3 q4 q5 q6=>zab (hQ g q1 q2 q3 q4 q5 q6)) (F.args_zip_next_1 _))))
def Pd{o:Obj}{xs:Array Value}{Q:Option Value->Shared->Prop}(Z:A.handled=none)(n1:i1≠z)(j:l1≠z)(B:ZipF s.heap z ti to a fb)(ha:s.heap.get? a=some o)(q:IsPair s.heap ti (.ref i1) (.ref i2))(h1:ItAt b1 s.heap i1 l1 k)(I:SqAt b1 s.heap l1 xs)(N:xs[k]?=none)(hQ:∀ g,(∀ c o,c≠z->c≠i1->s.heap.get? c=some o->g.get? c=some o)->Q none {s with heap:=g}):wpAny (model P w) A (pyNext (.ref z)) Q E s:=by
 have ty:s.TypeIs (.ref z) "zip":=⟨_,B,rfl⟩;unfold pyNext;refine zaa (wpAny_attempt (wpAny_callSpecial?_slot (name:=Str.ofString "__next__") ty F.slot_zip_next (wpAny_call_entry F.slot_zip_next ty F.entry_zip_next (Nh (b2:=b1) (l2:=l1) Z n1 j B ha q h1 I N λg e M he=>?_) (F.args_zip_next_1 _))));obtain⟨o,ho,hc⟩:=he;refine zaa (wpAny_isInstance (T:="StopIteration") (b:=true) ⟨o,ho,hc⟩ isSubtype_stop ?_);exact zab (hQ _ M)
def PairsZ(h:Heap)(xs ys:Array Value)(J:Addr)(as:List Addr):Prop:=(∀a∈as,J<a)/\as.Nodup/\∀(j:Nat) a,as[j]?=some a->∃x y,xs[j]?=some x/\ys[j]?=some y/\IsPair h a x y
def PairsZ.lt{h:Heap}{xs ys:Array Value}{J a:Addr}{as:List Addr}(p:PairsZ h xs ys J as)(m:a∈as):a<h.objs.size:=by
 obtain⟨j,q⟩:=List.getElem?_of_mem m;obtain⟨x,y,_,_,g⟩:=p.2.2 j a q;exact zae g
def PairsZ.alive{h:Heap}{xs ys:Array Value}{J a:Addr}{as:List Addr}(p:PairsZ h xs ys J as)(m:a∈as):∃o,h.get? a=some o:=by
 obtain⟨j,q⟩:=List.getElem?_of_mem m;obtain⟨x,y,_,_,g⟩:=p.2.2 j a q;exact⟨_,g⟩
def PairsZ.to{h k:Heap}{xs ys:Array Value}{J:Addr}{as:List Addr}(p:PairsZ h xs ys J as)(f:∀ a o,a∈as->h.get? a=some o->k.get? a=some o):PairsZ k xs ys J as :=
 ⟨p.1,p.2.1,λj a e=>let ⟨x,y,e1,e2,g⟩:=p.2.2 j a e;⟨x,y,e1,e2,f a _ (zan e) g⟩⟩
def PairsZ.snoc{h:Heap}{xs ys:Array Value}{J a:Addr}{as:List Addr}{x y:Value}(p:PairsZ h xs ys J as)(Z:J<a)(B:a∉as)(ex:xs[as.length]?=some x)(ey:ys[as.length]?=some y)(g:IsPair h a x y):PairsZ h xs ys J (as++[a]):=by
 refine⟨λb N=>?_,?_,λj b q=>?_⟩
 ·rcases zas.mp N with m|m
  ·exact p.1 b m
  rw[List.mem_singleton.mp m];exact Z
 ·rw[List.nodup_append];refine⟨p.2.1,by simp,λx M y I z=>?_⟩
  rw[List.mem_singleton.mp I]at z;subst z;exact B M
 by_cases hl:j<as.length
 ·rw[List.getElem?_append_left hl]at q;exact p.2.2 j b q
 have:j=as.length:=by
  have:=(zag.mp q).1;simp at this;omega
 subst this;have eb:a=b:=by simpa using q
 subst eb;exact⟨x,y,ex,ey,g⟩
def ZS(b1 b2:Bool)(z ti to i1 i2 l1 l2:Addr)(as:List Addr)(i:Nat)(h:Heap):Prop :=
 (i=0/\ZAt b1 b2 h z ti to i1 i2 l1 l2 .none 0)\/(∃a fb,a∈as/\ZipF h z ti to a fb/\IsPair h ti (.ref i1) (.ref i2)/\ItAt b1 h i1 l1 i/\ItAt b2 h i2 l2 i)
def ZS.to{b1 b2:Bool}{z ti to i1 i2 l1 l2:Addr}{as:List Addr}{i:Nat}{h g:Heap}(Z:ZS b1 b2 z ti to i1 i2 l1 l2 as i h)(k:∀ c o,(c=z\/c=ti\/c=to\/c=i1\/c=i2)->h.get? c=some o->g.get? c=some o):ZS b1 b2 z ti to i1 i2 l1 l2 as i g:=by
 rcases Z with⟨e,Z⟩|⟨a,N,m,B,I,M,p2⟩
 ·obtain⟨q,its,⟨a,b,out⟩,one,j⟩:=Z;exact .inl ⟨e,k _ _ (.inl rfl) q,k _ _ (.inr (.inl rfl)) its,⟨a,b,k _ _ (.inr (.inr (.inl rfl))) out⟩,one.at λo e=>k _ o (.inr (.inr (.inr (.inl rfl)))) e,j.at λo e=>k _ o (.inr (.inr (.inr (.inr rfl)))) e⟩
 exact .inr ⟨a,N,m,k _ _ (.inl rfl) B,k _ _ (.inr (.inl rfl)) I,M.at λo e=>k _ o (.inr (.inr (.inr (.inl rfl)))) e,p2.at λo e=>k _ o (.inr (.inr (.inr (.inr rfl)))) e⟩
section
variable{b1 b2:Bool}{z ti to i1 i2 l1 l2 S:Addr}{xs ys:Array Value}
def Ha{as:List Addr}{i:Nat}{x y:Value}{Q:Option Value->Shared->Prop}(D:ZNe z ti to i1 i2)(d1:ZOff z to i1 i2 l1)(d2:ZOff z to i1 i2 l2)(Z:ZS b1 b2 z ti to i1 i2 l1 l2 as i s.heap)(pa:PairsZ s.heap xs ys S as)(I:SqAt b1 s.heap l1 xs)(B:SqAt b2 s.heap l2 ys)(hx:xs[i]?=some x)(N:ys[i]?=some y)(hQ:∀ g,ZS b1 b2 z ti to i1 i2 l1 l2 (as++[s.heap.objs.size]) (i+1) g->IsPair g s.heap.objs.size x y->(∀ c o,ZOff z to i1 i2 c->s.heap.get? c=some o->g.get? c=some o)->Q (some (.ref s.heap.objs.size)) {s with heap:=g}) :
  wpAny (model P w) A (pyNext (.ref z)) Q E s:=by
 rcases Z with⟨rfl,Z⟩|⟨a,fb,m,z1,ht,p1,p2⟩
 ·refine Yy D d1 d2 Z I B hx N λg j pr kp=>hQ g (.inr ⟨s.heap.objs.size,false,List.mem_append_right _ (List.mem_singleton.mpr rfl),j.zz,j.its,j.one,j.two⟩) pr kp
 obtain⟨o,ho⟩:=pa.alive m;refine Ss D.ad D.ae D.de D.ab D.bd d1.1 d2.1 d2.2.2.1 z1 ho ht p1 p2 I B hx N λg q1 q2 q3 q4 q5 M=>hQ g (.inr ⟨a,true,List.mem_append_left _ m,q1,M _ _ D.ab D.bd D.be ht,q2,q3⟩) q4 λc o q e=>M c o q.1 q.2.2.1 q.2.2.2 e
def D8{as:List Addr}{i:Nat}{Q:Option Value->Shared->Prop}(I:A.handled=none)(D:ZNe z ti to i1 i2)(d1:ZOff z to i1 i2 l1)(d2:ZOff z to i1 i2 l2)(Z:ZS b1 b2 z ti to i1 i2 l1 l2 as i s.heap)(pa:PairsZ s.heap xs ys S as)(j:SqAt b1 s.heap l1 xs)(t2:SqAt b2 s.heap l2 ys)(B:xs[i]?=none)(M:∀ g,(∀ c o,ZOff z to i1 i2 c->s.heap.get? c=some o->g.get? c=some o)->Q none {s with heap:=g}):wpAny (model P w) A (pyNext (.ref z)) Q E s:=by
 rcases Z with⟨rfl,Z⟩|⟨a,fb,m,N,ht,p1,p2⟩
 ·exact T1 I D d1 d2 Z j t2 (.inl B) M
 obtain⟨o,ho⟩:=pa.alive m;exact Pd I D.ad d1.1 N ho ht p1 j B λg k=>M g λc o q e=>k c o q.1 q.2.2.1 e
end
section
end
structure Gt(H H':Hp):Prop where
 tups:∀b xs,H b=some (.tup xs)->H' b=some (.tup xs)
 frzs:∀b o u,H b=some (.frz o u)->H' b=some (.frz o u)
def Gt.trans{H H1 H2:Hp}(a:Gt H H1)(b:Gt H1 H2):Gt H H2:=⟨λc xs h=>b.tups c xs (a.tups c xs h),λc o u h=>b.frzs c o u (a.frzs c o u h)⟩
def Gt.same{H H':Hp}(s:Same H H'):Gt H H':=⟨λb xs h=>s b _ h,λb o u h=>s b _ h⟩
variable{O':List Addr}
def Qb{a:Addr}{xs:List V}(g:Gt H H')(h:SqR K H a xs):SqR K H' a xs:=by
 refine⟨?_,g.tups _ _ h.2⟩;rcases h.1 with(h|⟨o,h⟩)|h
 ·exact .inl (.inl (g.tups _ _ h))
 ·exact .inl (.inr ⟨o,g.frzs _ _ _ h⟩)
 exact .inr h
def J6{a:Addr}{ns:List Int}(g:Gt H H')(h:Scr K H a ns):Scr K H' a ns:=by
 rcases h with⟨o,h⟩|h
 ·exact .inl ⟨o,g.frzs _ _ _ h⟩
 exact .inr h
mutual
theorem Rep.keep(g:Gt H H'):∀(d:D)(v:V),zl d->Rep K H O d v->Rep K H' O' d v
 |.non,_,_,h=>h
 |.bl _,_,_,h=>h
 |.int _,_,_,h=>h
 |.str _,_,_,h=>h
 |.ty _,_,_,h=>h
 |.cn _,_,_,h=>h
 |.tup ds,v,p,h=>by
  obtain⟨a,xs,e,q,r⟩:=h;exact⟨a,xs,e,Qb g q,Reps.keep g ds xs p r⟩
 |.scr ns,v,_,h=>by
  obtain⟨a,e,q⟩:=h;exact⟨a,e,J6 g q⟩
 |.lst ds,v,p,h=>p.elim
 |.dk ks ds,v,p,h=>p.elim
 |.ob C ns ds,v,p,h=>p.elim
theorem Reps.keep(g:Gt H H'):∀(ds:List D)(xs:List V),zp ds->Reps K H O ds xs->Reps K H' O' ds xs
 |[],_,_,h=>h
 |d::ds,xs,p,h=>by
  obtain⟨v,r,e,q,t⟩:=h;exact⟨v,r,e,Rep.keep g d v p.1 q,Reps.keep g ds r p.2 t⟩
end
mutual
def Ft(K:W.Frag)(H:Hp):D->V->List Addr->Prop
 |.lst ds,v,A=>∃a xs B,v=.ref a/\H a=some (.lst xs)/\A=a::B/\Fts K H ds xs B
 |.dk ks ds,v,A=>∃a xs B,v=.ref a/\H a=some (.dK (ks.zip xs))/\ks.length=ds.length/\ks.Nodup/\A=a::B/\Fts K H ds xs B
 |.tup ds,v,A=>∃a xs,v=.ref a/\SqR K H a xs/\Fts K H ds xs A
 |.non,v,A=>A=[]/\v=.non
 |.bl b,v,A=>A=[]/\v=.bl b
 |.int i,v,A=>A=[]/\v=.int i
 |.str x,v,A=>A=[]/\v=.str x
 |.ty n,v,A=>A=[]/\v=.ty n
 |.cn c,v,A=>A=[]/\CRep K c v
 |.scr ns,v,A=>A=[]/\∃a,v=.ref a/\Scr K H a ns
 |.ob C ns ds,v,A=>∃a dx xs B,v=.ref a/\H a=some (.ins C dx (ns.zip xs))/\ns.length=ds.length/\ns.Nodup/\A=a::B/\Fts K H ds xs B
def Fts(K:W.Frag)(H:Hp):List D->List V->List Addr->Prop
 |[],xs,A=>xs=[]/\A=[]
 |d::ds,xs,A=>∃v r B C,xs=v::r/\A=B++C/\Ft K H d v B/\Fts K H ds r C
end
mutual
theorem Ft.keep(g:Gt H H'):∀(d:D)(v:V)(A:List Addr),(∀a∈A,∀u,H a=some u->H' a=some u)->Ft K H d v A->Ft K H' d v A
 |.lst ds,v,A,k,h=>by
  obtain⟨a,xs,B,e,q,rfl,r⟩:=h;exact⟨a,xs,B,e,k a zao _ q,rfl,Fts.keep g ds xs B (λb j=>k b (zal _ j)) r⟩
 |.dk ks ds,v,A,k,h=>by
  obtain⟨a,xs,B,e,q,l,n,rfl,r⟩:=h;exact⟨a,xs,B,e,k a zao _ q,l,n,rfl,Fts.keep g ds xs B (λb j=>k b (zal _ j)) r⟩
 |.tup ds,v,A,k,h=>by
  obtain⟨a,xs,e,q,r⟩:=h;exact⟨a,xs,e,Qb g q,Fts.keep g ds xs A k r⟩
 |.non,_,_,_,h=>h
 |.bl _,_,_,_,h=>h
 |.int _,_,_,_,h=>h
 |.str _,_,_,_,h=>h
 |.ty _,_,_,_,h=>h
 |.cn _,_,_,_,h=>h
 |.scr ns,v,A,_,h=>by
  obtain⟨e,a,e2,q⟩:=h;exact⟨e,a,e2,J6 g q⟩
 |.ob C ns ds,v,A,k,h=>by
  obtain⟨a,dx,xs,B,e,q,l,n,rfl,r⟩:=h;exact⟨a,dx,xs,B,e,k a zao _ q,l,n,rfl,Fts.keep g ds xs B (λb j=>k b (zal _ j)) r⟩
theorem Fts.keep(g:Gt H H'):∀(ds:List D)(xs:List V)(A:List Addr),(∀a∈A,∀u,H a=some u->H' a=some u)->Fts K H ds xs A->Fts K H' ds xs A
 |[],_,_,_,h=>h
 |d::ds,xs,A,k,h=>by
  obtain⟨v,r,B,C,e,rfl,q,t⟩:=h;exact⟨v,r,B,C,e,rfl,Ft.keep g d v B (λb j=>k b (List.mem_append_left _ j)) q,Fts.keep g ds r C (λb j=>k b (List.mem_append_right _ j)) t⟩
end
mutual
theorem Ft.rep:∀(d:D)(v:V)(A:List Addr),(∀a∈A,a∉O)->Ft K H d v A->Rep K H O d v
 |.lst ds,v,A,k,h=>by
  obtain⟨a,xs,B,e,q,rfl,r⟩:=h;exact⟨a,xs,e,q,k a zao,Fts.reps ds xs B (λb j=>k b (zal _ j)) r⟩
 |.dk ks ds,v,A,k,h=>by
  obtain⟨a,xs,B,e,q,l,n,rfl,r⟩:=h;exact⟨a,xs,e,q,k a zao,l,n,Fts.reps ds xs B (λb j=>k b (zal _ j)) r⟩
 |.tup ds,v,A,k,h=>by
  obtain⟨a,xs,e,q,r⟩:=h;exact⟨a,xs,e,q,Fts.reps ds xs A k r⟩
 |.non,_,_,_,h=>h.2
 |.bl _,_,_,_,h=>h.2
 |.int _,_,_,_,h=>h.2
 |.str _,_,_,_,h=>h.2
 |.ty _,_,_,_,h=>h.2
 |.cn _,_,_,_,h=>h.2
 |.scr ns,v,A,_,h=>h.2
 |.ob C ns ds,v,A,k,h=>by
  obtain⟨a,dx,xs,B,e,q,l,n,rfl,r⟩:=h;exact⟨a,dx,xs,e,q,k a zao,l,n,Fts.reps ds xs B (λb j=>k b (zal _ j)) r⟩
theorem Fts.reps:∀(ds:List D)(xs:List V)(A:List Addr),(∀a∈A,a∉O)->Fts K H ds xs A->Reps K H O ds xs
 |[],_,_,_,h=>h.1
 |d::ds,xs,A,k,h=>by
  obtain⟨v,r,B,C,e,rfl,q,t⟩:=h;exact⟨v,r,e,Ft.rep d v B (λb j=>k b (List.mem_append_left _ j)) q,Fts.reps ds r C (λb j=>k b (List.mem_append_right _ j)) t⟩
end
mutual
theorem Ft.dom:∀(d:D)(v:V)(A:List Addr),Ft K H d v A->∀a∈A,∃u,H a=some u/\(∀xs,u≠.tup xs)/\∀ob w,u≠.frz ob w
 |.lst ds,v,A,h=>by
  obtain⟨a,xs,B,e,q,rfl,r⟩:=h;intro b I;rcases zam.mp I with rfl|I
  ·exact⟨_,q,(λ_ z=>by cases z),λ_ _ z=>by cases z⟩
  exact Fts.dom ds xs B r b I
 |.dk ks ds,v,A,h=>by
  obtain⟨a,xs,B,e,q,l,n,rfl,r⟩:=h;intro b I;rcases zam.mp I with rfl|I
  ·exact⟨_,q,(λ_ z=>by cases z),λ_ _ z=>by cases z⟩
  exact Fts.dom ds xs B r b I
 |.tup ds,v,A,h=>by
  obtain⟨a,xs,e,q,r⟩:=h;exact Fts.dom ds xs A r
 |.non,_,_,h=>by obtain⟨rfl,_⟩:=h;intro a j;cases j
 |.bl _,_,_,h=>by obtain⟨rfl,_⟩:=h;intro a j;cases j
 |.int _,_,_,h=>by obtain⟨rfl,_⟩:=h;intro a j;cases j
 |.str _,_,_,h=>by obtain⟨rfl,_⟩:=h;intro a j;cases j
 |.ty _,_,_,h=>by obtain⟨rfl,_⟩:=h;intro a j;cases j
 |.cn _,_,_,h=>by obtain⟨rfl,_⟩:=h;intro a j;cases j
 |.scr _,_,_,h=>by obtain⟨rfl,_⟩:=h;intro a j;cases j
 |.ob C ns ds,v,A,h=>by
  obtain⟨a,dx,xs,B,e,q,l,n,rfl,r⟩:=h;intro b I;rcases zam.mp I with rfl|I
  ·exact⟨_,q,(λ_ z=>by cases z),λ_ _ z=>by cases z⟩
  exact Fts.dom ds xs B r b I
theorem Fts.dom:∀(ds:List D)(xs:List V)(A:List Addr),Fts K H ds xs A->∀a∈A,∃u,H a=some u/\(∀xs,u≠.tup xs)/\∀ob w,u≠.frz ob w
 |[],_,_,h=>by obtain⟨_,rfl⟩:=h;intro a I;cases I
 |d::ds,xs,A,h=>by
  obtain⟨v,r,B,C,e,rfl,q,t⟩:=h;intro b j;rcases zas.mp j with j|j
  ·exact Ft.dom d v B q b j
  exact Fts.dom ds r C t b j
end
mutual
theorem Rep.ft:∀(d:D)(v:V),zl d->Rep K H O d v->Ft K H d v []
 |.non,_,_,h=>⟨rfl,h⟩
 |.bl _,_,_,h=>⟨rfl,h⟩
 |.int _,_,_,h=>⟨rfl,h⟩
 |.str _,_,_,h=>⟨rfl,h⟩
 |.ty _,_,_,h=>⟨rfl,h⟩
 |.cn _,_,_,h=>⟨rfl,h⟩
 |.tup ds,v,p,h=>by
  obtain⟨a,xs,e,q,r⟩:=h;exact⟨a,xs,e,q,Reps.fts ds xs p r⟩
 |.scr ns,v,_,h=>⟨rfl,h⟩
 |.lst ds,v,p,h=>p.elim
 |.dk ks ds,v,p,h=>p.elim
 |.ob C ns ds,v,p,h=>p.elim
theorem Reps.fts:∀(ds:List D)(xs:List V),zp ds->Reps K H O ds xs->Fts K H ds xs []
 |[],_,_,h=>⟨h,rfl⟩
 |d::ds,xs,p,h=>by
  obtain⟨v,r,e,q,t⟩:=h;exact⟨v,r,[],[],e,rfl,Rep.ft d v p.1 q,Reps.fts ds r p.2 t⟩
end
def hid:Nat->DE->DE
 |_,[]=>[]
 |0,_::L=>none::L
 |l+1,x::L=>x::hid l L
theorem ux:∀(l:Nat)(L:DE),hid l L=L.set l none
 |_,[]=>by cases ‹Nat› <;> rfl
 |0,_::_=>rfl
 |l+1,x::L=>by rw[hid,ux l L,List.set_cons_succ]
def ka{l i:Nat}{L:DE}{r:EV}(h:(hid l L)[i]?=some (some r)):i≠l/\L[i]?=some (some r):=by
 rw[ux]at h;by_cases e:i=l
 ·subst e;rcases Nat.lt_or_ge i L.length with z|z
  ·rw[List.getElem?_set_self z]at h;cases h
  rw[List.getElem?_eq_none (by rw[List.length_set];exact z)]at h;cases h
 rw[List.getElem?_set_ne (Ne.symm e)]at h;exact⟨e,h⟩
def O2{l i:Nat}{L:DE}(h:i≠l):(hid l L)[i]?=L[i]?:=by
 rw[ux,List.getElem?_set_ne (Ne.symm h)]
def Zr(l:Nat)(L:DE)(x:EV):hid l (setS L l x)=hid l L:=by
 rw[ux,ux,xx,List.set_set]
def si{l j:Nat}(L:DE)(x:EV)(h:j≠l):hid l (setS L j x)=setS (hid l L) j x:=by
 rw[ux,ux,xx,xx,List.set_comm _ _ h]
def tg(l:Nat)(A:List Addr):List (Nat×Addr):=A.map λa=>(l,a)
def De(l:Nat)(A:List Addr):(tg l A).map Prod.snd=A:=by
 unfold tg;rw[List.map_map];exact List.map_id A
def wc(o:List (Nat×Addr))(l:Nat)(A:List Addr):(o++tg l A).map Prod.snd=o.map Prod.snd++A:=by
 rw[zMa,De]
structure ST(K:W.Frag)(H_ H:Hp)(G:St)(L:DE)(o:List (Nat×Addr))(l:Nat)(A:List Addr)(d:D)(v:V):Prop where
 Q:REnv K H_ H G (hid l L) (o++tg l A)
 hd:L[l]?=some (some (dv d))
 hv:G[l]?=some (some v)
 ft:Ft K H d v A
section
variable{o:List (Nat×Addr)}{l:Nat}{A A':List Addr}{d d':D}
def ST.lt(S:ST K H_ H G L o l A d v):l<L.length:=(zag.mp S.hd).1
def ST.ndA(S:ST K H_ H G L o l A d v):A.Nodup:=by
 have:=S.Q.nda;rw[wc]at this;exact(List.nodup_append.mp this).2.1
def ST.dis(S:ST K H_ H G L o l A d v):∀a∈A,a∉o.map Prod.snd:=λa q j=>by
 have:=S.Q.nda;rw[wc]at this;exact(List.nodup_append.mp this).2.2 a j a q rfl
def ST.frA(S:ST K H_ H G L o l A d v):∀a∈A,H_ a=none:=λa j=>S.Q.fresh (l,a) (List.mem_append_right _ (zah.mpr ⟨a,j,rfl⟩))
def Bi{i l:Nat}{a:Addr}(h:(i,a)∈o++tg l A)(hi:i≠l):(i,a)∈o:=by
 rcases zas.mp h with h|h
 ·exact h
 obtain⟨b,_,e⟩:=zah.mp h;cases e;exact absurd rfl hi
def ST.R(S:ST K H_ H G L o l A d v):REnv K H_ H G L o where
 same:=S.Q.same
 fresh:=λp j=>S.Q.fresh p (List.mem_append_left _ j)
 trk:=λp j=>S.Q.trk p (List.mem_append_left _ j)
 mtb:=λp j=>S.Q.mtb p (List.mem_append_left _ j)
 nda:=by
  have:=S.Q.nda;rw[wc]at this;exact(List.nodup_append.mp this).1
 len:=by
  have:=S.Q.len;rw[ux,List.length_set]at this;exact this
 slots:=λi r e=>by
  by_cases hi:i=l
  ·subst hi;rw[S.hd]at e;cases e;exact⟨v,S.hv,.inl ⟨rfl,Ft.rep _ _ _ S.dis S.ft⟩⟩
  obtain⟨w,I,q⟩:=S.Q.slots i r (by rw[O2 hi];exact e)
  rw[wc]at q;have sub:∀a∈o.map Prod.snd,a∈o.map Prod.snd++A:=λa B=>List.mem_append_left _ B;refine⟨w,I,?_⟩;rcases q with⟨k,q⟩|⟨k,a,e1,m,c⟩
  ·exact .inl ⟨k,Rep.sub sub _ _ q⟩
  exact .inr ⟨k,a,e1,Bi m hi,c.sub sub⟩
theorem ST.to(S:ST K H_ H G L o l A d v)(s:Same H H'):ST K H_ H' G L o l A d v :=
 ⟨S.Q.to s,S.hd,S.hv,Ft.keep (Gt.same s) _ _ _ (λa _ u h=>s a u h) S.ft⟩
def Grow.gt{O O':List Addr}(g:Grow O O' H H'):Gt H H':=⟨g.tups,g.frzs⟩
def ST.chg(S:ST K H_ H G L o l A d v)(g:Grow A A' H H')(ft:Ft K H' d' v A')(nd:A'.Nodup)(fr:∀ a∈A',a∈A\/H a=none) :
  ST K H_ H' G (setS L l (dv d')) o l A' d' v:=by
 have hl:=S.lt;have Z:Grow ((o++tg l A).map Prod.snd) ((o++tg l A').map Prod.snd) H H':=by
  rw[wc,wc];exact⟨λb u h n=>⟨(g.keep b u h λz=>n (List.mem_append_right _ z)).1,λz=>(zas.mp z).elim (λz=>n (List.mem_append_left _ z)) (g.keep b u h λz=>n (List.mem_append_right _ z)).2⟩,g.tups,g.frzs⟩
 have I:∀p∈o,p.2∉A:=λp j z=>S.dis _ z (zah.mpr ⟨p,j,rfl⟩);refine⟨⟨λb u h=>?_,λp j=>?_,λp j=>?_,λp j=>?_,?_,λi r e=>?_,?_⟩,?_,S.hv,ft⟩
 ·refine(g.keep b u (S.Q.same b u h) λz=>?_).1;rw[S.frA b z]at h;cases h
 ·rcases zas.mp j with j|j
  ·exact S.Q.fresh p (List.mem_append_left _ j)
  obtain⟨a,B,rfl⟩:=zah.mp j;rcases fr a B with h|h
  ·exact S.frA a h
  exact S.Q.same.free h
 ·rcases zas.mp j with j|j
  ·obtain⟨u,e⟩:=S.Q.trk p (List.mem_append_left _ j);exact⟨u,(g.keep _ _ e (I p j)).1⟩
  obtain⟨a,B,rfl⟩:=zah.mp j;obtain⟨u,hu,_⟩:=Ft.dom _ _ _ ft a B;exact⟨u,hu⟩
 ·rcases zas.mp j with j|j
  ·obtain⟨u,e⟩:=S.Q.trk p (List.mem_append_left _ j);obtain⟨m1,m2⟩:=S.Q.mtb p (List.mem_append_left _ j);have e':=(g.keep _ _ e (I p j)).1;refine⟨λxs z=>?_,λM w z=>?_⟩
   ·rw[e']at z;rw[<- e]at z;exact m1 xs z
   rw[e']at z;rw[<- e]at z;exact m2 M w z
  obtain⟨a,B,rfl⟩:=zah.mp j;obtain⟨u,hu,n1,n2⟩:=Ft.dom _ _ _ ft a B;refine⟨λxs z=>?_,λM w z=>?_⟩
  ·rw[hu]at z;cases z;exact n1 _ rfl
  rw[hu]at z;cases z;exact n2 _ _ rfl
 ·rw[wc,List.nodup_append];refine⟨S.R.nda,nd,λa B b hb e=>?_⟩;subst e;rcases fr a hb with h|h
  ·exact S.dis a h B
  exact S.R.ofree h B
 ·rw[Zr]at e;obtain⟨hi,_⟩:=ka e;obtain⟨w,ew,q⟩:=S.Q.slots i r e;refine⟨w,ew,?_⟩;rcases q with⟨k,q⟩|⟨k,a,e1,m,c⟩
  ·exact .inl ⟨k,Rep.grow Z _ _ q⟩
  have N:=Bi m hi;exact .inr ⟨k,a,e1,List.mem_append_left _ N,c.grow (λu h=>(g.keep _ _ h (I _ N)).1) Z⟩
 ·rw[Zr];exact S.Q.len
 rw[xx,List.getElem?_set_self hl]
def REnv.putX(R:REnv K H_ H G L o)(s:Same H H')(i:Nat){r:EV}{v:V}(h:RV K H H' (o.map Prod.snd) r v)(j:r.k≠.own) :
  ∃pre,REnv K H_ H' (G.set i (some v)) (setS L i r.sto) (pre++o):=by
 obtain⟨k,d⟩:=r;cases k with
 |val=>exact⟨[],(R.to s).setV i h⟩
 |own=>exact absurd rfl j
 |fre =>
  obtain⟨a,rfl,m,n,c⟩:=h;exact⟨[(i,a)],(R.setO s i m c).1⟩
 |new=>exact⟨[],(R.to s).setV i (RepN.rep (λa z=>z.1) _ _ h)⟩
theorem ST.set(S:ST K H_ H G L o l A d v)(s:Same H H'){j:Nat}{r:EV}{w:V}(B:j≠l)(h:RV K H H' ((o++tg l A).map Prod.snd) r w)(I:r.k≠.own) :
  ∃o',ST K H_ H' (G.set j (some w)) (setS L j r.sto) o' l A d v:=by
 obtain⟨q,M⟩:=S.Q.putX s j h I;refine⟨q++o,⟨?_,?_,?_,(S.to s).ft⟩⟩
 ·rw[si _ _ B,List.append_assoc];exact M
 ·rw[xx,List.getElem?_set_ne B];exact S.hd
 rw[List.getElem?_set_ne B];exact S.hv
def ST.setP(S:ST K H_ H G L o l A d v){j:Nat}{e:D}{w:V}(q:j≠l)(B:zl e)(h:Rep K H [] e w):ST K H_ H (G.set j (some w)) (setS L j (dv e)) o l A d v:=by
 refine⟨?_,?_,?_,S.ft⟩
 ·rw[si _ _ q];exact S.Q.setV j (Rep.pure _ _ B h)
 ·rw[xx,List.getElem?_set_ne q];exact S.hd
 rw[List.getElem?_set_ne q];exact S.hv
end
abbrev TQ:=DE->(D->DE->Prop)->Prop
abbrev TQs:=DE->(List D->DE->Prop)->Prop
abbrev TQb:=DE->(Bool->DE->Prop)->Prop
structure QZ where
 nx:DE->Prop
 rt:D->DE->Prop
 bk:DE->Prop:=λ_=>False
 ct:DE->Prop:=λ_=>False
abbrev TQS:=DE->QZ->Prop
def Bn(K:W.Frag)(H_:Hp)(l:Nat)(t:TQ):TE:=λG H Q=>∃L o A d v,ST K H_ H G L o l A d v/\∃U,t L U/\∀u e ρ' H' A' d',Grow A A' H H'->ST K H_ H' G ρ' o l A' d' v->zl e->Rep K H' [] e u->U e ρ'->Q u H'
def Bl(K:W.Frag)(H_:Hp)(l:Nat)(t:TQb):TT:=λG H Q=>∃L o A d v,ST K H_ H G L o l A d v/\∃U,t L U/\∀b ρ' H' A' d',Grow A A' H H'->ST K H_ H' G ρ' o l A' d' v->U b ρ'->Q b H'
def Jj(K:W.Frag)(H_:Hp)(l:Nat)(t:TQs):TA:=λG H Q=>∃L o A d v,ST K H_ H G L o l A d v/\∃U,t L U/\∀us es ρ' H' A' d',Grow A A' H H'->ST K H_ H' G ρ' o l A' d' v->Reps K H' (o.map Prod.snd++A') es us->U es ρ'->Q us H'
def Pn(K:W.Frag)(H_:Hp)(l:Nat)(t:TQS):TS:=λDz G H=>∃L o A d v,ST K H_ H G L o l A d v/\∃Z,t L Z /\
 (∀ρ' σ' H' o' A' d',ST K H_ H' σ' ρ' o' l A' d' v->Z.nx ρ'->Dz.nx σ' H') /\
 (∀ρ' σ' H' o' A' d',ST K H_ H' σ' ρ' o' l A' d' v->Z.bk ρ'->Dz.bk σ' H') /\
 (∀ρ' σ' H' o' A' d',ST K H_ H' σ' ρ' o' l A' d' v->Z.ct ρ'->Dz.ct σ' H') /\
 (∀u e ρ' σ' H' o' A' d',ST K H_ H' σ' ρ' o' l A' d' v->zl e->Rep K H' [] e u->Z.rt e ρ'->Dz.rt u H')
def EQ(G:Hp->Prop)(l:Nat)(X:Cx)(e:Expr)(t:TQ):Prop:=∀H_:{H:Hp // G H},PE X e (Bn X.K H_.1 l t)
def QT(G:Hp->Prop)(l:Nat)(X:Cx)(e:Expr)(t:TQb):Prop:=∀H_:{H:Hp // G H},PT X e (Bl X.K H_.1 l t)
def QA(G:Hp->Prop)(l:Nat)(X:Cx)(es:List Expr)(t:TQs):Prop:=∀H_:{H:Hp // G H},PA X es (Jj X.K H_.1 l t)
def QS(G:Hp->Prop)(l:Nat)(X:Cx)(st:Stmt)(t:TQS):Prop:=∀H_:{H:Hp // G H},PS X st (Pn X.K H_.1 l t)
def QSs(G:Hp->Prop)(l:Nat)(X:Cx)(st:List Stmt)(t:TQS):Prop:=∀H_:{H:Hp // G H},PSs X st (Pn X.K H_.1 l t)
theorem xw:∀{L:DE}{i:Nat}{r:EV},L[i]?=some (some r)->slot L i=some r
 |[],_,_,h=>by cases h
 |_::_,0,_,h=>Option.some.inj h
 |_::L,i+1,r,h=>xw (L:=L) (i:=i) (by simpa using h)
variable{l:Nat}
def qE(te:TD):TQ:=λL U=>te L λr=>zl r.d/\U r.d L
def Xs{te:TD}(h:ED Y X e te):EQ Y l X e (qE te):=λH_=>impE (h H_) λG H Q q=>by
 obtain⟨L,o,A,d,v,S,U,j,k⟩:=q;exact⟨L,o,S.R,_,j,λu r H1 s1 B h1=>k u r.d L H1 A d (Grow.same s1) (S.to s1) h1.1 B.view.rep0 h1.2⟩
def qT(tc:TDb):TQb:=λL U=>tc L λb=>U b L
def u1{tc:TDb}(h:ET Y X e tc):QT Y l X e (qT tc):=λH_=>impT (h H_) λG H Q q=>by
 obtain⟨L,o,A,d,v,S,U,j,k⟩:=q;exact⟨L,o,S.R,_,j,λb H1 s1 h1=>k b L H1 A d (Grow.same s1) (S.to s1) h1⟩
def qB(te:TQ):TQb:=λL U=>te L λd j=>match d with
 |.bl b=>U b j
 |_=>False
def cz{te:TQ}(h:EQ Y l X e te)(M:∀ whole,isTrue e X.env whole=(do let v <- whole;standAt e.pos;holding [v] (truthy v)):=by intro _;rfl):QT Y l X e (qB te):=λH_=>impT (Cd (h H_) M) λG H Q q=>by
 obtain⟨L,o,A,d,v,S,U,B,k⟩:=q;refine⟨L,o,A,d,v,S,_,B,λu r j H1 Z d1 g N pr I h1=>?_⟩;cases r with
 |bl b =>
  cases (show u=_ from I)
  exact⟨b,rfl,k b j H1 Z d1 g N h1⟩
 |_=>exact h1.elim
def Grow.add{H H':Hp}{O A A':List Addr}(g:Grow A A' H H'):Grow (O++A) (O++A') H H' :=
 ⟨λb u h n=>⟨(g.keep b u h λz=>n (List.mem_append_right _ z)).1,λz=>(zas.mp z).elim (λz=>n (List.mem_append_left _ z)) (g.keep b u h λz=>n (List.mem_append_right _ z)).2⟩,g.tups,g.frzs⟩
def Gh:TQs:=λL U=>U [] L
def yr:QA Y l X [] Gh:=λH_=>impA u4 λG H Q q=>by
 obtain⟨L,o,A,d,v,S,U,j,k⟩:=q;exact k [] [] L H A d Grow.refl S rfl j
def J8(te:TQ)(B:TQs):TQs:=λL U=>te L λd q=>B q λds j=>U (d::ds) j
def jw{te:TQ}{N:TQs}(he:EQ Y l X e te)(hr:QA Y l X es N)(hs:S_ X e es:=by rfl):QA Y l X (e::es) (J8 te N):=λH_=>impA (w5 (he H_) (hr H_) hs) λG H Q q=>by
 obtain⟨L,o,A,d,v,S,U,M,k⟩:=q;refine⟨L,o,A,d,v,S,_,M,λu r B H1 A1 d1 g1 S1 pr Z h1=>⟨B,o,A1,d1,v,S1,_,h1,λus rs j H2 A2 d2 g2 S2 I h2=>?_⟩⟩;exact k (u::us) (r::rs) j H2 A2 d2 (g1.trans g2) S2 ⟨u,us,rfl,Rep.keep g2.gt _ _ pr Z,I⟩ h2
def Qt(te:TD)(q:TQs):TQs:=λL U=>te (hid l L) λr=>(match r.k with|.own=>False|_=>True)/\q L λds j=>U (r.d::ds) j
def zr{te:TD}{M:TQs}(he:ED Y X e te)(hr:QA Y l X es M)(hs:S_ X e es:=by rfl):QA Y l X (e::es) (Qt (l:=l) te M):=λH_=>impA (w5 (he H_) (hr H_) hs) λG H Q q=>by
 obtain⟨L,o,A,d,v,S,U,I,k⟩:=q;refine⟨hid l L,_,S.Q,_,I,λu r H1 s1 Z h1=>⟨L,o,A,d,v,S.to s1,_,h1.2,λus rs j H2 A2 d2 g2 S2 B h2=>?_⟩⟩;have N:=Z.solid (vo h1.1);rw[wc]at N;exact k (u::us) (r.d::rs) j H2 A2 d2 ((Grow.same s1).trans g2) S2 ⟨u,us,rfl,Rep.grow g2.add _ _ N,B⟩ h2
section
variable{st:Stmt}{rest a b:List Stmt}{t u:TQS}
def qNil:TQS:=λL Z=>Z.nx L
def qSeq(t u:TQS):TQS:=λL Z=>t L {Z with nx:=λρ'=>u ρ' Z}
def qRet(te:TQ):TQS:=λL Z=>te L Z.rt
def C8(te:TQ):TQS:=λL Z=>te L λ_ j=>Z.nx j
def qIf(tc:TQb)(t u:TQS):TQS:=λL Z=>tc L λb j=>(b=true->t j Z)/\(b=false->u j Z)
def qSet(l j:Nat)(te:TD):TQS:=λL Z=>te (hid l L) λr=>(match r.k with|.own=>False|_=>True)/\Z.nx (setS L j r.sto)
def C4(j:Nat)(te:TQ):TQS:=λL Z=>te L λd q=>Z.nx (setS q j (dv d))
def kq:QSs Y l X [] qNil:=λH_=>Vf Wu λDz G H h=>by
 obtain⟨L,o,A,d,v,S,Z,q,j,M,I,B⟩:=h;exact j L G H o A d S q
def zx(h:QS Y l X st t):QSs Y l X [st] t:=λH_=>jy (h H_)
def yf(h:QS Y l X st t)(hr:QSs Y l X rest u):QSs Y l X (st::rest) (qSeq t u):=λH_=>Vf (u3 (h H_) (hr H_)) λDz G H h=>by
 obtain⟨L,o,A,d,v,S,Z,N,M,B,q,j⟩:=h;exact⟨L,o,A,d,v,S,_,N,λρ' I H' o' A' d' S' h'=>⟨ρ',o',A',d',v,S',Z,h',M,B,q,j⟩,B,q,j⟩
def Um{te:TQ}(h:EQ Y l X e te):QS Y l X (.Return (some e) pos) (qRet te):=λH_=>impS (Us (h H_)) λDz G H h=>by
 obtain⟨L,o,A,d,v,S,Z,I,k1,k2,k3,B⟩:=h;exact⟨L,o,A,d,v,S,_,I,λu r j H1 N d1 g M pr q h1=>B u r j G H1 o N d1 M pr q h1⟩
def C6:TQS:=λL Z=>Z.rt .non L
def Ge:QS Y l X (.Return none pos) C6:=λH_=>impS Gq λDz G H h=>by
 obtain⟨L,o,A,d,v,S,Z,q,M,I,B,j⟩:=h;exact j .non .non L G H o A d S trivial rfl q
def x9{te:TQ}(h:EQ Y l X e te)(hs:swapsWith e none pos.line X.env=pure false:=by rfl):QS Y l X (.Expr e pos) (C8 te):=λH_=>impS (t8 (h H_) hs) λDz G H h=>by
 obtain⟨L,o,A,d,v,S,Z,B,q,k2,k3,k4⟩:=h;exact⟨L,o,A,d,v,S,_,B,λu r j H1 M d1 g I pr N h1=>q j G H1 o M d1 I h1⟩
def vc{tc:TQb}(hc:QT Y l X c tc)(ha:QSs Y l X a t)(hb:QSs Y l X b u):QS Y l X (.If c a b pos) (qIf tc t u):=λH_=>impS (Gr (hc H_) (ha H_) (hb H_)) λDz G H h=>by
 obtain⟨L,o,A,d,v,S,Z,hZ,M,I,B,q⟩:=h;refine⟨L,o,A,d,v,S,_,hZ,λb j H1 A1 d1 g N h1=>?_⟩;cases b with
 |true=>rw[if_pos rfl];exact⟨j,o,A1,d1,v,N,Z,h1.1 rfl,M,I,B,q⟩
 |false=>rw[if_neg (by decide)];exact⟨j,o,A1,d1,v,N,Z,h1.2 rfl,M,I,B,q⟩
def Ul(j:Nat){x:Str}{pos':Pos}{te:TD}(M:j≠l)(hN:X.N.Nodup)(he:ED Y X e te)(hi:X.N[j]?=some x:=by rfl)(I:Loc X.env.scope x:=by first|exact Or.inl rfl|exact Or.inr rfl)(hs:swapsWith e (some (.Name x pos')) pos.line X.env=pure false:=by rfl)(hf:X.fn x=true\/X.env.scope.names.lookup x=some .local:=by first|exact .inl rfl|exact .inr rfl|assumption):QS Y l X (.Assign [.Name x pos'] e pos) (qSet l j te):=λH_=>impS (jz hN hi I (he H_) hs hf) λDz G H h=>by
 obtain⟨L,o,A,d,v,S,Z,hZ,B,k2,k3,k4⟩:=h;refine⟨hid l L,_,S.Q,_,hZ,λw r H1 s1 q h1=>?_⟩;obtain⟨o',S'⟩:=S.set s1 M q (vo h1.1);exact B _ _ H1 o' A d S' h1.2
def qx(j:Nat){x:Str}{pos':Pos}{te:TQ}(hj:j≠l)(hN:X.N.Nodup)(he:EQ Y l X e te)(hi:X.N[j]?=some x:=by rfl)(M:Loc X.env.scope x:=by first|exact Or.inl rfl|exact Or.inr rfl)(hs:swapsWith e (some (.Name x pos')) pos.line X.env=pure false:=by rfl)(hf:X.fn x=true\/X.env.scope.names.lookup x=some .local:=by first|exact .inl rfl|exact .inr rfl|assumption):QS Y l X (.Assign [.Name x pos'] e pos) (C4 j te):=λH_=>impS (jz hN hi M (he H_) hs hf) λDz G H h=>by
 obtain⟨L,o,A,d,v,S,Z,hZ,I,k2,k3,k4⟩:=h;refine⟨L,o,A,d,v,S,_,hZ,λw r q H1 A1 d1 g S1 pr B h1=>?_⟩;exact I _ _ H1 o A1 d1 (S1.setP hj pr B) h1
end
abbrev FTQ:=D->List D->(D->D->Prop)->Prop
def spQ(K:W.Frag)(n:Nat)(T:FTQ):Sp:=λvs H Q _=>∃d ds v ws A U,vs=v::ws/\ds.length+1=n/\Ft K H d v A/\A.Nodup/\Reps K H A ds ws/\T d ds U /\
 ∀u r d' H' A',Grow A A' H H'->Ft K H' d' v A'->A'.Nodup->(∀a∈A',a∈A\/H a=none)->zl r->Rep K H' [] r u->U r d'->Q u H'
def vg(A:List Addr)(H:Hp):Hp:=λb=>if b∈A then none else H b
def qr{A:List Addr}{H:Hp}{b:Addr}(h:b∈A):vg A H b=none:=if_pos h
def xf{A:List Addr}{H:Hp}{b:Addr}(h:b∉A):vg A H b=H b:=if_neg h
def kj(A:List Addr)(H:Hp):Same (vg A H) H:=λb u h=>by
 by_cases hb:b∈A
 ·rw[qr hb]at h;cases h
 rw[xf hb]at h;exact h
section
def Nm{a:Addr}{xs ys:List V}(h:H a=some (.lst xs)):Grow [a] [a] H (upd H a (.lst ys)) :=
 ⟨λb u j n=>⟨by rw[y0 (λz=>n (by rw[z];exact zao))];exact j,n⟩,λb q j=>by rw[y0 (λz=>by rw[z,h]at j;cases j)];exact j,λb B u j=>by rw[y0 (λz=>by rw[z,h]at j;cases j)];exact j⟩
end
def Bm(K:W.Frag)(H_:Hp)(l:Nat)(t:TQs):TE:=λG H Q=>∃L o A d v,ST K H_ H G L o l A d v/\∃U,t L U /\
 ∀a xs es ρ' H' A' d',Grow A A' H H'->ST K H_ H' G ρ' o l A' d' v->H' a=some (.lst xs)->a∉A'->a∉o.map Prod.snd->zp es->Reps K H' [] es xs->U es ρ'->Q (.ref a) H'
def QL(G:Hp->Prop)(l:Nat)(X:Cx)(e:Expr)(t:TQs):Prop:=∀H_:{H:Hp // G H},PE X e (Bm X.K H_.1 l t)
variable{st:Stmt}{t u:TQS}
def qCut(t:TQS):TQS:=λL Z=>∃J:DE->Prop,t L {Z with nx:=J}/\∀ρ',J ρ'->Z.nx ρ'
def xg(h:QS Y l X st t):QS Y l X st (qCut t):=λH_=>impS (h H_) λDz G H h=>by
 obtain⟨L,o,A,d,v,S,Z,⟨J,hZ,hJ⟩,k1,k2,N,M⟩:=h;exact⟨L,o,A,d,v,S,_,hZ,λj q H2 I A2 d2 S2 B=>k1 j q H2 I A2 d2 S2 (hJ j B),k2,N,M⟩
def yw{L:DE}{Z:QZ}(J:DE->Prop)(h1:t L {Z with nx:=J})(h2:∀ ρ2,J ρ2->u ρ2 Z):qSeq (qCut t) u L Z:=⟨J,h1,h2⟩
theorem Fts.length:∀{ds:List D}{xs:List V}{A:List Addr},Fts K H ds xs A->xs.length=ds.length
 |[],_,_,h=>by rw[h.1];rfl
 |d::ds,xs,A,h=>by
  obtain⟨v,r,B,C,rfl,_,_,t⟩:=h;simp[Fts.length t]
theorem Fts.foc:∀{ds:List D}{xs:List V}{A:List Addr}{i:Nat}{d:D},Fts K H ds xs A->ds[i]?=some d->∃w I B C,xs[i]?=some w/\A=B++I++C/\Ft K H d w I /\
  ∀H' e A1',Gt H H'->(∀a∈B++C,∀u,H a=some u->H' a=some u)->Ft K H' e w A1'->Fts K H' (ds.set i e) xs (B++A1'++C)
 |[],_,_,_,_,_,e=>by simp at e
 |d0::ds,xs,A,0,d,h,e=>by
  obtain⟨v,r,B,C,rfl,rfl,q,t⟩:=h;cases (show d0=d from by simpa using e)
  refine⟨v,B,[],C,rfl,rfl,q,λH' e A1' g k f=>⟨v,r,A1',C,rfl,rfl,f,Fts.keep g _ _ _ (λa j=>k a j) t⟩⟩
 |d0::ds,xs,A,i+1,d,h,e=>by
  obtain⟨v,r,B,C,rfl,rfl,q,t⟩:=h;obtain⟨w,I,Z,N,ew,rfl,f,k⟩:=Fts.foc (i:=i) t (by simpa using e)
  refine⟨w,I,B++Z,N,by simpa using ew,by simp,f,λH' e A1' g M f'=>⟨v,r,B,Z++A1'++N,rfl,by simp,Ft.keep g _ _ _ (λa j=>M a (by simp[j])) q,k H' e A1' g (λa j=>M a (by simp at j ⊢;rcases j with j|j <;> simp[j])) f'⟩⟩
theorem Fts.put:∀{ds:List D}{xs:List V}{A:List Addr}(i:Nat){e:D}{u:V},Fts K H ds xs A->Ft K H e u []->∃A',A'.Sublist A/\Fts K H (ds.set i e) (xs.set i u) A'
 |[],_,_,_,_,_,h,_=>⟨_,List.Sublist.refl _,by obtain⟨rfl,rfl⟩:=h;exact⟨rfl,rfl⟩⟩
 |d::ds,xs,A,0,e,u,h,f=>by
  obtain⟨v,r,B,C,rfl,rfl,q,t⟩:=h;exact⟨C,List.sublist_append_right _ _,u,r,[],C,rfl,rfl,f,t⟩
 |d::ds,xs,A,i+1,e,u,h,f=>by
  obtain⟨v,r,B,C,rfl,rfl,q,t⟩:=h;obtain⟨j,s,t'⟩:=Fts.put i t f;exact⟨B++j,List.Sublist.append (List.Sublist.refl _) s,v,_,B,j,rfl,rfl,q,t'⟩
theorem Fts.app:∀{ds es:List D}{xs ys:List V}{A B:List Addr},Fts K H ds xs A->Fts K H es ys B->Fts K H (ds++es) (xs++ys) (A++B)
 |[],_,_,_,_,_,h,f=>by obtain⟨rfl,rfl⟩:=h;exact f
 |d::ds,es,xs,ys,A,B',h,f=>by
  obtain⟨v,r,B,C,rfl,rfl,q,t⟩:=h;exact⟨v,r++ys,B,C++B',rfl,by simp,q,Fts.app t f⟩
mutual
theorem Ft.repN{P:Addr->Prop}:∀(d:D)(v:V)(A:List Addr),(∀a∈A,P a)->Ft K H d v A->RepN K H P d v
 |.lst ds,v,A,k,h=>by
  obtain⟨a,xs,B,e,q,rfl,r⟩:=h;exact⟨a,xs,e,q,k a zao,Fts.repNs ds xs B (λb j=>k b (zal _ j)) r⟩
 |.dk ks ds,v,A,k,h=>by
  obtain⟨a,xs,B,e,q,l,n,rfl,r⟩:=h;exact⟨a,xs,e,q,k a zao,l,n,Fts.repNs ds xs B (λb j=>k b (zal _ j)) r⟩
 |.tup ds,v,A,k,h=>by
  obtain⟨a,xs,e,q,r⟩:=h;exact⟨a,xs,e,q,Fts.repNs ds xs A k r⟩
 |.non,_,_,_,h=>h.2
 |.bl _,_,_,_,h=>h.2
 |.int _,_,_,_,h=>h.2
 |.str _,_,_,_,h=>h.2
 |.ty _,_,_,_,h=>h.2
 |.cn _,_,_,_,h=>h.2
 |.scr ns,v,A,_,h=>h.2
 |.ob C ns ds,v,A,k,h=>by
  obtain⟨a,dx,xs,B,e,q,l,n,rfl,r⟩:=h;exact⟨a,dx,xs,e,q,k a zao,l,n,Fts.repNs ds xs B (λb j=>k b (zal _ j)) r⟩
theorem Fts.repNs{P:Addr->Prop}:∀(ds:List D)(xs:List V)(A:List Addr),(∀a∈A,P a)->Fts K H ds xs A->xq K H P ds xs
 |[],_,_,_,h=>h.1
 |d::ds,xs,A,k,h=>by
  obtain⟨v,r,B,C,e,rfl,q,t⟩:=h;exact⟨v,r,e,Ft.repN d v B (λb j=>k b (List.mem_append_left _ j)) q,Fts.repNs ds r C (λb j=>k b (List.mem_append_right _ j)) t⟩
end
section
variable{o:List (Nat×Addr)}{A:List Addr}{d:D}
def ST.letgo(S:ST K H_ H G L o l A d v){i:Nat}(hi:i≠l)(w:V):ST K H_ H (G.set i (some w)) (hid i L) o l A d v:=by
 refine⟨⟨S.Q.same,S.Q.fresh,S.Q.trk,S.Q.mtb,S.Q.nda,λj r e=>?_,?_⟩,?_,?_,S.ft⟩
 ·obtain⟨I,e⟩:=ka e;obtain⟨B,e⟩:=ka e;obtain⟨u,M,q⟩:=S.Q.slots j r (by rw[O2 I];exact e)
  exact⟨u,by rw[List.getElem?_set_ne (Ne.symm B)];exact M,q⟩
 ·rw[List.length_set,S.Q.len];simp only[ux,List.length_set]
 ·rw[O2 (Ne.symm hi)];exact S.hd
 rw[List.getElem?_set_ne hi];exact S.hv
end
abbrev TP1:=DE->(List Nat->Prop)->Prop
variable{te:TD}
def Fk:TP1:=λ_ U=>U []
abbrev TF:=DE->(D->Prop)->Prop
abbrev TFs:=DE->(List D->Prop)->Prop
def z0y(K:W.Frag)(H_:Hp)(l:Nat)(t:TF):TE:=λG H Q=>∃L o A d v,ST K H_ H G L o l A d v/\∃U,t L U/\∀u e B H',Same H H'->Ft K H' e u B->B.Nodup->(∀b∈B,H b=none)->U e->Q u H'
def Bq(K:W.Frag)(H_:Hp)(l:Nat)(t:TFs):TA:=λG H Q=>∃L o A d v,ST K H_ H G L o l A d v/\∃U,t L U/\∀us es B H',Same H H'->Fts K H' es us B->B.Nodup->(∀b∈B,H b=none)->U es->Q us H'
def EF(G:Hp->Prop)(l:Nat)(X:Cx)(e:Expr)(t:TF):Prop:=∀H_:{H:Hp // G H},PE X e (z0y X.K H_.1 l t)
def EFs(G:Hp->Prop)(l:Nat)(X:Cx)(es:List Expr)(t:TFs):Prop:=∀H_:{H:Hp // G H},PA X es (Bq X.K H_.1 l t)
def frs1:EV->Prop
 |⟨.fre,.lst ds⟩=>zp ds
 |⟨.new,.lst ds⟩=>zp ds
 |⟨_,d⟩=>zl d
def Ag{K:W.Frag}{H H':Hp}{O:List Addr}{r:EV}{v:V}(h:RV K H H' O r v)(p:frs1 r):∃B,Ft K H' r.d v B/\B.Nodup/\∀b∈B,H b=none:=by
 have N:zl r.d->∃B,Ft K H' r.d v B/\B.Nodup/\∀b∈B,H b=none:=λZ=>⟨[],Rep.ft _ _ Z h.view.rep0,List.nodup_nil,λb j=>by cases j⟩
 obtain⟨k,d⟩:=r;unfold frs1 at p;split at p
 ·rename_i ds q;cases q;obtain⟨a,rfl,m,n,xs,M,I⟩:=h;exact⟨[a],⟨a,xs,[],rfl,M,rfl,Reps.fts _ _ p I⟩,by simp,λb j=>by rw[List.mem_singleton.mp j];exact m⟩
 ·rename_i ds q;cases q;obtain⟨a,xs,rfl,M,pa,I⟩:=h;exact⟨[a],⟨a,xs,[],rfl,M,rfl,Reps.fts (O:=[]) _ _ p (xq.reps (λ_ _ z=>by cases z) _ _ I)⟩,by simp,λb j=>by rw[List.mem_singleton.mp j];exact pa.2⟩
 rename_i k' d' _ _ q;cases q;exact N p
def fNil:TFs:=λ_ U=>U []
def Eo:EFs Y l X [] fNil:=λH_=>impA u4 λG H Q q=>by
 obtain⟨L,o,A,d,v,S,U,j,k⟩:=q;exact k [] [] [] H (Same.refl H) ⟨rfl,rfl⟩ List.nodup_nil (λb B=>by cases B) j
def El(te:TF)(j:TFs):TFs:=λL U=>te L λd=>j L λds=>U (d::ds)
def Th{te:TF}{tr:TFs}(he:EF Y l X e te)(hr:EFs Y l X es tr)(hs:S_ X e es:=by rfl):EFs Y l X (e::es) (El te tr):=λH_=>impA (w5 (he H_) (hr H_) hs) λG H Q q=>by
 obtain⟨L,o,A,d,v,S,U,M,k⟩:=q;refine⟨L,o,A,d,v,S,_,M,λu e1 B1 H1 s1 f1 n1 N h1=>⟨L,o,A,d,v,S.to s1,_,h1,λus a0 B2 H2 s2 f2 n2 B h2=>?_⟩⟩;have Z:Ft X.K H2 e1 u B1:=Ft.keep (Gt.same s2) _ _ _ (λa _ x I=>s2 _ _ I) f1;refine k (u::us) (e1::a0) (B1++B2) H2 (s1.trans s2) ⟨u,us,B1,B2,rfl,rfl,Z,f2⟩ ?_ (λb j=>?_) h2
 ·rw[List.nodup_append];refine⟨n1,n2,λa ha b j e=>?_⟩;subst e;obtain⟨x,I,_⟩:=Ft.dom _ _ _ f1 a ha;rw[B a j]at I;cases I
 rcases zas.mp j with j|j
 ·exact N b j
 exact s1.free (B b j)
def T4(K:W.Frag)(H_:Hp)(l:Nat)(t:TQS):TS:=λDz G H=>∃L o A d v,ST K H_ H G L o l A d v/\∃Z,t L Z /\
 (∀ρ' σ' H' o' A' d',ST K H_ H' σ' ρ' o' l A' d' v->Z.nx ρ'->Dz.nx σ' H') /\
 (∀u e ρ' H',Same H_ H'->RepN K H' (λa=>H_ a=none) e u->Z.rt e ρ'->Dz.rt u H')
def RS(G:Hp->Prop)(l:Nat)(X:Cx)(st:Stmt)(t:TQS):Prop:=∀H_:{H:Hp // G H},PS X st (T4 X.K H_.1 l t)
def RSs(G:Hp->Prop)(l:Nat)(X:Cx)(st:List Stmt)(t:TQS):Prop:=∀H_:{H:Hp // G H},PSs X st (T4 X.K H_.1 l t)
section
variable{rest a b:List Stmt}
def Dw:RSs Y l X [] qNil:=λH_=>Vf Wu λDz G H h=>by
 obtain⟨L,o,A,d,v,S,Z,q,j,B⟩:=h;exact j _ _ _ _ _ _ S q
def J7(h:RS Y l X st t):RSs Y l X [st] t:=λH_=>jy (h H_)
def Ga(h:RS Y l X st t)(hr:RSs Y l X rest u):RSs Y l X (st::rest) (qSeq t u):=λH_=>Vf (u3 (h H_) (hr H_)) λDz G H h=>by
 obtain⟨L,o,A,d,v,S,Z,I,B,j⟩:=h;exact⟨L,o,A,d,v,S,_,I,λρ' q H' o' A' d' M h'=>⟨ρ',o',A',d',v,M,Z,h',B,j⟩,j⟩
def z0n{tc:TQb}(N:QT Y l X c tc)(ha:RSs Y l X a t)(hb:RSs Y l X b u):RS Y l X (.If c a b pos) (qIf tc t u):=λH_=>impS (Gr (N H_) (ha H_) (hb H_)) λDz G H h=>by
 obtain⟨L,o,A,d,v,S,Z,hZ,B,q⟩:=h;refine⟨L,o,A,d,v,S,_,hZ,λbb j H1 M d1 g I h1=>?_⟩;cases bb
 ·exact⟨j,o,M,d1,v,I,Z,h1.2 rfl,B,q⟩
 exact⟨j,o,M,d1,v,I,Z,h1.1 rfl,B,q⟩
end
abbrev FTR:=D->List D->(D->Prop)->Prop
def spR(K:W.Frag)(n:Nat)(T:FTR):Sp:=λvs H Q _=>∃d ds v ws A U,vs=v::ws/\ds.length+1=n/\Ft K H d v A/\A.Nodup/\Reps K H A ds ws/\T d ds U /\
 ∀u e H',(∀b x,H b=some x->b∉A->H' b=some x)->RepN K H' (λa=>a∈A\/H a=none) e u->U e->Q u H'
structure FR(P:Program)(w:World)(K:W.Frag)(mg:Str->Option Value)(base:Heap)(k:Nat)(x:Str)(ps:List Str)(T:FTR):Prop where
 ex:∃f fd,FnOk P w K mg base CX0 k f fd ps (spR K ps.length T)/\u0 K fd ps []/\W.keepIn K (.ref f)=true/\mg x=some (.ref f)
def U5{N:List Str}{d:D}{ds:List D}{v:V}{ws:List V}{H:Hp}{j:List Addr}(ft:Ft K H d v j)(nd:j.Nodup)(r:Reps K H j ds ws):ST K (vg j H) H (ZZ.start N (v::ws)) (xa N.length (d::ds)) [] 0 j d v:=by
 have R0:=ug (N:=N) (ds:=d::ds) (vs:=v::ws) (H:=H) ⟨v,ws,rfl,Ft.rep _ _ _ (λa _ z=>by cases z) ft,Reps.sub (λa B=>by cases B) _ _ r⟩
 have s0:=kj j H;refine⟨⟨s0,λp M=>?_,λp M=>?_,λp M=>?_,?_,λi q e=>?_,?_⟩,rfl,rfl,ft⟩
 ·obtain⟨a,B,rfl⟩:=zah.mp (show p∈tg 0 j from M);exact qr B
 ·obtain⟨a,B,rfl⟩:=zah.mp (show p∈tg 0 j from M);obtain⟨u,hu,_⟩:=Ft.dom _ _ _ ft a B;exact⟨u,hu⟩
 ·obtain⟨a,B,rfl⟩:=zah.mp (show p∈tg 0 j from M);obtain⟨u,hu,n1,n2⟩:=Ft.dom _ _ _ ft a B;refine⟨λxs z=>?_,λob w z=>?_⟩
  ·rw[hu]at z;cases z;exact n1 _ rfl
  rw[hu]at z;cases z;exact n2 _ _ rfl
 ·rw[wc];exact nd
 ·obtain⟨hi,e⟩:=ka e;rw[wc];cases i with
  |zero=>exact absurd rfl hi
  |succ i =>
   have I:((ds.map λd=>some (dv d))++List.replicate (N.length-(d::ds).length) none)[i]?=some (some q):=e;rcases Nat.lt_or_ge i ds.length with hi|hi
   ·rw[List.getElem?_append_left (by simpa using hi),zai]at I
    have Z:ds[i]?=some ds[i]:=by simp[hi]
    rw[Z]at I;have e2:some (dv ds[i])=some q:=Option.some.inj I;cases e2;obtain⟨u,eu,ru⟩:=r.get Z;refine⟨u,?_,.inl ⟨rfl,ru⟩⟩;unfold ZZ.start;show((ws.map some)++_)[i]?=_;rw[List.getElem?_append_left (by rw[zLm,r.length];exact hi),zai,eu]
    rfl
   rw[List.getElem?_append_right (by simpa using hi),List.getElem?_replicate]at I
   split at I <;> cases I
 rw[ux,List.length_set];exact R0.len
def z1g{x j:Str}{st:Stmt}{f:Addr}{fd:FuncData}{N ps:List Str}{k:Nat}{T:FTR}(F:Fun K x j st f fd)(S:zj N ps (zb st))(b:u0 K fd ps [])(m:mg x=some (.ref f))(Z:∀ (qZ:Value) (A:Around) (outer:List Env) (s:Shared) (H:Hp) (E:XK) (d:D) (ds:List D) (U:D->Prop),Room k (A.deeper (envOfC j (zb st) s.heap.objs.size f qZ))->ds.length+1=ps.length->T d ds U ->
   ∃ t,RSs (λ_=>True) 0 (cxOf CX0 P w K mg base N j (zb st) f qZ A outer s H E).nox (yi st) t/\t (xa N.length (d::ds)) {nx:=λ_=>False,rt:=λr _=>U r}):FR P w K mg base (k+1) x ps T:=by
 refine⟨f,fd,F.ok S (λvs H Q E h=>?_) (λqZ A outer s H vs Q E hr h=>?_),b,F.kp,m⟩
 ·obtain⟨d,ds,v,ws,A,U,rfl,hl,_,_,r,_⟩:=h;rw[zLc,r.length,hl]
 obtain⟨d,ds,v,ws,q,U,rfl,hl,ft,nd,r,hT,kk⟩:=h;obtain⟨t,ht,hq⟩:=Z qZ A outer s H E d ds U hr hl hT;have S0:=U5 (N:=N) ft nd r;refine⟨T4 K (vg q H) 0 t,ht ⟨vg q H,trivial⟩,xa N.length (d::ds),[],q,d,v,S0,_,hq,λρ' I H' o' A' d2 S' h'=>h'.elim,λu e ρ' H' s' M h'=>?_⟩;refine kk u e H' (λb x hb hn=>s' b x (by rw[xf hn];exact hb)) (RepN.to (Same.refl _) (λa B=>?_) _ _ M) h'
 by_cases hA:a∈q
 ·exact .inl hA
 rw[xf hA]at B;exact .inr B
def bg:D->Option (List D)
 |.lst ds=>some ds
 |.tup ds=>some ds
 |.ob _ _ ds=>some ds
 |_=>none
def Nj:D->List D->D
 |.lst _,ds=>.lst ds
 |.tup _,ds=>.tup ds
 |.ob C ns _,ds=>.ob C ns ds
 |d,_=>d
def atQ:List Nat->D->Option D
 |[],d=>some d
 |i::π,d=>match bg d with
  | some ds=>(match ds[i]? with
   |some x=>atQ π x
   | none=>none)
  |none=>none
def putQ:List Nat->D->D->D
 |[],_,e=>e
 |i::π,d,e=>match bg d with
  | some ds=>(match ds[i]? with
   |some x=>Nj d (ds.set i (putQ π x e))
   | none=>d)
  |none=>d
def Kids(H:Hp)(a:Addr)(xs:List V):Prop:=H a=some (.lst xs)\/H a=some (.tup xs)\/∃C dx,∃ns:List Str,H a=some (.ins C dx (ns.zip xs))/\ns.length=xs.length
theorem vj1{α j:Type}:∀{ns:List α}{xs:List j},ns.length=xs.length->(ns.zip xs).map Prod.snd=xs
 |[],[],_=>rfl
 |[],_::_,h=>by simp at h
 |_::_,[],h=>by simp at h
 |_::_,_::_,h=>by simp[vj1 (by simpa using h)]
def Kids.fn{H:Hp}{a:Addr}{xs ys:List V}(h:Kids H a xs)(h':Kids H a ys):xs=ys:=by
 rcases h with h|h|⟨C,dx,ns,h,l⟩
 ·rcases h' with h'|h'|⟨C',dx',ns',h',l'⟩
  ·rw[h]at h';cases h';rfl
  ·rw[h]at h';cases h'
  rw[h]at h';cases h'
 ·rcases h' with h'|h'|⟨C',dx',ns',h',l'⟩
  ·rw[h]at h';cases h'
  ·rw[h]at h';cases h';rfl
  rw[h]at h';cases h'
 rcases h' with h'|h'|⟨C',dx',ns',h',l'⟩
 ·rw[h]at h';cases h'
 ·rw[h]at h';cases h'
 rw[h]at h'
 injection h' with h'
 injection h' with _ _ e
 have:=congrArg (List.map Prod.snd) e;rw[vj1 l,vj1 l']at this;exact this
def Kids.to{H H':Hp}{a:Addr}{xs:List V}(s:Same H H')(h:Kids H a xs):Kids H' a xs:=by
 rcases h with h|h|⟨C,dx,ns,h,l⟩
 ·exact .inl (s _ _ h)
 ·exact .inr (.inl (s _ _ h))
 exact .inr (.inr ⟨C,dx,ns,s _ _ h,l⟩)
def valQ(H:Hp):List Nat->V->V->Prop
 |[],v,u=>u=v
 |i::π,v,u=>∃a xs w,v=.ref a/\Kids H a xs/\xs[i]?=some w/\valQ H π w u
theorem valQ.fn{H:Hp}:∀{π:List Nat}{v u u':V},valQ H π v u->valQ H π v u'->u=u'
 |[],_,_,_,h,h'=>h.trans h'.symm
 |i::π,_,_,_,⟨a,xs,w,e,q,g,h⟩,⟨a',xs',w',e',q',g',h'⟩=>by
  rw[e]at e';cases e';cases q.fn q';rw[g]at g';cases g';exact h.fn h'
theorem valQ.to{H H':Hp}(s:Same H H'):∀{π:List Nat}{v u:V},valQ H π v u->valQ H' π v u
 |[],_,_,h=>h
 |i::π,_,_,⟨a,xs,w,e,q,g,h⟩=>⟨a,xs,w,e,q.to s,g,h.to s⟩
theorem valQ.snoc{H:Hp}{i:Nat}{a:Addr}{xs:List V}{w:V}:∀{π:List Nat}{v:V},valQ H π v (.ref a)->Kids H a xs->xs[i]?=some w->valQ H (π++[i]) v w
 |[],v,h,q,g=>⟨a,xs,w,h.symm,q,g,rfl⟩
 |j::π,v,⟨b,ys,z,e,q',g',h⟩,q,g=>⟨b,ys,z,e,q',g',h.snoc q g⟩
def Ft.parts{d:D}{v:V}{A:List Addr}{ds:List D}(h:Ft K H d v A)(p:bg d=some ds):∃a xs T B,v=.ref a/\Kids H a xs/\A=T++B/\Fts K H ds xs B /\
  ∀H' j I,Gt H H'->(∀b∈T,∀u,H b=some u->H' b=some u)->j.length=ds.length->Fts K H' j xs I->Ft K H' (Nj d j) v (T++I):=by
 cases d with
 |lst es =>
  cases p
  obtain⟨a,xs,B,e,q,rfl,r⟩:=h;exact⟨a,xs,[a],B,e,.inl q,rfl,r,λH' j I g k l f=>⟨a,xs,I,e,k a zao _ q,rfl,f⟩⟩
 |tup es =>
  cases p
  obtain⟨a,xs,e,q,r⟩:=h;exact⟨a,xs,[],A,e,.inr (.inl q.2),rfl,r,λH' j I g k l f=>⟨a,xs,e,Qb g q,f⟩⟩
 |ob C ns es =>
  cases p
  obtain⟨a,dx,xs,B,e,q,l,n,rfl,r⟩:=h;exact⟨a,xs,[a],B,e,.inr (.inr ⟨C,dx,ns,q,by rw[l,r.length]⟩),rfl,r,λH' j I g k M f=>⟨a,dx,xs,I,e,k a zao _ q,by rw[M];exact l,n,rfl,f⟩⟩
 |_=>cases p
theorem Ft.focQ:∀{π:List Nat}{d:D}{v:V}{A:List Addr}{d1:D},Ft K H d v A->atQ π d=some d1->∃u N B C,valQ H π v u/\A=B++N++C/\Ft K H d1 u N /\
  ∀H' e A1',Gt H H'->(∀a∈B++C,∀u,H a=some u->H' a=some u)->Ft K H' e u A1'->Ft K H' (putQ π d e) v (B++A1'++C)
 |[],d,v,A,d1,h,e=>by
  cases (show d=d1 from Option.some.inj e)
  exact⟨v,A,[],[],rfl,by simp,h,λH' e A1' _ _ f=>by simpa [putQ] using f⟩
 |i::π,d,v,A,d1,h,e=>by
  have e:(match bg d with|some ds=>(match ds[i]? with|some x=>atQ π x|none=>none)|none=>none)=some d1:=e
  cases ep:bg d with
  |none=>rw[ep]at e;cases e
  |some ds =>
   rw[ep]at e;have e:(match ds[i]? with|some x=>atQ π x|none=>none)=some d1:=e
   cases ed:ds[i]? with
   |none=>rw[ed]at e;cases e
   |some d2 =>
    rw[ed]at e;obtain⟨a,xs,T,AA,rfl,q,rfl,r,Z⟩:=h.parts ep;obtain⟨w,N,B,C,ew,rfl,f,k⟩:=Fts.foc r ed;obtain⟨u,A2,B',C',hv,rfl,f2,k2⟩:=Ft.focQ (π:=π) f e;refine⟨u,A2,T++(B++B'),C'++C,⟨a,xs,w,rfl,q,ew,hv⟩,by simp,f2,λH' M A1' g I f'=>?_⟩
    have h2:=k2 H' M A1' g (λa j=>I a (by simp at j ⊢;rcases j with j|j <;> simp[j])) f'
    have h3:=k H' _ _ g (λa j=>I a (by simp at j ⊢;rcases j with j|j <;> simp[j])) h2
    show Ft K H' (match bg d with|some ds=>(match ds[i]? with|some x=>Nj d (ds.set i (putQ π x M))|none=>d)|none=>d) _ _
    rw[ep];show Ft K H' (match ds[i]? with|some x=>Nj d (ds.set i (putQ π x M))|none=>d) _ _
    rw[ed];have h4:=Z H' _ _ g (λb hb=>I b (by simp[hb])) (by rw[List.length_set]) h3
    simpa using h4
section
variable{o:List (Nat×Addr)}{A:List Addr}{d:D}
theorem ST.focQ(S:ST K H_ H G L o l A d v){π:List Nat}{d1:D}(h:atQ π d=some d1):∃u A1,valQ H π v u/\Ft K H d1 u A1/\A1.Nodup/\(∀a∈A1,a∈A)/\(∀a∈A1,H a≠none) /\
  ∀H' e A1',(∀c x,H c=some x->c∉A1->H' c=some x)->Ft K H' e u A1'->A1'.Nodup->(∀a∈A1',a∈A1\/H a=none)->∃A',ST K H_ H' G (setS L l (dv (putQ π d e))) o l A' (putQ π d e) v/\Grow A A' H H'/\∀a∈A1,a∉A1'->a∉A':=by
 obtain⟨u,A1,B,C,hv,hA,f,k⟩:=Ft.focQ S.ft h;have nd:=S.ndA;rw[hA]at nd;have nd1:=List.nodup_append.mp nd;have I:=List.nodup_append.mp nd1.1;have dm:∀a∈A,H a≠none:=λa j e=>by
  obtain⟨x,q,_⟩:=Ft.dom _ _ _ S.ft a j;rw[e]at q;cases q
 have mA:∀a,a∈B\/a∈A1\/a∈C ↔ a∈A:=λa=>by rw[hA];simp[or_assoc]
 refine⟨u,A1,hv,f,I.2.1,λa j=>(mA a).mp (by simp[j]),λa j=>dm a ((mA a).mp (by simp[j])),λH' e A1' kp f' a1 fr=>?_⟩
 have gt:Gt H H':=⟨λb xs Z=>kp b _ Z λz=>by
   obtain⟨x,q,n1,_⟩:=Ft.dom _ _ _ f b z;rw[Z]at q;cases q;exact n1 _ rfl,λb ob w Z=>kp b _ Z λz=>by
   obtain⟨x,q,_,n2⟩:=Ft.dom _ _ _ f b z;rw[Z]at q;cases q;exact n2 _ _ rfl⟩
 have nB:∀a∈B++C,a∉A1:=λa j z=>by
  rcases zas.mp j with j|j
  ·exact I.2.2 a j a z rfl
  exact nd1.2.2 a (List.mem_append_right _ z) a j rfl
 have a2:=k H' e A1' gt (λa j x q=>kp a x q (nB a j)) f';have M:∀a∈B++A1'++C,a∈A\/H a=none:=λa j=>by
  rw[zas,zas]at j;rcases j with(j|j)|j
  ·exact .inl ((mA a).mp (by simp[j]))
  ·exact(fr a j).imp (λz=>(mA a).mp (by simp[z])) id
  exact .inl ((mA a).mp (by simp[j]))
 have a0:(B++A1'++C).Nodup:=by
  rw[List.nodup_append,List.nodup_append];refine⟨⟨I.1,a1,λx q y N e=>?_⟩,nd1.2.1,λx q y N e=>?_⟩
  ·subst e;rcases fr x N with z|z
   ·exact I.2.2 x q x z rfl
   exact dm x ((mA x).mp (by simp[q])) z
  subst e;rcases zas.mp q with q|q
  ·exact nd1.2.2 x (List.mem_append_left _ q) x N rfl
  rcases fr x q with z|z
  ·exact nd1.2.2 x (List.mem_append_right _ z) x N rfl
  exact dm x ((mA x).mp (by simp[N])) z
 have gr:Grow A (B++A1'++C) H H':=⟨λc x q hn=>⟨kp c x q λz=>hn ((mA c).mp (by simp[z])),λz=>(M c z).elim hn λe=>by rw[q]at e;cases e⟩,gt.tups,gt.frzs⟩
 refine⟨_,S.chg gr a2 a0 M,gr,λa j na z=>?_⟩;rw[zas,zas]at z;rcases z with(z|z)|z
 ·exact nB a (by simp[z]) j
 ·exact na z
 exact nB a (by simp[z]) j
end
def Bo(K:W.Frag)(H_:Hp)(l:Nat)(t:TP1):TE:=λG H Q=>∃L o A d v,ST K H_ H G L o l A d v/\∃U,t L U/\∀u π H',Same H H'->valQ H' π v u->U π->Q u H'
def EPQ(G:Hp->Prop)(l:Nat)(X:Cx)(e:Expr)(t:TP1):Prop:=∀H_:{H:Hp // G H},PE X e (Bo X.K H_.1 l t)
structure CO(K:W.Frag)(C:Addr)(ns:List Str):Prop where
 cl:Cls K C
 na:∀f∈ns,j4 K C f
def ixF:List Str->Str->Option Nat
 |[],_=>none
 |n::ns,f=>if n=f then some 0 else(ixF ns f).map (·+1)
theorem vi{α:Type}{f:Str}:∀{ns:List Str}{xs:List α}{i:Nat},ixF ns f=some i->ns.length=xs.length->(ns.zip xs).lookup f=xs[i]?
 |[],_,_,h,_=>by cases h
 |n::ns,[],_,_,l=>by simp at l
 |n::ns,x::xs,i,h,l=>by
  unfold ixF at h;by_cases e:n=f
  ·rw[if_pos e]at h;cases h;subst e;simp[List.lookup]
  rw[if_neg e]at h;obtain⟨j,B,rfl⟩:=zar.mp h;have q:(f==n)=false:=beq_eq_false_iff_ne.mpr (λz=>e z.symm);show(List.lookup f ((n,x)::ns.zip xs))=_;rw[List.lookup,q];simpa using vi B (by simpa using l)
theorem k8{f:Str}:∀{ns:List Str}{i:Nat},ixF ns f=some i->f∈ns
 |[],_,h=>by cases h
 |n::ns,i,h=>by
  unfold ixF at h;by_cases e:n=f
  ·exact e▸zao
  rw[if_neg e]at h;obtain⟨j,q,rfl⟩:=zar.mp h;exact zal _ (k8 q)
theorem Up{f:Str}{y:V}:∀{ns:List Str}{xs:List V}{i:Nat},ixF ns f=some i->ns.length=xs.length->putF f y (ns.zip xs)=ns.zip (xs.set i y)
 |[],_,_,h,_=>by cases h
 |n::ns,[],_,_,l=>by simp at l
 |n::ns,x::xs,i,h,l=>by
  unfold ixF at h;show(if n=f then(n,y)::ns.zip xs else(n,x)::putF f y (ns.zip xs))=_
  by_cases e:n=f
  ·rw[if_pos e]at h ⊢;cases h;rfl
  rw[if_neg e]at h ⊢;obtain⟨j,q,rfl⟩:=zar.mp h;rw[Up q (by simpa using l)]
  rfl
variable{f:Str}{ns:List Str}
def ya(M:X.N[l]?=some x:=by rfl)(hv:Vis X.env.scope x:=by walk_at "o")(I:D_ x:=by decide)(B:(x==("__classdict__" : Str))=false:=by decide):EPQ Y l X (.Name x pos) Fk:=λH_=>impE (uw M hv I B) λG H Q q=>by
 obtain⟨L,o,A,d,v,S,U,j,k⟩:=q;exact⟨v,S.hv,k v [] H (Same.refl H) rfl j⟩
def pFld(l:Nat)(C:Addr)(ns:List Str)(f:Str)(j:TP1):TP1:=λL U=>j L λπ=>∃d ds,slot L l=some (dv d)/\atQ π d=some (.ob C ns ds)/\(match ixF ns f with
 |some i=>U (π++[i])
 | none=>False)
def yy(O:CO X.K C ns)(hp:EPQ Y l X e tp)(hb:attributeBase e f X.env (eval e X.env)=eval e X.env:=by rfl):EPQ Y l X (.Attribute e f pos) (pFld l C ns f tp):=λH_=>impE (Je (hp H_) hb) λG H Q q=>by
 obtain⟨L,o,A,d,v,S,U,M,k⟩:=q;refine⟨L,o,A,d,v,S,_,M,λu π H1 s1 N h1=>?_⟩;obtain⟨d',ds,es,ea,h1⟩:=h1;have e2:some (dv d')=some (dv d):=by rw[<- es];exact xw S.hd
 cases e2
 split at h1
 ·rename_i i j;obtain⟨w,A1,vw,f1,_⟩:=(S.to s1).focQ ea;have:=N.fn vw;subst this;obtain⟨a,dx,xs,B,rfl,q,ln,n,rfl,r⟩:=f1;have I:ns.length=xs.length:=by rw[ln,r.length]
  have hi:i<xs.length:=by
   have:=vi (xs:=ns) j rfl;rcases Nat.lt_or_ge i xs.length with z|z
   ·exact z
   have e3:=vi (xs:=xs) j I;rw[List.getElem?_eq_none z]at e3;exfalso;have hm:=k8 j;rw[List.getElem?_eq_none (by omega)]at this
   have:∀ns:List Str,f∈ns->(ns.zip ns).lookup f≠none:=λns=>by
    induction ns with
    |nil=>intro h;cases h
    |cons a r ih =>
     intro h;rw[List.zip_cons_cons,List.lookup];cases q:(f==a) with
     |true=>exact λz=>by cases z
     |false =>
      rcases zam.mp h with h|h
      ·rw[h]at q;simp at q
      exact ih h
   exact this ns hm (by assumption)
  have Z:xs[i]?=some xs[i]:=zaf hi;exact⟨a,C,dx,_,xs[i],rfl,q,O.cl,O.na f (k8 j),by rw[vi j I];exact Z,k _ _ H1 s1 (N.snoc (.inr (.inr ⟨C,dx,ns,q,I⟩)) Z) h1⟩
 exact h1.elim
def pIxQ(l:Nat)(q:TP1)(tk:TD):TP1:=λL U=>q L λπ=>tk L λB=>∃d d1 ds i j,slot L l=some (dv d)/\atQ π d=some d1/\(match d1 with
 |.lst es=>es=ds
 |.tup es=>es=ds
 | _=>False)/\B.d=.int i/\ixN ds.length i=some j/\U (π++[j])
def Ci(hp:EPQ Y l X e tp)(hk:ED Y X ke tk)(hs:Vy ke:=by intro _ _;rfl):EPQ Y l X (.Subscript e ke pos) (pIxQ l tp tk):=λH_=>impE (Cu Jm (hp H_) (hk H_) hs) λG H Q q=>by
 obtain⟨L,o,A,d,v,S,U,Z,k⟩:=q;refine⟨L,o,A,d,v,S,_,Z,λu π H1 s1 vp h1=>⟨L,o,(S.to s1).R,_,h1,λw r H2 s2 rv h2=>?_⟩⟩;obtain⟨d',d1,ds,i,j,es,ea,M,ei,ej,h2⟩:=h2;have e2:some (dv d')=some (dv d):=by rw[<- es];exact xw S.hd
 cases e2
 obtain⟨b,A1,N,f1,_⟩:=(S.to (s1.trans s2)).focQ ea;have:=(vp.to s2).fn N;subst this;have vw:=rv.view;rw[ei]at vw;cases (show w=_ from vw);have hj:=(V1 ej).2.1;split at M
 ·subst M;obtain⟨a,ys,B,rfl,q,rfl,fs⟩:=f1;have hl:=fs.length;obtain⟨y,I⟩:∃y,ys[j]?=some y:=⟨ys[j]'(by omega),by simp[show j<ys.length by omega]⟩
  refine .inl ⟨a,ys,i,y,rfl,rfl,SqL.of q,?_,k _ _ H2 (s1.trans s2) (N.snoc (.inl q) I) h2⟩;unfold atI;rw[hl,ej];exact I
 ·subst M;obtain⟨a,ys,rfl,q,fs⟩:=f1;have hl:=fs.length;obtain⟨y,I⟩:∃y,ys[j]?=some y:=⟨ys[j]'(by omega),by simp[show j<ys.length by omega]⟩
  refine .inr (.inl ⟨a,ys,i,y,rfl,rfl,q.1,?_,k _ _ H2 (s1.trans s2) (N.snoc (.inr (.inl q.2)) I) h2⟩);unfold atI;rw[hl,ej];exact I
 exact M.elim
mutual
theorem Ft.uniq{K:W.Frag}{H:Hp}:∀(d:D)(v:V)(A B:List Addr),Ft K H d v A->Ft K H d v B->A=B
 |.lst ds,v,A,B,h,g=>by
  obtain⟨a,xs,A',rfl,q,rfl,r⟩:=h;obtain⟨N,I,M,e,j,rfl,r2⟩:=g;cases e;rw[q]at j;cases j;rw[Fts.uniq ds xs A' M r r2]
 |.dk ks ds,v,A,B,h,g=>by
  obtain⟨a,xs,A',rfl,q,l,n,rfl,r⟩:=h;obtain⟨N,I,M,e,j,l2,n2,rfl,r2⟩:=g;cases e;rw[q]at j
  injection j with j
  injection j with j
  have e2:=congrArg (List.map Prod.snd) j;rw[vj1 (by rw[l,r.length]),vj1 (by rw[l2,r2.length])]at e2
  subst e2;rw[Fts.uniq ds xs A' M r r2]
 |.tup ds,v,A,B,h,g=>by
  obtain⟨a,xs,rfl,q,r⟩:=h;obtain⟨N,I,e,j,r2⟩:=g;cases e;have Z:=q.2;rw[j.2]at Z;cases Z;exact Fts.uniq ds xs A B r r2
 |.ob C ns ds,v,A,B,h,g=>by
  obtain⟨a,dx,xs,A',rfl,q,l,n,rfl,r⟩:=h;obtain⟨N,a0,I,M,e,j,l2,n2,rfl,r2⟩:=g;cases e;rw[q]at j
  injection j with j
  injection j with _ _ j
  have e2:=congrArg (List.map Prod.snd) j;rw[vj1 (by rw[l,r.length]),vj1 (by rw[l2,r2.length])]at e2
  subst e2;rw[Fts.uniq ds xs A' M r r2]
 |.non,_,_,_,h,g=>by rw[h.1,g.1]
 |.bl _,_,_,_,h,g=>by rw[h.1,g.1]
 |.int _,_,_,_,h,g=>by rw[h.1,g.1]
 |.str _,_,_,_,h,g=>by rw[h.1,g.1]
 |.ty _,_,_,_,h,g=>by rw[h.1,g.1]
 |.cn _,_,_,_,h,g=>by rw[h.1,g.1]
 |.scr _,_,_,_,h,g=>by rw[h.1,g.1]
theorem Fts.uniq{K:W.Frag}{H:Hp}:∀(ds:List D)(xs:List V)(A B:List Addr),Fts K H ds xs A->Fts K H ds xs B->A=B
 |[],_,_,_,h,g=>by rw[h.2,g.2]
 |d::ds,xs,A,B,h,g=>by
  obtain⟨v,r,Z,N,rfl,rfl,q,t⟩:=h;obtain⟨v',r',M,I,e,rfl,j,t'⟩:=g;cases e;rw[Ft.uniq d v Z M q j,Fts.uniq ds r N I t t']
end
section
variable{o:List (Nat×Addr)}{A:List Addr}{d:D}
theorem Fts.setA:∀{ds:List D}{xs:List V}{A B:List Addr}{i:Nat}{e:D}{u:V},i<ds.length->Fts K H ds xs A->Ft K H e u B->∃I N j,A=I++N++j/\Fts K H (ds.set i e) (xs.set i u) (I++B++j)
 |[],_,_,_,_,_,_,hi,_,_=>by simp at hi
 |d::ds,xs,A,B,0,e,u,_,h,f=>by
  obtain⟨v,r,M,C,rfl,rfl,q,t⟩:=h;exact⟨[],M,C,rfl,u,r,B,C,rfl,rfl,f,t⟩
 |d::ds,xs,A,B,i+1,e,u,hi,h,f=>by
  obtain⟨v,r,M,C,rfl,rfl,q,t⟩:=h;obtain⟨I,N,j,rfl,t'⟩:=Fts.setA (i:=i) (by simpa using hi) t f
  exact⟨M++I,N,j,by simp,v,_,M,I++B++j,rfl,by simp,q,t'⟩
def Dq{A B N A1 M:List Addr}{P:Addr->Prop}(e:A=N++A1++M)(nA:A.Nodup)(Z:B.Nodup)(dis:∀ a∈B,a∉A):(N++B++M).Nodup/\∀a∈N++B++M,a∈A\/a∈B:=by
 subst e;have n1:=List.nodup_append.mp nA;have n2:=List.nodup_append.mp n1.1;refine⟨?_,λa j=>?_⟩
 ·rw[List.nodup_append,List.nodup_append];refine⟨⟨n2.1,Z,λx q y I e=>?_⟩,n1.2.1,λx q y I e=>?_⟩
  ·subst e;exact dis x I (by simp[q])
  subst e;rcases zas.mp q with q|q
  ·exact n1.2.2 x (List.mem_append_left _ q) x I rfl
  exact dis x q (by simp[I])
 rw[zas,zas]at j;rcases j with(j|j)|j
 ·exact .inl (by simp[j])
 ·exact .inr j
 exact .inl (by simp[j])
def ST.putH(S:ST K H_ H G L o l A d v){π:List Nat}{d1 e:D}{b:Addr}{M A1':List Addr}{I:List D}{zs:List V}{ho:HO}(h:atQ π d=some d1)(f:Ft K H d1 (.ref b) (b::M))(nA:(b::M).Nodup)(hu:∀ u N,valQ H π v u->Ft K H d1 u N->N.Nodup->u=.ref b/\N=b::M)(s:Same H H1)(f':Fts K H1 I zs A1')(a1:A1'.Nodup)(fr:∀ a∈A1',a∈M\/H a=none)(nt:∀ xs,ho≠.tup xs)(nz:∀ ob w,ho≠.frz ob w)(mk:∀ H',H' b=some ho->Fts K H' I zs A1'->Ft K H' e (.ref b) (b::A1')):∃A',ST K H_ (upd H1 b ho) G (setS L l (dv (putQ π d e))) o l A' (putQ π d e) v/\Grow A A' H (upd H1 b ho)/\∀a∈M,a∉A1'->a∉A':=by
 obtain⟨u,N,hv,f1,n1,sub,dm,kk⟩:=S.focQ h;obtain⟨rfl,rfl⟩:=hu u N hv f1 n1;have nb:=List.nodup_cons.mp nA;have hb:H b≠none:=dm b zao;have bn:b∉A1':=λz=>(fr b z).elim nb.1 hb;obtain⟨x,hx,a0,Z⟩:=Ft.dom _ _ _ f1 b zao;have B:=s _ _ hx;have gt:Gt H1 (upd H1 b ho):=⟨λc xs j=>by rw[y0 (λz=>by subst z;rw[B]at j;cases j;exact a0 _ rfl)];exact j,λc ob w j=>by rw[y0 (λz=>by subst z;rw[B]at j;cases j;exact Z _ _ rfl)];exact j⟩
 obtain⟨A',S',g,out⟩:=kk (upd H1 b ho) e (b::A1') (λc x j hn=>by rw[y0 (λz=>hn (by rw[z];exact zao))];exact s _ _ j)
  (mk _ zw (Fts.keep gt _ _ _ (λa q x hx=>by rw[y0 (λz=>bn (by rw[<- z];exact q))];exact hx) f')) (List.nodup_cons.mpr ⟨bn,a1⟩) (λa q=>by
   rcases zam.mp q with rfl|q
   ·exact .inl zao
   exact(fr a q).imp (λz=>zal _ z) id)
 refine⟨A',S',g,λa q na=>out a (zal _ q) λz=>?_⟩;rcases zam.mp z with rfl|z
 ·exact nb.1 q
 exact na z
def ST.atL(S:ST K H_ H G L o l A d v){π:List Nat}{es:List D}(h:atQ π d=some (.lst es)):∃b ys B,valQ H π v (.ref b)/\H b=some (.lst ys)/\Fts K H es ys B/\B.Nodup/\(∀a∈B,H a≠none)/\(∀a∈B,a∈A) /\
  ∀H1 j I A1',Same H H1->Fts K H1 j I A1'->A1'.Nodup->(∀a∈A1',a∈B\/H a=none)->∃A',ST K H_ (upd H1 b (.lst I)) G (setS L l (dv (putQ π d (.lst j)))) o l A' (putQ π d (.lst j)) v/\Grow A A' H (upd H1 b (.lst I))/\∀a∈B,a∉A1'->a∉A':=by
 obtain⟨u,A1,hv,f1,n1,sub,dm,kk⟩:=S.focQ h;obtain⟨b,ys,B,rfl,q,rfl,fs⟩:=f1;refine⟨b,ys,B,hv,q,fs,(List.nodup_cons.mp n1).2,λa Z=>dm a (zal _ Z),λa Z=>sub a (zal _ Z),λH1 j I A1' s f' M fr=>?_⟩;have:=S.putH (e:=.lst j) (ho:=.lst I) h ⟨b,ys,B,rfl,q,rfl,fs⟩ n1 (λu A2 N f2 n2=>by
  cases hv.fn N
  obtain⟨b2,a2,a1,e,q2,rfl,a0⟩:=f2;cases e;rw[q]at q2;cases q2;exact⟨rfl,by rw[Fts.uniq es ys B a1 fs a0]⟩) s f' M fr (λ_ z=>by cases z) (λ_ _ z=>by cases z) (λH' hb f=>⟨b,I,A1',rfl,hb,rfl,f⟩)
 exact this
end
variable{oe:Expr}
def dFld(C:Addr)(ns:List Str)(f:Str)(te:TD):TD:=λL U=>te L λr=>match r.d with
 | .ob C' ns' ds=>C'=C/\ns'=ns/\(match ixF ns f with
  | some i=>(match ds[i]? with
   |some x=>U (dv x)
   | none=>False)
  | none=>False)
 |_=>False
def vf(O:CO X.K C ns)(he:ED Y X e te)(hb:attributeBase e f X.env (eval e X.env)=eval e X.env:=by rfl):ED Y X (.Attribute e f pos) (dFld C ns f te):=λH_=>impE (Je (he H_) hb) λG H Q q=>by
 obtain⟨L,o,R,U,B,k⟩:=q;refine⟨L,o,R,_,B,λv r H1 s1 Z h1=>?_⟩;have N:=Z.view;obtain⟨kd,d⟩:=r;cases d with
 |ob C' ns' ds =>
  obtain⟨rfl,rfl,h1⟩:=h1;obtain⟨a,dx,xs,rfl,q,_,ln,nd,I⟩:=N;split at h1
  ·rename_i i M;split at h1
   ·rename_i y ey;obtain⟨w,ew,j⟩:=I.get ey;exact⟨a,_,dx,_,w,rfl,q,O.cl,O.na f (k8 M),by rw[vi M (by rw[ln,I.length])];exact ew,k _ (dv y) H1 s1 j h1⟩
   exact h1.elim
  exact h1.elim
 |_=>exact h1.elim
def frs2:EV->Prop
 |⟨.fre,.dk _ ds⟩=>zp ds
 |r=>frs1 r
def O7{K:W.Frag}{H H':Hp}{O:List Addr}{r:EV}{v:V}(h:RV K H H' O r v)(p:frs2 r):∃B,Ft K H' r.d v B/\B.Nodup/\∀b∈B,H b=none:=by
 unfold frs2 at p;split at p
 ·obtain⟨a,rfl,m,n,xs,I,q,nd,j⟩:=h;exact⟨[a],⟨a,xs,[],rfl,I,q,nd,rfl,Reps.fts _ _ p j⟩,by simp,λb M=>by rw[List.mem_singleton.mp M];exact m⟩
 exact Ag h p
def fE2(te:TD):TF:=λL U=>te L λr=>frs2 r/\U r.d
def yq(M:ED Y X e te):EF Y l X e (fE2 te):=λH_=>impE (M H_) λG H Q q=>by
 obtain⟨L,o,A,d,v,S,U,j,k⟩:=q;refine⟨L,o,S.R,_,j,λu r H1 s1 I h1=>?_⟩;obtain⟨B,f,nd,N⟩:=O7 I h1.1;exact k u r.d B H1 s1 f nd N h1.2
def fTup(t:TFs):TF:=λL U=>t L λds=>ds.length<=1000/\U (.tup ds)
def Au{t:TFs} {x1} (h:EFs Y l X es t):EF Y l X (.Tuple es x1 pos) (fTup t):=λH_=>impE (P2 (h H_)) λG H Q q=>by
 obtain⟨L,o,A,d,v,S,U,j,k⟩:=q;refine⟨L,o,A,d,v,S,_,j,λus I B H1 s1 f nd Z h1=>⟨by rw[f.length,sizeLine_eq];omega,λp N=>?_⟩⟩
 have n:=y7 N (HO.tup us);exact k (.ref p) (.tup I) B _ (s1.trans n) ⟨p,us,rfl,⟨SqT.of zw,zw⟩,Fts.keep (Gt.same n) _ _ _ (λa _ x M=>n _ _ M) f⟩ nd Z h1.2
def qFld(l:Nat)(C:Addr)(ns:List Str)(f:Str)(j:TP1)(q:TF):TQS:=λL Z=>q L λx=>j L λπ=>∃d ds,slot L l=some (dv d)/\atQ π d=some (.ob C ns ds)/\ns.length<=100/\(match ixF ns f with
 |some i=>Z.nx (setS L l (dv (putQ π d (.ob C ns (ds.set i x)))))
 | none=>False)
def Uo(O:CO X.K C ns)(hp:EPQ Y l X oe tp)(he:EF Y l X e tf)(hs:swapsWith e (some (.Attribute oe f pos')) pos.line X.env=pure false:=by rfl):QS Y l X (.Assign [.Attribute oe f pos'] e pos) (qFld l C ns f tp tf):=λH_=>impS (Jb (hp H_) (he H_) hs) λDz G H h=>by
 obtain⟨L,o,A,d,v,S,Z,hZ,k1,k2,k3,k4⟩:=h;refine⟨L,o,A,d,v,S,_,hZ,λw y B H1 s1 fy nB M h1=>⟨L,o,A,d,v,S.to s1,_,h1,λu π H2 s2 vp h2=>?_⟩⟩;obtain⟨d',ds,es,ea,hn,h2⟩:=h2;have e2:some (dv d')=some (dv d):=by rw[<- es];exact xw S.hd
 cases e2
 split at h2
 ·rename_i i N;obtain⟨u',A1,hv,f1,n1,sub,dm,_⟩:=S.focQ ea;have j:=s1.trans s2;cases (vp.fn (hv.to j));obtain⟨b,dx,xs,At,rfl,q,I,nd,rfl,fs⟩:=f1;have lx:ns.length=xs.length:=by rw[I,fs.length]
  have hi:i<ds.length:=by
   have e3:=vi (xs:=ds) N I;rcases Nat.lt_or_ge i ds.length with z|z
   ·exact z
   exfalso;have hm:=k8 N;have:∀(ns:List Str)(ds:List D),ns.length=ds.length->f∈ns->(ns.zip ds).lookup f≠none:=λns=>by
    induction ns with
    |nil=>intro _ _ h;cases h
    |cons a r ih =>
     intro ds l h;cases ds with
     |nil=>simp at l
     |cons d ds =>
      rw[List.zip_cons_cons,List.lookup];cases q:(f==a) with
      |true=>exact λz=>by cases z
      |false =>
       rcases zam.mp h with h|h
       ·rw[h]at q;simp at q
       exact ih ds (by simpa using l) h
   exact this ns ds I hm (by rw[e3];exact List.getElem?_eq_none z)
  have a3:Fts X.K H2 ds xs At:=Fts.keep (Gt.same j) _ _ _ (λa _ x hx=>j _ _ hx) fs;have a2:Ft X.K H2 y w B:=Ft.keep (Gt.same s2) _ _ _ (λa _ x hx=>s2 _ _ hx) fy;obtain⟨B0,A1,C0,eA,f3⟩:=Fts.setA hi a3 a2;have a0:=List.nodup_cons.mp n1;obtain⟨n3,m3⟩:=Dq (P:=λ_=>True) eA a0.2 nB (λa ha z=>dm a (zal _ z) (M a ha));obtain⟨A',S',g,_⟩:=S.putH (e:=.ob C ns (ds.set i y)) (ho:=.ins C dx (ns.zip (xs.set i w))) ea ⟨b,dx,xs,At,rfl,q,I,nd,rfl,fs⟩ n1 (λu A2 a1 f2 n2=>by
   cases hv.fn a1
   exact⟨rfl,Ft.uniq _ _ _ _ f2 ⟨b,dx,xs,At,rfl,q,I,nd,rfl,fs⟩⟩) j f3 n3 (λa ha=>(m3 a ha).imp id (M a)) (λ_ z=>by cases z) (λ_ _ z=>by cases z) (λH' hb f=>⟨b,dx,_,_,rfl,hb,by rw[List.length_set];exact I,nd,rfl,f⟩)
  refine⟨b,C,dx,_,rfl,j _ _ q,O.cl,O.na f (k8 N),by rw[List.length_zip];omega,?_⟩
  rw[Up N lx];exact k1 _ _ _ _ _ _ S' h2
 exact h2.elim
def C9(l:Nat)(j:TP1)(q:TF):TQS:=λL Z=>j L λπ=>∃d ds,slot L l=some (dv d)/\atQ π d=some (.lst ds)/\ds.length<=100000/\q L λf=>Z.nx (setS L l (dv (putQ π d (.lst (ds++[f])))))
def xh(hp:EPQ Y l X oe tp)(he:EF Y l X e tf)(q:∀ {ta tb:TE},PE X oe ta->PE X e tb->PS X (.Expr (.Call (.Attribute oe "append" apos) [e] [] cpos) pos) (Wl (tBM X.K "list" Wt ta (Sd tb tNil))):=by
   intro ta tb h1 h2;exact t8 (Sn PySem.F.plainAttrs_list PySem.F.slot_list_append PySem.F.type_list_append gh h1 (w5 h2 u4))) :
  QS Y l X (.Expr (.Call (.Attribute oe "append" apos) [e] [] cpos) pos) (C9 l tp tf):=λH_=>impS (q (hp H_) (he H_)) λDz G H h=>by
 obtain⟨L,o,A,d,v,S,Z,hZ,k1,k2,k3,k4⟩:=h;refine⟨L,o,A,d,v,S,_,hZ,λu π H1 s1 vp h1=>?_⟩;have N:=S.to s1;obtain⟨d',ds,es,ea,hl,h1⟩:=h1;have e2:some (dv d')=some (dv d):=by rw[<- es];exact xw S.hd
 cases e2
 obtain⟨b,ys,A1,vb,j,fs,n1,dm,sub,kk⟩:=N.atL ea;have:=vp.fn vb;subst this;refine⟨.inl ⟨rfl,_,SqL.of j⟩,L,o,A,d,v,N,_,h1,λw f B H2 s2 ff nd M h2=>?_⟩;have f1:Fts X.K H2 ds ys A1:=Fts.keep (Gt.same s2) _ _ _ (λa _ x hx=>s2 _ _ hx) fs;obtain⟨A',S',g,_⟩:=kk H2 (ds++[f]) (ys++[w]) (A1++B) s2 (f1.app ⟨w,[],B,[],rfl,by simp,ff,rfl,rfl⟩) (by
   rw[List.nodup_append];refine⟨n1,nd,λa I b j e=>?_⟩;subst e;exact dm a I (M a j)) (λa I=>(zas.mp I).imp id (M a))
 refine⟨b,ys,w,rfl,rfl,s2 _ _ j,?_,k1 _ _ _ _ _ _ S' h2⟩;rw[fs.length];exact Nat.lt_of_le_of_lt hl (by decide)
def Gj(l:Nat)(j:TP1)(te:TD):TQS:=λL Z=>j L λπ=>∃d ds,slot L l=some (dv d)/\atQ π d=some (.lst ds)/\ds.length<=100000/\te L λr=>match r.d with
 |.lst gs=>zp gs/\gs.length<=1000/\Z.nx (setS L l (dv (putQ π d (.lst (ds++gs)))))
 |_=>False
def Gg(hp:EPQ Y l X oe tp)(he:ED Y X e te)(j:∀ {ta tb:TE},PE X oe ta->PE X e tb->PS X (.Expr (.Call (.Attribute oe "extend" apos) [e] [] cpos) pos) (Wl (tBM X.K "list" Za ta (Sd tb tNil))):=by
   intro ta tb h1 h2;exact t8 (Sn PySem.F.plainAttrs_list PySem.F.slot_list_extend PySem.F.type_list_extend gf h1 (w5 h2 u4))) :
  QS Y l X (.Expr (.Call (.Attribute oe "extend" apos) [e] [] cpos) pos) (Gj l tp te):=λH_=>impS (j (hp H_) (he H_)) λDz G H h=>by
 obtain⟨L,o,A,d,v,S,Z,hZ,k1,k2,k3,k4⟩:=h;refine⟨L,o,A,d,v,S,_,hZ,λu π H1 s1 vp h1=>?_⟩;have N:=S.to s1;obtain⟨d',ds,es,ea,hl,h1⟩:=h1;have e2:some (dv d')=some (dv d):=by rw[<- es];exact xw S.hd
 cases e2
 obtain⟨b,ys,A1,vb,I,fs,n1,dm,sub,kk⟩:=N.atL ea;have:=vp.fn vb;subst this;refine⟨.inl ⟨rfl,_,SqL.of I⟩,L,o,N.R,_,h1,λw r H2 s2 rv h2=>?_⟩;have vw:=rv.view;obtain⟨kd,rd⟩:=r;cases rd with
 |lst gs =>
  obtain⟨pg,lg,h2⟩:=h2;obtain⟨c,q,rfl,hc,B⟩:=vw;have f1:Fts X.K H2 ds ys A1:=Fts.keep (Gt.same s2) _ _ _ (λa _ x hx=>s2 _ _ hx) fs;obtain⟨A',S',g,_⟩:=kk H2 (ds++gs) (ys++q) (A1++[]) s2 (f1.app (Reps.fts _ _ pg B)) (by rw[List.append_nil];exact n1) (λa M=>by rw[List.append_nil]at M;exact .inl M)
  refine⟨b,c,ys,q,rfl,rfl,s2 _ _ I,hc,?_,k1 _ _ _ _ _ _ S' h2⟩;rw[fs.length,B.length,sizeLine_eq];omega
 |_=>exact h2.elim
def C7(l:Nat)(q:TP1)(tk te:TD):TQS:=λL Z=>te L λr=>zl r.d/\q L λπ=>tk L λB=>∃d ds i j,slot L l=some (dv d)/\atQ π d=some (.lst ds)/\B.d=.int i/\ixN ds.length i=some j/\Z.nx (setS L l (dv (putQ π d (.lst (ds.set j r.d)))))
def Gf(hp:EPQ Y l X oe tp)(hk:ED Y X ke tk)(he:ED Y X e te)(hs:swapsWithSole [.Subscript oe ke pos'] e pos.line X.env=pure false:=by rfl)(hw:swappedStores [.Subscript oe ke pos'] e X.env=pure none:=by rfl)(h1:(assignEach [.Subscript oe ke pos'] X.env).map (·.2)=[assign (.Subscript oe ke pos') X.env]:=by rfl)(N:∀ v,assign (.Subscript oe ke pos') X.env v=(do
   let q <- holding [v] (eval oe X.env)
   let M <- holding [v,q] (eval ke X.env)
   standAt pos'
   holding [v,q,M] (setItem q M v)
   release [v,q,M] []):=by intro _;rfl):QS Y l X (.Assign [.Subscript oe ke pos'] e pos) (C7 l tp tk te):=λH_ =>
 impS (Ut (he H_) (Jc (hp H_) (hk H_) U7 N) hs hw h1) λDz G H h=>by
  obtain⟨L,o,A,d,v,S,Z,hZ,k1,k2,k3,k4⟩:=h;refine⟨L,o,S.R,_,hZ,λw r H1 s1 rv h1=>⟨L,o,A,d,v,S.to s1,_,h1.2,λu π H2 s2 vp h2=>⟨L,o,(S.to (s1.trans s2)).R,_,h2,λw2 r2 H3 B I h3=>?_⟩⟩⟩;obtain⟨d',ds,i,j,es,ea,ei,ej,h3⟩:=h3;have e2:some (dv d')=some (dv d):=by rw[<- es];exact xw S.hd
  cases e2
  have S3:=S.to ((s1.trans s2).trans B);obtain⟨b,ys,A1,vb,hb,fs,n1,dm,sub,kk⟩:=S3.atL ea;have:=(vp.to B).fn vb;subst this;have vw:=I.view;rw[ei]at vw;cases (show w2=_ from vw);have fw:Ft X.K H3 r.d w []:=Rep.ft _ _ h1.1 (Rep.keep (O:=[]) (O':=[]) (Gt.same (s2.trans B)) _ _ h1.1 rv.view.rep0);obtain⟨A2,sl,f2⟩:=fs.put j fw;obtain⟨A',S',g,_⟩:=kk H3 _ _ A2 (Same.refl _) f2 (sl.nodup n1) (λa N=>.inl (sl.subset N));exact⟨b,ys,i,j,rfl,rfl,hb,by rw[fs.length];exact ej,k1 _ _ _ _ _ _ S' h3⟩
section
variable{o:List (Nat×Addr)}{A:List Addr}{d:D}
theorem Fts.last:∀{ds:List D}{xs:List V}{A:List Addr},Fts K H ds xs A->ds≠[]->∃e u j I,ds[ds.length-1]?=some e/\xs[xs.length-1]?=some u/\A=j++I/\Fts K H ds.dropLast xs.dropLast j/\Ft K H e u I
 |[],_,_,_,h=>absurd rfl h
 |[d],xs,A,h,_=>by
  obtain⟨v,r,B,C,rfl,rfl,q,t⟩:=h;obtain⟨rfl,rfl⟩:=t;exact⟨d,v,[],B,rfl,rfl,by simp,⟨rfl,rfl⟩,q⟩
 |d::d'::ds,xs,A,h,_=>by
  obtain⟨v,r,B,C,rfl,rfl,q,t⟩:=h;obtain⟨e,u,j,I,e1,e2,rfl,f,M⟩:=Fts.last t (by simp)
  obtain⟨N,Z,_,_,rfl,_⟩:=t;exact⟨e,u,B++j,I,by simpa using e1,by simpa using e2,by simp,⟨v,_,B,j,rfl,rfl,q,f⟩,M⟩
def ST.setR(S:ST K H_ H G L o l A d v){j:Nat}{e:D}{w:V}(q:j≠l)(h:Rep K H (o.map Prod.snd++A) e w):ST K H_ H (G.set j (some w)) (setS L j (dv e)) o l A d v:=by
 refine⟨?_,?_,?_,S.ft⟩
 ·rw[si _ _ q];exact S.Q.setV j (by rw[wc];exact h)
 ·rw[xx,List.getElem?_set_ne q];exact S.hd
 rw[List.getElem?_set_ne q];exact S.hv
theorem rk{α:Type}{f:Str}:∀{ns:List Str}{xs:List α},f∉ns->(ns.zip xs).lookup f=none
 |[],_,_=>rfl
 |n::ns,[],_=>rfl
 |n::ns,x::xs,h=>by
  rw[List.zip_cons_cons,List.lookup,beq_eq_false_iff_ne.mpr (λz=>h (by rw[z];exact zao))]
  exact rk λz=>h (zal _ z)
theorem Uq{f:Str}{y:V}:∀{ns:List Str}{xs:List V},f∉ns->ns.length=xs.length->putF f y (ns.zip xs)=(ns++[f]).zip (xs++[y])
 |[],[],_,_=>rfl
 |[],_::_,_,h=>by simp at h
 |_::_,[],_,h=>by simp at h
 |n::ns,x::xs,h,l=>by
  show(if n=f then(n,y)::ns.zip xs else(n,x)::putF f y (ns.zip xs))=_
  rw[if_neg (λz=>h (by rw[z];exact zao)),Uq (λz=>h (zal _ z)) (by simpa using l)]
  rfl
end
variable{y m:Str}{t:TQs}{T:FTQ}{k:Nat}{ps:List Str}
def Qu(l j:Nat)(q:TP1):TQS:=λL Z=>q L λπ=>∃d ds e,slot L l=some (dv d)/\atQ π d=some (.lst ds)/\ds[ds.length-1]?=some e/\Z.nx (setS (setS L l (dv (putQ π d (.lst ds.dropLast)))) j (dv e))
def Yt(j:Nat)(hj:j≠l)(hN:X.N.Nodup)(hp:EPQ Y l X oe tp)(hi:X.N[j]?=some x:=by rfl)(I:Loc X.env.scope x:=by first|exact Or.inl rfl|exact Or.inr rfl)(hs:swapsWith (.Call (.Attribute oe "pop" apos) [] [] cpos) (some (.Name x pos')) pos.line X.env=pure false:=by rfl)(hf:X.fn x=true\/X.env.scope.names.lookup x=some .local:=by first|exact .inl rfl|exact .inr rfl|assumption)(a0:∀ {ta:TE},PE X oe ta->PE X (.Call (.Attribute oe "pop" apos) [] [] cpos) (tBM0 X.K "list" rPop ta):=by
   intro ta h1;exact Jf PySem.F.plainAttrs_list PySem.F.slot_list_pop PySem.F.type_list_pop Jh h1) :
  QS Y l X (.Assign [.Name x pos'] (.Call (.Attribute oe "pop" apos) [] [] cpos) pos) (Qu l j tp):=λH_=>impS (jz hN hi I (a0 (hp H_)) hs hf) λDz G H h=>by
 obtain⟨L,o,A,d,v,S,Z,hZ,k1,k2,k3,k4⟩:=h;refine⟨L,o,A,d,v,S,_,hZ,λu π H1 s1 vp h1=>?_⟩;have S1:=S.to s1;obtain⟨d',ds,e,es,ea,ee,h1⟩:=h1;have e2:some (dv d')=some (dv d):=by rw[<- es];exact xw S.hd
 cases e2
 obtain⟨b,ys,At,vb,B,fs,n1,dm,sub,kk⟩:=S1.atL ea;have:=vp.fn vb;subst this;obtain⟨e',w,A2,Ae,e1,ew,rfl,f2,fe⟩:=fs.last (λz=>by rw[z]at ee;cases ee)
 rw[ee]at e1;cases e1;have nd:=List.nodup_append.mp n1;obtain⟨A',S',g,out⟩:=kk H1 _ _ A2 (Same.refl _) f2 nd.1 (λa q=>.inl (List.mem_append_left _ q));refine⟨.inl ⟨rfl,_,SqL.of B⟩,b,ys,w,rfl,rfl,B,ew,?_⟩;have dis:∀a∈Ae,a∉o.map Prod.snd++A':=λa q z=>by
  rcases zas.mp z with z|z
  ·exact S1.dis a (sub a (List.mem_append_right _ q)) z
  exact out a (List.mem_append_right _ q) (λy=>nd.2.2 a y a q rfl) z
 have a1:Ft X.K (upd H1 b (.lst ys.dropLast)) e w Ae:=by
  have g1:Grow [b] [b] H1 (upd H1 b (.lst ys.dropLast)):=Nm B;refine Ft.keep g1.gt _ _ _ (λa q x I=>?_) fe;by_cases hab:a=b
  ·exfalso;subst hab;obtain⟨u2,A3,M,f3,_,a2,_,_⟩:=S1.focQ ea;cases vb.fn M;obtain⟨b2,a3,B2,e2,q2,rfl,r2⟩:=f3;cases e2;rw[B]at q2;cases q2;have n3:(a::B2).Nodup:=by assumption
   rw[Fts.uniq _ _ _ _ r2 fs]at n3;exact(List.nodup_cons.mp n3).1 (List.mem_append_right _ q)
  rw[y0 hab];exact I
 exact k1 _ _ _ _ _ _ (S'.setR hj (Ft.rep _ _ _ dis a1)) h1
structure FM(P:Program)(w:World)(K:W.Frag)(mg:Str->Option Value)(base:Heap)(k:Nat)(C:Addr)(ns:List Str)(m:Str)(ps:List Str)(T:FTQ):Prop where
 ex:∃f fd,FnOk P w K mg base CX0 k f fd ps (spQ K ps.length T)/\u0 K fd ps []/\Meth K C m f
 no:m∉ns
def Me(l n:Nat)(C:Addr)(ns:List Str)(T:FTQ)(t:TQs):TQ:=λL U=>∃ds,slot L l=some (dv (.ob C ns ds))/\t L λes j=>match slot j l with
 |some ⟨.val,d⟩=>Nat.beq (es.length+1) n=true/\T d es λr d'=>U r (setS j l (dv d'))
 |_=>False
def X0{H_:Hp}(no:m∉ns):∀G H Q,Bn X.K H_ l (Me l ps.length C ns T t) G H Q->Nv C m (spQ X.K ps.length T) [] E0 (tVar l) (Jj X.K H_ l t) G H Q:=λG H Q q=>by
 obtain⟨L,o,A,d,v,S,U,⟨ds,a0,N⟩,kk⟩:=q;have e0:some (dv d)=some (dv (.ob C ns ds)):=by rw[<- a0];exact(xw S.hd).symm
 cases e0
 obtain⟨a,dx,xs,B,ev,qa,ln,nn,eA,r⟩:=S.ft;refine⟨v,S.hv,a,dx,_,ev,qa,rk no,L,o,A,_,v,S,_,N,λus rs I H1 A1 d1 g1 j M h1=>?_⟩;have Z:slot I l=some (dv d1):=xw j.hd;rw[Z]at h1;show spQ X.K ps.length T (v::(us++[])) H1 Q E0;rw[List.append_nil];refine⟨d1,rs,v,us,A1,_,rfl,Nat.eq_of_beq_eq_true h1.1,j.ft,j.ndA,Reps.sub (λa ha=>List.mem_append_right _ ha) _ _ M,h1.2,λu r d' H' A' g ft nd fr pr rr h2=>?_⟩;exact kk u r _ H' A' d' (g1.trans g) (j.chg g ft nd fr) pr rr h2
def yh{pl:Sem Bool}(O:CO X.K C ns)(F:FM X.prog X.w X.K X.mg X.base k C ns m ps T)(hr:Room k X.A)(ha:QA Y l X (e::es) t)(hN:X.N[l]?=some y:=by rfl)(M:Vis X.env.scope y:=by walk_at "o")(hd:D_ y:=by decide)(B:(y==("__classdict__" : Str))=false:=by decide)(j:S_ X e es:=by rfl)(q:B_ X es pos:=by rfl)(Z:eval (.Call (.Attribute (.Name y np) m apos) (e::es) [] pos) X.env=(do
   let I <- eval (.Name y np) X.env
   standAt apos.atName
   let (f,first) <- holding [I] (getMethod I m pl)
   callWith pos f first (backTo pos (starEach (e::es) X.env)) (backToKw pos (keywordEach [] X.env))):=by rfl) :
  EQ Y l X (.Call (.Attribute (.Name y np) m apos) (e::es) [] pos) (Me l ps.length C ns T t):=λH_=>by
 obtain⟨f,fd,ok,b,hm⟩:=F.ex;exact impE (P3 (uw hN M hd B) O.cl hm ok hr b .nil Ww (ha H_) j q Z) (X0 F.no)
def Tg{pl:Sem Bool}(O:CO X.K C ns)(F:FM X.prog X.w X.K X.mg X.base k C ns m ps T)(hr:Room k X.A)(hN:X.N[l]?=some y:=by rfl)(hv:Vis X.env.scope y:=by walk_at "o")(hd:D_ y:=by decide)(I:(y==("__classdict__" : Str))=false:=by decide)(ht:eval (.Call (.Attribute (.Name y np) m apos) [] [] pos) X.env=(do
   let M <- eval (.Name y np) X.env
   standAt apos.atName
   let (f,first) <- holding [M] (getMethod M m pl)
   callWith pos f first (backTo pos (starEach [] X.env)) (backToKw pos (keywordEach [] X.env))):=by rfl) :
  EQ Y l X (.Call (.Attribute (.Name y np) m apos) [] [] pos) (Me l ps.length C ns T Gh):=λH_=>by
 obtain⟨f,fd,ok,b,hm⟩:=F.ex;refine impE (Uw (uw hN hv hd I) O.cl hm ok hr b .nil Ww ht) λG H Q q=>?_;obtain⟨v,B,a,dx,fs,e1,Z,l1,z⟩:=X0 F.no G H Q q;refine⟨v,B,a,dx,fs,e1,Z,l1,?_⟩;obtain⟨L,o,A,d,v2,S,U,j,k⟩:=z;exact k [] [] L H A d Grow.refl S rfl j
def qWh(tc:TQb)(tb:TQS):TQS:=λL Z=>∃(P:DE->Prop)(μ:DE->Nat),P L/\∀ρ1,P ρ1->tc ρ1 λb q=>(b=true->tb q {nx:=λj=>P j/\μ j<μ ρ1,rt:=Z.rt})/\(b=false->Z.nx q)
def Mc{c:Expr}{B:List Stmt}{tc:TQb}{tb:TQS}(hc:QT Y l X c tc)(hb:QSs Y l X B tb)(hp:PassesOwn (model X.prog X.w) X.A X.env X.xe:=by exact PassesOwn.never):QS Y l X (.While c B [] pos) (qWh tc tb):=λH_=>impS (Ur hp (hc H_) (hb H_)) λDz G H h=>by
 obtain⟨L,o,A,d,v,S,Z,⟨P,μ,hP,M⟩,k1,k2,k3,k4⟩:=h;refine⟨λm j H'=>∃ρ' o' A' d',ST X.K H_.1 H' j ρ' o' l A' d' v/\P ρ'/\μ ρ'=m,⟨_,L,o,A,d,S,hP,rfl⟩,?_⟩;rintro m a2 H1 ⟨I,o1,A1,d1,S1,p1,rfl⟩;refine⟨I,o1,A1,d1,v,S1,_,M I p1,λb a0 H2 A2 d2 g2 S2 h2=>?_⟩;cases b with
 |false =>
  rw[if_neg (by decide)]
  exact k1 _ _ _ _ _ _ S2 (h2.2 rfl)
 |true =>
  rw[if_pos rfl];refine⟨λj H'=>∃ρ' o' A' d',ST X.K H_.1 H' j ρ' o' l A' d' v/\P ρ'/\μ ρ'<μ I,λj H' ⟨ρ',o',A',d',S',p',q'⟩=>⟨_,q',ρ',o',A',d',S',p',rfl⟩,a0,o1,A2,d2,v,S2,_,h2.1 rfl,λN a1 H3 o3 A3 d3 S3 h3=>⟨N,o3,A3,d3,S3,h3.1,h3.2⟩,λ_ _ _ _ _ _ _ q=>q.elim,λ_ _ _ _ _ _ _ q=>q.elim,k4⟩
def Gi(l:Nat)(C:Addr)(f:Str)(j:TP1)(q:TF):TQS:=λL Z=>q L λx=>j L λπ=>∃d ns ds,slot L l=some (dv d)/\atQ π d=some (.ob C ns ds)/\ns.length<=100/\f∉ns/\Z.nx (setS L l (dv (putQ π d (.ob C (ns++[f]) (ds++[x])))))
def t7(cl:Cls X.K C)(na:j4 X.K C f)(hp:EPQ Y l X oe tp)(he:EF Y l X e tf)(hs:swapsWith e (some (.Attribute oe f pos')) pos.line X.env=pure false:=by rfl):QS Y l X (.Assign [.Attribute oe f pos'] e pos) (Gi l C f tp tf):=λH_=>impS (Jb (hp H_) (he H_) hs) λDz G H h=>by
 obtain⟨L,o,A,d,v,S,Z,hZ,k1,k2,k3,k4⟩:=h;refine⟨L,o,A,d,v,S,_,hZ,λw y B H1 s1 fy nB M h1=>⟨L,o,A,d,v,S.to s1,_,h1,λu π H2 s2 vp h2=>?_⟩⟩;obtain⟨d',ns,ds,es,ea,hn,hf,h2⟩:=h2;have e2:some (dv d')=some (dv d):=by rw[<- es];exact xw S.hd
 cases e2
 obtain⟨u',A1,hv,f1,n1,sub,dm,_⟩:=S.focQ ea;have j:=s1.trans s2;cases (vp.fn (hv.to j));obtain⟨b,dx,xs,At,rfl,q,N,nd,rfl,fs⟩:=f1;have lx:ns.length=xs.length:=by rw[N,fs.length]
 have a4:Fts X.K H2 ds xs At:=Fts.keep (Gt.same j) _ _ _ (λa _ x hx=>j _ _ hx) fs;have a3:Ft X.K H2 y w B:=Ft.keep (Gt.same s2) _ _ _ (λa _ x hx=>s2 _ _ hx) fy;have a0:=List.nodup_cons.mp n1;have a1:(ns++[f]).Nodup:=by
  rw[List.nodup_append];refine⟨nd,by simp,λa I c hc e=>?_⟩
  rw[List.mem_singleton.mp hc]at e;exact hf (e▸I)
 obtain⟨A',S',g,_⟩:=S.putH (e:=.ob C (ns++[f]) (ds++[y])) (ho:=.ins C dx ((ns++[f]).zip (xs++[w]))) (A1':=At++B) ea ⟨b,dx,xs,At,rfl,q,N,nd,rfl,fs⟩ n1 (λu A2 a2 f2 n2=>by
  cases hv.fn a2
  exact⟨rfl,Ft.uniq _ _ _ _ f2 ⟨b,dx,xs,At,rfl,q,N,nd,rfl,fs⟩⟩) j (a4.app (es:=[y]) (ys:=[w]) ⟨w,[],B,[],rfl,by simp,a3,rfl,rfl⟩) (by
   rw[List.nodup_append];refine⟨a0.2,nB,λa I c hc e=>?_⟩;subst e;exact dm a (zal _ I) (M a hc)) (λa I=>(zas.mp I).imp id (M a)) (λ_ z=>by cases z) (λ_ _ z=>by cases z) (λH' hb f'=>⟨b,dx,_,_,rfl,hb,by rw[zLa,zLa,N];rfl,a1,rfl,f'⟩)
 refine⟨b,C,dx,_,rfl,j _ _ q,cl,na,by rw[List.length_zip];omega,?_⟩
 rw[Uq hf lx];exact k1 _ _ _ _ _ _ S' h2
def sj{x I m:Str}{st:Stmt}{f:Addr}{fd:FuncData}{N ps:List Str}{k:Nat}{T:FTQ}{C:Addr}{ns:List Str}(F:Fun K x I st f fd)(S:zj N ps (zb st))(b:u0 K fd ps [])(hm:Meth K C m f)(no:m∉ns)(qY:∀ (qZ:Value) (A:Around) (outer:List Env) (s:Shared) (H:Hp) (E:XK) (d:D) (ds:List D) (U:D->D->Prop),Room k (A.deeper (envOfC I (zb st) s.heap.objs.size f qZ))->ds.length+1=ps.length->T d ds U ->
   ∃ t,QSs (λ_=>True) 0 (cxOf CX0 P w K mg base N I (zb st) f qZ A outer s H E).nox (yi st) t/\t (xa N.length (d::ds)) {nx:=λL=>∃ d',slot L 0=some (dv d')/\U .non d',rt:=λr L=>∃ d',slot L 0=some (dv d')/\U r d'}):FM P w K mg base (k+1) C ns m ps T:=by
 refine⟨⟨f,fd,F.ok S (λvs H Q E h=>?_) (λqZ A outer s H vs Q E hr h=>?_),b,hm⟩,no⟩
 ·obtain⟨d,ds,v,ws,A,U,rfl,hl,_,_,r,_⟩:=h;rw[zLc,r.length,hl]
 obtain⟨d,ds,v,ws,B,U,rfl,hl,ft,nd,r,hT,kk⟩:=h;obtain⟨t,ht,hq⟩:=qY qZ A outer s H E d ds U hr hl hT;have R0:=ug (N:=N) (ds:=d::ds) (vs:=v::ws) (H:=H) ⟨v,ws,rfl,Ft.rep _ _ _ (λa _ z=>by cases z) ft,Reps.sub (λa ha=>by cases ha) _ _ r⟩
 have s0:=kj B H;have S0:ST K (vg B H) H (ZZ.start N (v::ws)) (xa N.length (d::ds)) [] 0 B d v:=by
  refine⟨⟨s0,λp hp=>?_,λp hp=>?_,λp hp=>?_,?_,λi q e=>?_,?_⟩,rfl,rfl,ft⟩
  ·obtain⟨a,ha,rfl⟩:=zah.mp (show p∈tg 0 B from hp);exact qr ha
  ·obtain⟨a,ha,rfl⟩:=zah.mp (show p∈tg 0 B from hp);obtain⟨u,hu,_⟩:=Ft.dom _ _ _ ft a ha;exact⟨u,hu⟩
  ·obtain⟨a,ha,rfl⟩:=zah.mp (show p∈tg 0 B from hp);obtain⟨u,hu,n1,n2⟩:=Ft.dom _ _ _ ft a ha;refine⟨λxs z=>?_,λob w z=>?_⟩
   ·rw[hu]at z;cases z;exact n1 _ rfl
   rw[hu]at z;cases z;exact n2 _ _ rfl
  ·rw[wc];exact nd
  ·obtain⟨hi,e⟩:=ka e;rw[wc];cases i with
   |zero=>exact absurd rfl hi
   |succ i =>
    have e':((ds.map λd=>some (dv d))++List.replicate (N.length-(d::ds).length) none)[i]?=some (some q):=e;rcases Nat.lt_or_ge i ds.length with hi|hi
    ·rw[List.getElem?_append_left (by simpa using hi),zai]at e'
     have ed:ds[i]?=some ds[i]:=by simp[hi]
     rw[ed]at e';have e2:some (dv ds[i])=some q:=Option.some.inj e';cases e2;obtain⟨u,eu,ru⟩:=r.get ed;refine⟨u,?_,.inl ⟨rfl,ru⟩⟩;unfold ZZ.start;show((ws.map some)++_)[i]?=_;rw[List.getElem?_append_left (by rw[zLm,r.length];exact hi),zai,eu]
     rfl
    rw[List.getElem?_append_right (by simpa using hi),List.getElem?_replicate]at e'
    split at e' <;> cases e'
  rw[ux,List.length_set];exact R0.len
 have a0:∀u e d' ρ' j H' o' A' d2,ST K (vg B H) H' j ρ' o' 0 A' d2 v->zl e->Rep K H' [] e u->slot ρ' 0=some (dv d')->U e d'->Q u H':=λu e d' ρ' j H' o' A' d2 Z pe re es h=>by
  have e2:some (dv d2)=some (dv d'):=by
   rw[<- es];exact(xw Z.hd).symm
  cases e2
  have kp:∀b x,H b=some x->b∉B->H' b=some x:=λb x M hn=>Z.Q.same b x (by rw[xf hn];exact M)
  refine kk u e d' H' A' ⟨λb x M hn=>⟨kp b x M hn,λz=>?_⟩,λb xs M=>kp b _ M λz=>?_,λb ob w M=>kp b _ M λz=>?_⟩ Z.ft Z.ndA (λa ha=>?_) pe re h
  ·have:=Z.frA b z;rw[xf hn,M]at this;cases this
  ·obtain⟨w,hw,n1,_⟩:=Ft.dom _ _ _ ft b z;rw[M]at hw;cases hw;exact n1 _ rfl
  ·obtain⟨w',hw,_,n2⟩:=Ft.dom _ _ _ ft b z;rw[M]at hw;cases hw;exact n2 _ _ rfl
  have:=Z.frA a ha;by_cases hA:a∈B
  ·exact .inl hA
  rw[xf hA]at this;exact .inr this
 refine⟨Pn K (vg B H) 0 t,ht ⟨vg B H,trivial⟩,xa N.length (d::ds),[],B,d,v,S0,_,hq,λρ' j H' o' A' d2 Z Zh=>?_,λ_ _ _ _ _ _ _ q=>q.elim,λ_ _ _ _ _ _ _ q=>q.elim,λu e ρ' j H' o' A' d2 Z pe re ⟨d',es,h'⟩=>a0 u e d' ρ' j H' o' A' d2 Z pe re es h'⟩;obtain⟨d',es,h'⟩:=Zh;exact a0 .non .non d' ρ' j H' o' A' d2 Z trivial rfl es h'
def Ms:typeLookup (.type "zip") "keys" = pure none:=am_miss_of_fast (by kernel_rfl)
def bx:typeLookup (.type "zip") "__getattr__" = pure none:=am_miss_of_fast (by kernel_rfl)
def ci:entryFor table "zip.__getattribute__" = some Builtin.«object.__getattribute__»:=entryFor_alias (id':="object.__getattribute__") (by kernel_rfl) (by decide +kernel) (by decide +kernel) (by kernel_rfl)
def Pe(a:Addr)(fs:Array Value)(u:Tok):Meets (Builtin.«object.__getattribute__» ⟨[.ref a,.str "keys" u],[]⟩) (λA R s=>s.heap.get? a=some {cls:=.type "zip",dict:=none,data:=.fields fs,slots:=#[]}/\raisesAttr (.ref a) "keys" A R s) :=
 Meets.of_wp λP w A R s hs=>by
  obtain⟨B,g,d,tk,j⟩:=s;obtain⟨q,hs⟩:=hs;have hT:(⟨B,g,d,tk,j⟩:Shared).TypeIs (.ref a) "zip":=⟨_,q,rfl⟩;have I:=Ms;unfold Builtin.«object.__getattribute__»
  repeat (any_goals (first|exact hT|exact I|assumption|wp_step))
  exact wpAny_raiseAttrError hs.1 hs.2 (attrMsg_fits (by decide +kernel) (by size_fits))
def rn1{fs:Array Value}{Q:Option Value->Shared->Prop}(I:s.heap.get? a=some {cls:=.type "zip",dict:=none,data:=.fields fs,slots:=#[]})(hA:A.handled=none)(h:∀ g tk,(∀ b u,s.heap.get? b=some u->g.get? b=some u)->Q none {s with heap:=g,toks:=tk}):wpAny (model P w) A (getAttr? (.ref a) "keys") Q E s:=by
 obtain⟨M,g,d,tk,B⟩:=s;have hT:∀j,(⟨M,g,d,j,B⟩:Shared).TypeIs (.ref a) "zip":=λ_=>⟨_,I,rfl⟩;have f1:=sub_AttributeError;have f3:=F.slot_zip_getattribute.lookup;have f4:=F.slot_zip_getattribute.bind (.ref a);have f5:=bx;unfold getAttr? getAttrBy? getAttrBy
 repeat (any_goals (first|assumption|exact hT _|((with_reducible show wpAny _ _ (call (Value.builtin "zip.__getattribute__") _ _) _ _ _);refine call_meets F.slot_zip_getattribute (hT _) ci (F.args_zip_getattribute_2 _ _) (Pe a fs _) ⟨I,hA,λh' j e q=>?_⟩)|wp_step))
 obtain⟨t',u',N⟩:=q.there;have Z:∀tk'',(⟨h',g,d,tk'',B⟩:Shared).TypeIs (.ref e) "AttributeError":=λ_=>⟨_,N,rfl⟩;show wpAny _ _ (getattributeRaised _ _ _ _ _ _ _) _ _ _;unfold getattributeRaised
 repeat (any_goals (first|assumption|exact Z _|wp_step))
 exact h _ _ q.keeps
section
variable{R:Result->Shared->Prop}{b1 b2:Bool}{d z ti to i1 i2 l1 l2:Addr}{xs ys:Array Value}{h0:Heap}
def S7{more:List (Key×Value)}(hh:A.handled=none)(D:ZZ.ZNe z ti to i1 i2)(d1:ZZ.ZOff z to i1 i2 l1)(d2:ZZ.ZOff z to i1 i2 l2)(lz:z<d)(a7:ti<d)(M:to<d)(a0:i1<d)(N:i2<d)(a6:l1≠d)(a5:l2≠d)(b3:xs.size=ys.size)(b4:more.length=xs.size)(hn:xs.size<=1000)(a9:(more.map (·.1)).Nodup)(hv:∀ (i:Nat) x y,xs[i]?=some x->ys[i]?=some y->∃ k t,x=.str k t/\more[i]?=some (Sum.inr k,y)) :
  ∀(k i:Nat)(s:Shared)(tk:Tok)(as:List Addr),xs.size-i=k->i<=xs.size->as.length=i->ZZ.ZS b1 b2 z ti to i1 i2 l1 l2 as i s.heap->ZZ.PairsZ s.heap xs ys d as->ZZ.SqAt b1 s.heap l1 xs->ZZ.SqAt b2 s.heap l2 ys ->
   (∀b o,b≠d->ZZ.ZOff z to i1 i2 b->h0.get? b=some o->s.heap.get? b=some o)->s.heap.DictOf (yk P w) d (more.take i) ->
   (∀g tk,g.DictOf (yk P w) d more->(∀b o,b≠d->ZZ.ZOff z to i1 i2 b->h0.get? b=some o->g.get? b=some o)->R (.ok (.ret .none)) {s with heap:=g,toks:=tk}) ->
   codeAny (model P w) A (.builtin "dict.update.loop" ⟨[.ref d,.ref z,.int i tk,.none],[]⟩) R s:=by
 have B:ZZ.ZOff z to i1 i2 d:=⟨Nat.ne_of_gt lz,Nat.ne_of_gt M,Nat.ne_of_gt a0,Nat.ne_of_gt N⟩;have a2:∀{a:Addr},d<a->ZZ.ZOff z to i1 i2 a:=λ{a} q=>⟨Nat.ne_of_gt (Nat.lt_trans lz q),Nat.ne_of_gt (Nat.lt_trans M q),Nat.ne_of_gt (Nat.lt_trans a0 q),Nat.ne_of_gt (Nat.lt_trans N q)⟩;have b0:A.in1.handled=none:=by simpa using hh
 intro k
 induction k with
 |zero =>
  intro i s tk as hk hi la Z pa t1 t2 j q hR;have e:i=xs.size:=by omega
  refine codeAny_builtin uj ?_;rw[Around.under_plainId xj _];show wpAny _ A.in1 (pyNext (.ref z) >>= _) _ _ s;refine zaa (D8 b0 D d1 d2 Z pa t1 t2 (by rw[e];simp) λg I=>?_)
  show wpAny _ A.in1 (Builtin.Dict.addKeywords d [] >>= _) _ _ _;refine zaa (zab (zab (hR g s.toks ?_ λb o h1 h2 e=>I b o h2 (j b o h1 h2 e))));rw[List.take_of_length_le (by omega)]at q
  obtain⟨o,es,ep,ho,mm⟩:=q;exact⟨o,es,ep,I d o B ho,mm⟩
 |succ k ih =>
  intro i s tk as hk hi la Z pa t1 t2 j q hR;have lt:i<xs.size:=by omega
  have ex:xs[i]?=some xs[i]:=by simp[lt]
  have ey:ys[i]?=some (ys[i]'(by omega)):=by simp[show i<ys.size by omega]
  obtain⟨x,t,hx,hm⟩:=hv i _ _ ex ey;obtain⟨u,hu⟩:∃u,u=ys[i]'(by omega):=⟨_,rfl⟩
  rw[<- hu]at ey hm;rw[hx]at ex;refine codeAny_builtin uj ?_;rw[Around.under_plainId xj _];show wpAny _ A.in1 (pyNext (.ref z) >>= _) _ _ s;refine zaa (Ha D d1 d2 Z pa t1 t2 ex ey λg Z2 pr I=>?_);have ld:d<s.heap.objs.size:=by obtain⟨o,_,_,ho,_⟩:=q;exact zae ho
  have q2:g.DictOf (yk P w) d (more.take i):=by
   obtain⟨o',es,ep,a8,mm⟩:=q;exact⟨o',es,ep,I d o' B a8,mm⟩
  have a3:(Sum.inr x:Key)∉(more.take i).map (·.1):=by
   have e:more.take (i+1)=more.take i++[(Sum.inr x,u)]:=by rw[List.take_succ,hm];rfl
   have h4:((more.take (i+1)).map (·.1)).Nodup:=a9.sublist ((List.take_sublist _ _).map _);rw[e,zMa,List.nodup_append]at h4;intro z;exact h4.2.2 _ z (Sum.inr x) (by simp) rfl
  have a1:ZZ.PairsZ g xs ys d (as++[s.heap.objs.size]):=(pa.to λa o ha e=>I a o (a2 (pa.1 a ha)) e).snoc ld (λm=>Nat.lt_irrefl _ (pa.lt m)) (by rw[la];exact ex) (by rw[la];exact ey) pr
  show wpAny _ A.in1 (holding [Value.ref s.heap.objs.size] _ >>= _) _ _ _;refine zaa (wpAny_holding (zaa (wpAny_tryCatch ?_)));unfold Builtin.Dict.pairItems;refine zaa (wpAny_typeOf (s:={s with heap:=g}) ⟨_,pr,rfl⟩ ?_);rw[if_pos (by decide)]
  refine zaa (wpAny_seqItems (s:={s with heap:=g}) pr rfl (zab ?_));show wpAny _ A.in1 (holding [Value.str x t,u] (dictSet d (.str x t) u)) _ _ _;refine wpAny_holding (wpAny_dictSet_pairs (s:={s with heap:=g}) (knd:=yk P w) (k:=Sum.inr x) (gj P w x t) q2 (λg2 q3 sb=>?_) (by rw[List.length_take];exact zak (Nat.min_le_left _ _) (zak hi (zak hn (by decide)))))
  refine zab ⟨plainId_quiet xj _,?_⟩;rw[cw a3,show more.take i++[((Sum.inr x:Key),u)]=more.take (i+1) by rw[List.take_succ,hm];rfl]at q3
  show codeAny (model P w) A (.builtin "dict.update.loop" ⟨[.ref d,.ref z,.int ((i:Int)+1) _,.none],[]⟩) R _;have ei:((i:Int)+1)=((i+1:Nat):Int):=by omega
  rw[ei];refine ih (i+1) _ _ (as++[s.heap.objs.size]) (by omega) lt (by rw[zLa,la];rfl) (Z2.to λc o hc e=>sb.extBut c o (λz=>?_) e) (a1.to λa o ha e=>sb.extBut a o (Nat.ne_of_gt (a1.1 a ha)) e) ((t1.at λo e=>I _ o d1 e).at λo e=>sb.extBut _ o a6 e) ((t2.at λo e=>I _ o d2 e).at λo e=>sb.extBut _ o a5 e)
   (λb o' h1 h2 e=>sb.extBut b o' h1 (I b o' h2 (j b o' h1 h2 e))) q3 λg3 a4 q4 k4=>hR g3 a4 q4 k4
  subst z;rcases hc with rfl|rfl|rfl|rfl|rfl
  ·exact Nat.lt_irrefl _ lz
  ·exact Nat.lt_irrefl _ a7
  ·exact Nat.lt_irrefl _ M
  ·exact Nat.lt_irrefl _ a0
  exact Nat.lt_irrefl _ N
end
section
variable{b1 b2:Bool}{z ti to i1 i2 l1 l2:Addr}{xs ys:Array Value}
def dict_zip{more:List (Key×Value)}{Q:Value->Shared->Prop}(hh:A.handled=none)(D:ZZ.ZNe z ti to i1 i2)(d1:ZZ.ZOff z to i1 i2 l1)(d2:ZZ.ZOff z to i1 i2 l2)(Z:ZZ.ZAt b1 b2 s.heap z ti to i1 i2 l1 l2 .none 0)(t1:ZZ.SqAt b1 s.heap l1 xs)(t2:ZZ.SqAt b2 s.heap l2 ys)(a6:xs.size=ys.size)(a8:more.length=xs.size)(hn:xs.size<=1000)(a7:(more.map (·.1)).Nodup)(hv:∀ (i:Nat) x y,xs[i]?=some x->ys[i]?=some y->∃ k t,x=.str k t/\more[i]?=some (Sum.inr k,y))(h:∀ g tk,g.DictOf (yk P w) s.heap.objs.size more->(∀ b o,ZZ.ZOff z to i1 i2 b->s.heap.get? b=some o->g.get? b=some o)->Q (.ref s.heap.objs.size) {s with heap:=g,toks:=tk}):wpAny (model P w) A (call (.type "dict") [.ref z]) Q E s:=by
 refine callType_codes (Q₁:=λN y=>N=.ref s.heap.objs.size/\y={s with heap:=s.heap.push {cls:=.type "dict",data:=.dict #[]}}) F.kt_called_dict (F.kt_typeCall_dict_1 _) F.entry_dict_init (kt_code_dict_new _ ⟨rfl,rfl⟩) ?_;rintro N y ⟨rfl,rfl⟩;obtain⟨zz,its,⟨oa,ob,out⟩,one,M⟩:=id Z;have lz:z<s.heap.objs.size:=zae zz;have a5:ti<s.heap.objs.size:=zae its;have a4:to<s.heap.objs.size:=zae out;have li:∀{b:Bool}{it l:Addr}{i:Nat},ZZ.ItAt b s.heap it l i->it<s.heap.objs.size:=λ{b it l i} q=>by
  cases b with
  |true=>obtain⟨o,e,_⟩:=(show s.heap.IsTupleIter it l i from q);exact zae e
  |false=>obtain⟨o,e,_⟩:=(show s.heap.IsListIter it l i from q);exact zae e
 have ls:∀{b:Bool}{l:Addr}{xs:Array Value},ZZ.SqAt b s.heap l xs->l<s.heap.objs.size:=λ{b l xs} q=>by
  cases b with
  |true=>obtain⟨o,e,_⟩:=(show s.heap.IsTuple l xs from q);exact zae e
  |false=>obtain⟨o,e,_⟩:=(show s.heap.IsList l xs from q);exact zae e
 have new:(s.heap.push {cls:=.type "dict",data:=.dict #[]}).DictOf (yk P w) s.heap.objs.size []:=Heap.DictOf.new s.heap;have a1:∀b u,s.heap.get? b=some u->(s.heap.push {cls:=.type "dict",data:=.dict #[]}).get? b=some u:=λb u e=>zac _ e;have I:=a1 z _ zz;have a2:Shared.TypeIs {s with heap:=s.heap.push {cls:=.type "dict",data:=.dict #[]}} (.ref z) "zip":=⟨_,I,rfl⟩;refine⟨new.typeIs,F.args_dict_init_2 _ _,?_⟩;unfold Builtin.«dict.__init__»;refine zaa ?_;unfold Builtin.Dict.selfAndRest;refine zaa (wpAny_notOrdered_dict new.typeIs ?_);show wpAny _ _ (pure (s.heap.objs.size,[Value.ref z])) _ _ _;refine zab ?_;show wpAny _ _ (Builtin.Dict.updateFrom "dict.__init__" s.heap.objs.size (.ref z) [] .none) _ _ _;unfold Builtin.Dict.updateFrom;refine zaa (wpAny_typeOf a2 ?_);rw[if_pos (by decide)]
 refine zaa (rn1 I (by simpa using hh) λg tk a0=>?_)
 rw[if_pos (show(Option.none:Option Value).isNone=true from rfl)];have B:∀b o,s.heap.get? b=some o->g.get? b=some o:=λb o e=>a0 b o (a1 b o e);refine zaa (wpAny_rule (zaa (wpAny_pyIter_zip (s:={s with heap:=g,toks:=tk}) (B z _ zz) ?_)));refine zab ⟨plainId_quiet xj _,?_⟩;have q0:g.DictOf (yk P w) s.heap.objs.size []:=by
  obtain⟨o,es,ep,ho,mm⟩:=new;exact⟨o,es,ep,a0 _ _ ho,mm⟩
 refine S7 (h0:=s.heap) (b1:=b1) (b2:=b2) (ys:=ys) (by simpa using hh) D d1 d2 lz a5 a4 (li one) (li M) (Nat.ne_of_lt (ls t1)) (Nat.ne_of_lt (ls t2)) a6 a8 hn a7 hv xs.size 0 _ _ [] (Nat.sub_zero _) (Nat.zero_le _) rfl
  (.inl ⟨rfl,B _ _ zz,B _ _ its,⟨oa,ob,B _ _ out⟩,one.at λo e=>B _ o e,M.at λo e=>B _ o e⟩) ⟨(λ_ q=>nomatch q),List.nodup_nil,λj a e=>by simp at e⟩ (t1.at λo e=>B _ o e) (t2.at λo e=>B _ o e) (λb o _ _ e=>B b o e) q0 λg2 a3 q2 k2=>?_
 exact⟨rfl,h g2 a3 q2 λb o q e=>k2 b o (Nat.ne_of_lt (zae e)) q e⟩
end
def Nw(K:W.Frag)(ta:TA):TE:=λG H Q=>ta G H λvs H1=>∃b1 b2 l1 l2 xs ys,∃zs:List Str,vs=[.ref l1,.ref l2]/\SqK b1 K H1 l1 xs/\SqK b2 K H1 l2 ys/\xs=zs.map V.str/\xs.length=ys.length/\xs.length<=1000/\zs.Nodup /\
 ∀l,H1 l=none->Q (.ref l) (upd H1 l (.dK ((zs.map Sum.inr).zip ys)))
def Sl{X:Cx}{a b:Expr}{ta:TA}{p p2 pos pos2:Pos}(hc:X.calm=true)(hg:Gl X "dict")(hm:X.mg "dict" = none)(a5:Gl X "zip")(a4:X.mg "zip" = none)(ha:PA X [a,b] ta)(h1:starEach [.Call (.Name "zip" p2) [a,b] [] pos2] X.env=(false,eval (.Call (.Name "zip" p2) [a,b] [] pos2) X.env)::starEach [] X.env:=by rfl)(he:starEach [a,b] X.env=(false,eval a X.env)::starEach [b] X.env:=by rfl)(a3:(backTo pos2 (starEach [b] X.env)).any (·.1)=false:=by rfl) :
  PE X (.Call (.Name "dict" p) [.Call (.Name "zip" p2) [a,b] [] pos2] [] pos) (Nw X.K ta):=by
 intro pn s G H Q I h;refine wpAny_Call_Name_kw (su I hg hm ZZ.boot_dict' ?_ (by decide) (by decide))
 refine PyProof.Rows.callWith_type1 ?_ h1 (by rfl)
 rw[h1];show wpAny _ _ (spliced ((false,eval _ X.env)::backTo pos (starEach [] X.env))) _ _ s;refine Calls.spliced_cons ?_;refine wpAny_Call_Name_kw (su I a5 a4 W5 ?_ (by decide) (by decide))
 refine PyProof.Rows.callWith_type1 (thn (ha pos2 pn s G H _ I h) λus s1 Zh=>?_) he a3;obtain⟨vs,H1,I1,N,b1,b2,l1,l2,xs,ys,M,e,e1,e2,ez,hl,hn,nd,q⟩:=Zh;subst e;obtain⟨u,v,rfl,ru,rv⟩:=Hd N;cases ru;cases rv;obtain⟨j,N,g1⟩:=Ym I1 e1;obtain⟨B,r2,g2⟩:=Ym I1 e2;refine Vz (xs:=j.toArray) (ys:=B.toArray) g1 g2 λg Z kp=>Calls.spliced_nil ?_;have D:ZNe (s1.heap.objs.size+4) (s1.heap.objs.size+2) (s1.heap.objs.size+3) s1.heap.objs.size (s1.heap.objs.size+1):=by
  constructor <;> (intro z;exact absurd (show(_:Nat)=_ from z) (by omega))
 have a0:∀{c:Addr},c<s1.heap.objs.size->ZOff (s1.heap.objs.size+4) (s1.heap.objs.size+3) s1.heap.objs.size (s1.heap.objs.size+1) c:=λ{c} q=>⟨Nat.ne_of_lt (Nat.lt_of_lt_of_le q (Nat.le_add_right _ _)),Nat.ne_of_lt (Nat.lt_of_lt_of_le q (Nat.le_add_right _ _)),Nat.ne_of_lt q,Nat.ne_of_lt (Nat.lt_of_lt_of_le q (Nat.le_add_right _ _))⟩;have a2:∀{b:Bool}{l:Addr}{its:List Value},SqAt b s1.heap l its.toArray->l<s1.heap.objs.size:=λ{b l its} q=>by
  cases b with
  |true=>obtain⟨o,e,_⟩:=(show s1.heap.IsTuple _ _ from q);exact zae e
  |false=>obtain⟨o,e,_⟩:=(show s1.heap.IsList _ _ from q);exact zae e
 have big:s1.heap.objs.size+4<g.objs.size:=zae Z.zz;have n1:=N.length;have n2:=r2.length;have hb:=I1.big;have ex:∀(M:List Str)(j B:List Value)(ys:List V),Vals (M.map V.str) j->Vals ys B->M.length=ys.length->∃more:List (Key×Value),KV ((M.map (Sum.inr:Str->Key)).zip ys) more/\more.length=j.length/\more.map (·.1)=M.map (Sum.inr:Str->Key) /\
   ∀(i:Nat) x y,j[i]?=some x->B[i]?=some y->∃k t,x=.str k t/\more[i]?=some (Sum.inr k,y):=by
  intro M
  induction M with
  |nil =>
   intro j B ys N r2 l;cases N;cases ys with
   |nil=>exact⟨[],.nil,rfl,rfl,λi x y e=>by simp at e⟩
   |cons _ _=>simp at l
  |cons zt M ih =>
   intro j B ys N r2 l;cases ys with
   |nil=>simp at l
   |cons y ys =>
    cases N with
    |cons h1 t1 =>
     cases r2 with
     |cons h2 t2 =>
      obtain⟨more,k1,k2,k3,k4⟩:=ih _ _ ys t1 t2 (by simpa using l)
      obtain⟨tt,rfl⟩:=h1;rename_i u2 _;refine⟨(Sum.inr zt,u2)::more,.cons ⟨rfl,h2⟩ k1,by simp[k2],by simp[k3],λi x y' e e'=>?_⟩
      cases i with
      |zero =>
       simp at e e';subst e e';exact⟨zt,tt,rfl,rfl⟩
      |succ i =>
       obtain⟨k,t,e3,e4⟩:=k4 i x y' (by simpa using e) (by simpa using e')
       exact⟨k,t,e3,by simpa using e4⟩
 subst ez;obtain⟨more,k1,k2,k3,k4⟩:=ex M j B ys N r2 (by simpa using hl)
 rw[zLm]at hn n1 hl;refine ZZ.dict_zip (s:={s1 with heap:=g}) (A:=X.A) (more:=more) (I1.ok.hd hc) D (a0 (a2 g1)) (a0 (a2 g2)) Z (g1.at λo e=>kp _ o e) (g2.at λo e=>kp _ o e) (by rw[zap,zap];omega) (by rw[zap];exact k2) (by rw[zap];omega) (by
   rw[k3];exact List.Pairwise.map _ (λa b h e=>h (Sum.inr.inj e)) nd) (λi x y e e'=>k4 i x y (by simpa using e) (by simpa using e')) λh' tk qd keep=>?_
 dsimp only at keep qd ⊢
 have a1:∀b o,s1.heap.get? b=some o->h'.get? b=some o:=λb o e=>keep b o (a0 (zae e)) (kp b o e);have gb:(s1.heap.objs.size:Nat)<=g.objs.size:=by have:(s1.heap.objs.size+4:Nat)<g.objs.size:=big;omega
 have fr:H1 g.objs.size=none:=I1.hok.fresh gb;refine⟨.ref g.objs.size,_,I1.laid (o:=.dK ((M.map Sum.inr).zip ys)) (t':=tk) a1 gb ?_,rfl,q _ fr⟩;have lk:=k1.length;exact To (by rw[lk,k2,<- n1];exact zak hn (by decide)) (by simpa using Nat.ne_of_gt (Nat.lt_of_lt_of_le hb gb)) k1 qd
variable{a:Expr}{t:TDs}{p2 pos2:Pos}
def Jx(t:TDs):TD:=λL U=>t L λrs=>∃(zs:List Str)(ds:List D),(match rs with
 |[r1,r2]=>(r1.d=.lst (zs.map D.str)\/r1.d=.tup (zs.map D.str))/\(r2.d=.lst ds\/r2.d=.tup ds)
 | _=>False)/\zs.length=ds.length/\zs.length<=1000/\zs.Nodup/\U (df (.dk (zs.map Sum.inr) ds))
def Rt{K:W.Frag}{H:Hp}{O:List Addr}{d:D}{v:V}{ds:List D}(h:View K H O d v)(e:d=.lst ds\/d=.tup ds):∃b l xs,v=.ref l/\SqK b K H l xs/\Reps K H O ds xs:=by
 rcases e with rfl|rfl
 ·obtain⟨a,xs,rfl,q,r⟩:=h;exact⟨false,a,xs,rfl,SqL.of q,r⟩
 obtain⟨a,xs,rfl,q,r⟩:=h;exact⟨true,a,xs,rfl,q.1,r⟩
def Ti(hm:X.mg "dict" = none)(a4:X.mg "zip" = none)(ha:EA Y X [a,b] t)(hc:X.calm=true:=by rfl)(hg:Gl X "dict":=by rfl)(a5:Gl X "zip":=by rfl)(h1:starEach [.Call (.Name "zip" p2) [a,b] [] pos2] X.env=(false,eval (.Call (.Name "zip" p2) [a,b] [] pos2) X.env)::starEach [] X.env:=by rfl)(he:starEach [a,b] X.env=(false,eval a X.env)::starEach [b] X.env:=by rfl)(a3:(backTo pos2 (starEach [b] X.env)).any (·.1)=false:=by rfl) :
  ED Y X (.Call (.Name "dict" p) [.Call (.Name "zip" p2) [a,b] [] pos2] [] pos) (Jx t):=λH_ =>
 impE (Sl hc hg hm a5 a4 (ha H_) h1 he a3) λG H Q q=>by
  obtain⟨L,oo,R,U,a2,kk⟩:=q;refine⟨L,oo,R,_,a2,λvs rs H1 s1 N h1=>?_⟩;obtain⟨I,ds,h0,hl,hn,nd,h1⟩:=h1;split at h0
  ·rename_i r1 r2;obtain⟨v1,ws,rfl,a0,v2,M,rfl,Z,e⟩:=N;cases (show M=[] from e);obtain⟨b1,l1,xs,rfl,q1,a1⟩:=Rt a0.view h0.1;obtain⟨b2,l2,ys,rfl,q2,j⟩:=Rt Z.view h0.2;have ex:=Yp a1;have m2:=j.length;refine⟨b1,b2,l1,l2,xs,ys,I,rfl,q1,q2,ex,by rw[ex,zLm];omega,by rw[ex,zLm];exact hn,nd,λp B=>?_⟩
   have n:=y7 B (HO.dK ((I.map Sum.inr).zip ys));refine kk (.ref p) (df (.dk (I.map Sum.inr) ds)) _ (s1.trans n) ⟨p,rfl,s1.free B,R.ofree (s1.free B),ys,zw,by rw[zLm];exact hl,List.Pairwise.map _ (λa b h e=>h (Sum.inr.inj e)) nd,Reps.grow (Zs B) _ _ j⟩ h1
  exact h0.elim
def J9(l j:Nat)(q:TP1)(te:TD):TQS:=λL Z=>q L λπ=>∃d ks ds,slot L l=some (dv d)/\atQ π d=some (.dk ks ds)/\j<L.length/\te (hid j L) λr=>match r with
 |⟨.fre,.dk ks2 ds2⟩=>zp ds2/\ks.length+ks2.length<=1000/\(ks++ks2).Nodup/\Z.nx (hid j (setS L l (dv (putQ π d (.dk (ks++ks2) (ds++ds2))))))
 |_=>False
def Md(j:Nat)(hj:j≠l)(hN:X.N.Nodup)(hp:EPQ Y l X oe tp)(he:ED Y X e te)(hi:X.N[j]?=some x:=by rfl)(hx:Loc X.env.scope x:=by first|exact Or.inl rfl|exact Or.inr rfl)(hs:swapsWith oe (some (.Name x pos')) pos.line X.env=pure false:=by rfl)(hf:X.fn x=true\/X.env.scope.names.lookup x=some .local:=by first|exact .inl rfl|exact .inr rfl|assumption)(hv:Vis X.env.scope x:=by walk_at "o")(hd:D_ x:=by decide)(a6:(x==("__classdict__" : Str))=false:=by decide)(a4:∀ {ta tb:TE},PE X (.Name x np) ta->PE X e tb->PS X (.Expr (.Call (.Attribute (.Name x np) "update" apos) [e] [] cpos) pos2) (Wl (Dk ta tb)):=by
   intro ta tb h1 h2;exact t8 (Ff h1 h2 ⟨rfl,rfl,rfl,rfl⟩)) :
  QSs Y l X [.Assign [.Name x pos'] oe pos,.Expr (.Call (.Attribute (.Name x np) "update" apos) [e] [] cpos) pos2] (J9 l j tp te):=λH_ =>
 Vf (u3 (jz hN hi hx (hp H_) hs hf) (jy (a4 (uw hi hv hd a6) (he H_)))) λDz G H h=>by
  obtain⟨L,o,A,d,v,S,Z,hZ,k1,k2,k3,k4⟩:=h;refine⟨L,o,A,d,v,S,_,hZ,λu π H1 s1 vp h1=>?_⟩;obtain⟨d',ks,ds,es,ea,b0,h1⟩:=h1;have e2:some (dv d')=some (dv d):=by rw[<- es];exact xw S.hd
  cases e2
  have S1:=(S.to s1).letgo hj u;have sl:G.length=L.length:=S.R.len;obtain⟨u',A1,M,f1,n1,sub,dm,_⟩:=S1.focQ ea;cases vp.fn M;obtain⟨b,xs,At,rfl,q,ln,nd,rfl,fs⟩:=f1;have xl:ks.length=xs.length:=by rw[ln,fs.length]
  refine⟨.ref b,List.getElem?_set_self (by omega),b,_,rfl,q,hid j L,o,S1.R,_,h1,λw r H2 s2 rv h2=>?_⟩
  split at h2
  ·rename_i B a8;obtain⟨pd,a1,a0,h2⟩:=h2;obtain⟨c,rfl,mc,nc,ys,qc,I,a9,rc⟩:=rv;have yl:B.length=ys.length:=by rw[I,rc.length]
   have a5:b≠c:=λz=>by
    subst z;rw[q]at mc;cases mc
   have a7:Fts X.K H2 ds xs At:=Fts.keep (Gt.same s2) _ _ _ (λa _ x hx=>s2 _ _ hx) fs;have a2:=List.nodup_cons.mp n1;obtain⟨A',S',g,_⟩:=S1.putH (e:=.dk (ks++B) (ds++a8)) (ho:=.dK ((ks++B).zip (xs++ys))) (A1':=At++[]) ea ⟨b,xs,At,rfl,q,ln,nd,rfl,fs⟩ n1 (λu A2 a3 f2 n2=>by
    cases M.fn a3
    exact⟨rfl,Ft.uniq _ _ _ _ f2 ⟨b,xs,At,rfl,q,ln,nd,rfl,fs⟩⟩) s2 (a7.app (Reps.fts _ _ pd rc)) (by rw[List.append_nil];exact a2.2) (λa ha=>by rw[List.append_nil]at ha;exact .inl ha) (λ_ z=>by cases z) (λ_ _ z=>by cases z)
    (λH' hb f=>⟨b,_,_,rfl,hb,by rw[zLa,zLa,ln,I],a0,rfl,f⟩)
   refine⟨c,_,_,rfl,a5,s2 _ _ q,qc,?_,?_,?_⟩
   ·rw[List.length_zip,List.length_zip,<- xl,<- yl,Nat.min_self,Nat.min_self];exact zak a1 (by decide)
   ·rw[<- Wf ks xs B ys xl,rn _ _ (by rw[zLa,zLa,xl,yl])]
    exact a0
   rw[<- Wf ks xs B ys xl];rw[<- si _ _ (Ne.symm hj)]at S';exact k1 _ _ _ _ _ _ S' h2
  exact h2.elim
def Br(K:W.Frag)(H_:Hp)(l:Nat)(t:TF):TE:=λG H Q=>∃L o A d v,ST K H_ H G L o l A d v/\∃U,t L U/\∀u e H',Same H H'->RepN K H' (λa=>H_ a=none) e u->U e->Q u H'
def E1(K:W.Frag)(H_:Hp)(l:Nat)(t:TFs):TA:=λG H Q=>∃L o A d v,ST K H_ H G L o l A d v/\∃U,t L U/\∀us es H',Same H H'->xq K H' (λa=>H_ a=none) es us->U es->Q us H'
def ER(G:Hp->Prop)(l:Nat)(X:Cx)(e:Expr)(t:TF):Prop:=∀H_:{H:Hp // G H},PE X e (Br X.K H_.1 l t)
def ERs(G:Hp->Prop)(l:Nat)(X:Cx)(es:List Expr)(t:TFs):Prop:=∀H_:{H:Hp // G H},PA X es (E1 X.K H_.1 l t)
def rE(te:TD):TF:=λL U=>te L λr=>zl r.d/\U r.d
def Ly(I:ED Y X e te):ER Y l X e (rE te):=λH_=>impE (I H_) λG H Q q=>by
 obtain⟨L,o,A,d,v,S,U,j,k⟩:=q;exact⟨L,o,S.R,_,j,λu r H1 s1 B h1=>k u r.d H1 s1 (Rep.toN _ _ h1.1 B.view.rep0) h1.2⟩
def rP(l:Nat)(j:TP1):TF:=λL U=>j L λπ=>∃d d1,slot L l=some (dv d)/\atQ π d=some d1/\U d1
def ji(M:EPQ Y l X e tp):ER Y l X e (rP l tp):=λH_=>impE (M H_) λG H Q q=>by
 obtain⟨L,o,A,d,v,S,U,j,k⟩:=q;refine⟨L,o,A,d,v,S,_,j,λu π H1 s1 B h1=>?_⟩;obtain⟨d',d1,es,ea,h1⟩:=h1;have e2:some (dv d')=some (dv d):=by rw[<- es];exact xw S.hd
 cases e2
 obtain⟨u',A1,I,Z,_,sub,_⟩:=(S.to s1).focQ ea;cases B.fn I;exact k u d1 H1 s1 (Ft.repN _ _ _ (λa N=>S.frA a (sub a N)) Z) h1
def Om:ERs Y l X [] fNil:=λH_=>impA u4 λG H Q q=>by
 obtain⟨L,o,A,d,v,S,U,j,k⟩:=q;exact k [] [] H (Same.refl H) rfl j
def u6{te:TF}{I:TFs}(M:ER Y l X e te)(hr:ERs Y l X es I)(hs:S_ X e es:=by rfl):ERs Y l X (e::es) (El te I):=λH_=>impA (w5 (M H_) (hr H_) hs) λG H Q q=>by
 obtain⟨L,o,A,d,v,S,U,j,k⟩:=q;refine⟨L,o,A,d,v,S,_,j,λu e1 H1 s1 Z h1=>⟨L,o,A,d,v,S.to s1,_,h1,λus B H2 s2 N h2=>?_⟩⟩;exact k (u::us) (e1::B) H2 (s1.trans s2) ⟨u,us,rfl,RepN.to s2 (λ_ z=>z) _ _ Z,N⟩ h2
def Jt{t:TFs} {x1} (h:ERs Y l X es t):ER Y l X (.Tuple es x1 pos) (fTup t):=λH_=>impE (P2 (h H_)) λG H Q q=>by
 obtain⟨L,o,A,d,v,S,U,j,k⟩:=q;refine⟨L,o,A,d,v,S,_,j,λus B H1 s1 f h1=>⟨by rw[f.length,sizeLine_eq];omega,λp I=>?_⟩⟩
 have n:=y7 I (HO.tup us);exact k (.ref p) (.tup B) _ (s1.trans n) ⟨p,us,rfl,⟨SqT.of zw,zw⟩,xq.to n (λ_ z=>z) _ _ f⟩ h1.2
def C1(t:TF):TQS:=λL Z=>t L λd=>Z.rt d L
def Qs{t:TF}(h:ER Y l X e t):RS Y l X (.Return (some e) pos) (C1 t):=λH_=>impS (Us (h H_)) λDz G H h=>by
 obtain⟨L,o,A,d,v,S,Z,q,B,j⟩:=h;exact⟨L,o,A,d,v,S,_,q,λu e H1 s1 r h1=>j u e L H1 (S.Q.same.trans s1) r h1⟩
structure FMR(P:Program)(w:World)(K:W.Frag)(mg:Str->Option Value)(base:Heap)(k:Nat)(C:Addr)(ns:List Str)(m:Str)(ps:List Str)(T:FTR):Prop where
 ex:∃f fd,FnOk P w K mg base CX0 k f fd ps (spR K ps.length T)/\u0 K fd ps []/\Meth K C m f
 no:m∉ns
def Am{x j m:Str}{st:Stmt}{f:Addr}{fd:FuncData}{N ps:List Str}{k:Nat}{T:FTR}{C:Addr}{ns:List Str}(F:Fun K x j st f fd)(S:zj N ps (zb st))(b:u0 K fd ps [])(hm:Meth K C m f)(no:m∉ns)(Z:∀ (qZ:Value) (A:Around) (outer:List Env) (s:Shared) (H:Hp) (E:XK) (d:D) (ds:List D) (U:D->Prop),Room k (A.deeper (envOfC j (zb st) s.heap.objs.size f qZ))->ds.length+1=ps.length->T d ds U ->
   ∃ t,RSs (λ_=>True) 0 (cxOf CX0 P w K mg base N j (zb st) f qZ A outer s H E).nox (yi st) t/\t (xa N.length (d::ds)) {nx:=λ_=>False,rt:=λr _=>U r}):FMR P w K mg base (k+1) C ns m ps T:=by
 obtain⟨f',a1,ok,b',a0,e⟩:=(z1g (mg:=λ_=>some (.ref f)) (P:=P) (w:=w) (base:=base) (x:=x) (k:=0) (T:=λ_ _ _=>False) F S b rfl λ_ _ _ _ _ _ _ _ _ _ _ h=>h.elim).ex;refine⟨⟨f,fd,F.ok S (λvs H Q E h=>?_) (λqZ A outer s H vs Q E hr h=>?_),b,hm⟩,no⟩
 ·obtain⟨d,ds,v,ws,A,U,rfl,hl,_,_,r,_⟩:=h;rw[zLc,r.length,hl]
 obtain⟨d,ds,v,ws,q,U,rfl,hl,ft,nd,r,hT,kk⟩:=h;obtain⟨t,ht,hq⟩:=Z qZ A outer s H E d ds U hr hl hT;have S0:=U5 (N:=N) ft nd r;refine⟨T4 K (vg q H) 0 t,ht ⟨vg q H,trivial⟩,xa N.length (d::ds),[],q,d,v,S0,_,hq,λρ' I H' o' A' d2 S' h'=>h'.elim,λu e ρ' H' s' M h'=>?_⟩;refine kk u e H' (λb x hb hn=>s' b x (by rw[xf hn];exact hb)) (RepN.to (Same.refl _) (λa B=>?_) _ _ M) h'
 by_cases hA:a∈q
 ·exact .inl hA
 rw[xf hA]at B;exact .inr B
def ST.make{H_ H H2:Hp}{G:St}{L:DE}{o:List (Nat×Addr)}{l:Nat}{A:List Addr}{d:D}{v:V}(R:REnv K H_ H G L o)(hl:l<L.length)(s:Same H H2)(f:Ft K H2 d v A)(nd:A.Nodup)(M:∀ a∈A,H a=none) :
  ST K H_ H2 (G.set l (some v)) (setS L l (dv d)) o l A d v:=by
 have R2:=R.to s;have dis:∀a∈A,a∉o.map Prod.snd:=λa I=>R.ofree (M a I);refine⟨⟨R2.same,λp j=>?_,λp j=>?_,λp j=>?_,?_,λi q e=>?_,?_⟩,?_,?_,f⟩
 ·rcases zas.mp j with j|j
  ·exact R.fresh p j
  obtain⟨a,I,rfl⟩:=zah.mp j;exact R.same.free (M a I)
 ·rcases zas.mp j with j|j
  ·exact R2.trk p j
  obtain⟨a,I,rfl⟩:=zah.mp j;obtain⟨u,hu,_⟩:=Ft.dom _ _ _ f a I;exact⟨u,hu⟩
 ·rcases zas.mp j with j|j
  ·exact R2.mtb p j
  obtain⟨a,I,rfl⟩:=zah.mp j;obtain⟨u,hu,n1,n2⟩:=Ft.dom _ _ _ f a I;refine⟨λxs z=>?_,λN w z=>?_⟩
  ·rw[hu]at z;cases z;exact n1 _ rfl
  rw[hu]at z;cases z;exact n2 _ _ rfl
 ·rw[wc,List.nodup_append];exact⟨R.nda,nd,λa I b B e=>dis b B (e▸I)⟩
 ·rw[Zr]at e;obtain⟨hi,e⟩:=ka e;obtain⟨w,Z,q⟩:=R.slots i q e;refine⟨w,by rw[List.getElem?_set_ne (Ne.symm hi)];exact Z,?_⟩
  rw[wc];have g:Grow (o.map Prod.snd) (o.map Prod.snd++A) H H2:=⟨λb u B n=>⟨s _ _ B,λz=>(zas.mp z).elim n λz=>by rw[M b z]at B;cases B⟩,λb xs B=>s _ _ B,λb N u B=>s _ _ B⟩
  rcases q with⟨k,q⟩|⟨k,c,e1,m,cc⟩
  ·exact .inl ⟨k,Rep.grow g _ _ q⟩
  exact .inr ⟨k,c,e1,List.mem_append_left _ m,cc.grow (λu h=>s _ _ h) g⟩
 ·rw[Zr,ux,List.length_set,List.length_set];exact R.len
 ·rw[xx,List.getElem?_set_self hl]
 rw[List.getElem?_set_self (by rw[R.len];exact hl)]
def C5(j:Nat)(te:TD):TQS:=λL Z=>te L λr=>frs2 r/\Z.nx (setS L j (dv r.d))
def Gd(j:Nat)(hj:j≠l)(hN:X.N.Nodup)(he:ED Y X e te)(hi:X.N[j]?=some x:=by rfl)(hx:Loc X.env.scope x:=by first|exact Or.inl rfl|exact Or.inr rfl)(hs:swapsWith e (some (.Name x pos')) pos.line X.env=pure false:=by rfl)(hf:X.fn x=true\/X.env.scope.names.lookup x=some .local:=by first|exact .inl rfl|exact .inr rfl|assumption):QS Y l X (.Assign [.Name x pos'] e pos) (C5 j te):=λH_=>impS (jz hN hi hx (he H_) hs hf) λDz G H h=>by
 obtain⟨L,o,A,d,v,S,Z,hZ,k1,k2,k3,k4⟩:=h;refine⟨L,o,S.R,_,hZ,λw r H1 s1 rv h1=>?_⟩;obtain⟨B,f,nd,M⟩:=O7 rv h1.1;refine k1 _ _ H1 o A d ((S.to s1).setR hj (Ft.rep _ _ _ (λa I z=>?_) f)) h1.2;rcases zas.mp z with z|z
 ·exact S.R.ofree (M a I) z
 obtain⟨y,q,_⟩:=Ft.dom _ _ _ S.ft a z;rw[M a I]at q;cases q
def at_0{α:Type}(a:α)(r:List α):atI (a::r) (0:Int)=some a:=by
 unfold atI ixN;rw[if_pos (by decide),if_pos (by rw[zLc];omega)]
 rfl
def z1r{α:Type}(a b:α)(r:List α):atI (a::b::r) (1:Int)=some b:=by
 unfold atI ixN;rw[if_pos (by decide),if_pos (by rw[zLc,zLc];omega)]
 rfl
def Oz(rs us:List D)(h:us≠[]):cutD (rs++us) (some (-(us.length:Int))) none=us/\cutD (rs++us) none (some (-(us.length:Int)))=rs:=by
 have j:=List.length_pos_iff.mpr h;have e:ZZ.sIx (rs++us).length 0 (some (-(us.length:Int)))=rs.length:=by
  unfold ZZ.sIx;simp only[zLa];rw[if_pos (by omega)]
  omega
 have e2:ZZ.sIx (rs++us).length (rs++us).length (some (-(us.length:Int)))=rs.length:=by
  unfold ZZ.sIx;simp only[zLa];rw[if_pos (by omega)]
  omega
 refine⟨?_,?_⟩
 ·unfold cutD;rw[e];rw[List.drop_left];show us.take ((rs++us).length-rs.length)=us;rw[zLa];exact List.take_of_length_le (by omega)
 unfold cutD;rw[e2];show(rs++us).take (rs.length-0)=rs;rw[Nat.sub_zero,List.take_left]
def L9(n:Nat):ixN (n+1) (-1:Int)=some n:=by
 unfold ixN;rw[if_neg (by decide),if_pos (by omega)]
 congr 1
 omega
def Ub:Manifest.owners.lookup (String.ofList ['d','e','s','r','e','v','e','r'].reverse)=some Manifest.sig_reversed:=by kernel_rfl
def jt:Slot "reversed" "__next__" "reversed.__next__" :=
 .of (owner:="reversed") (n:="__next__") (by rw[typeLookup_type,builtinLookup_eq_fast];kernel_rfl) (by decide +kernel) (by decide +kernel) (by decide +kernel)
  (by first|exact .inl (by decide +kernel)|exact .inr (by decide +kernel)) (by rw[isSubtype_type];kernel_rfl)
def Uc:entryFor table "reversed.__next__" = some Builtin.«reversed.__next__»:=entryFor_of_tree (by kernel_rfl)
def Qr(a:Value):argsOk "reversed.__next__" ⟨[a],[]⟩:=by
 unfold argsOk;rw[signature?_of (id:="reversed.__next__") (n:=['_','_','t','x','e','n','_','_']) (o:=['d','e','s','r','e','v','e','r']) (by kernel_rfl) Ub];kernel_rfl
def Qo:Slot "reversed" "__iter__" "reversed.__iter__" :=
 .of (owner:="reversed") (n:="__iter__") (by rw[typeLookup_type,builtinLookup_eq_fast];kernel_rfl) (by decide +kernel) (by decide +kernel) (by decide +kernel)
  (by first|exact .inl (by decide +kernel)|exact .inr (by decide +kernel)) (by rw[isSubtype_type];kernel_rfl)
def M7(a:Value):argsOk "reversed.__iter__" ⟨[a],[]⟩:=by
 unfold argsOk;rw[signature?_of (id:="reversed.__iter__") (n:=['_','_','r','e','t','i','_','_']) (o:=['d','e','s','r','e','v','e','r']) (by kernel_rfl) Ub];kernel_rfl
def Qp:entryFor table "reversed.__iter__" = some Builtin.«dict_keyiterator.__iter__» :=
 entryFor_alias (id':="dict_keyiterator.__iter__") (by kernel_rfl) (by first|rfl|decide +kernel|(unfold String.splitOn;simp +decide [String.splitOnAux])) (by decide +kernel) (by kernel_rfl)
def M6:typeLookup (.type "tuple") "__reversed__" = pure none:=by rw[typeLookup_type,builtinLookup_eq_fast];kernel_rfl
def Qn:isSubtype (.type "tuple") (.type "dict")=pure false:=by rw[isSubtype_type];kernel_rfl
def Hz:Slot "reversed" "__init__" "object.__init__" :=
 .of (owner:="object") (n:="__init__") (by rw[typeLookup_type,builtinLookup_eq_fast];kernel_rfl) (by decide +kernel) (by decide +kernel) (by decide +kernel)
  (by first|exact .inl (by decide +kernel)|exact .inr (by decide +kernel)) (by rw[isSubtype_type];kernel_rfl)
def Qq:TypeCalled "reversed" "reversed.__new__" "object.__init__":=⟨by decide +kernel,F.create_reversed,⟨_,_,F.mro_reversed⟩,F.made_reversed,F.plain_reversed_new,F.sub_reversed_self,Hz⟩
def Dv(l:Addr)(i:Int):Obj:={cls:=.type "reversed",data:=.fields #[.ref l,rawInt i]}
def RtIt(h:Heap)(a l:Addr)(i:Int):Prop:=∃o,h.get? a=some o/\o.cls=.type "reversed"/\o.data=.fields #[.ref l,rawInt i]
def RtIt.typeIs{s:Shared}{a l:Addr}{i:Int}(x:RtIt s.heap a l i):s.TypeIs (.ref a) "reversed":=let ⟨o,ho,hc,_⟩:=x;⟨o,ho,hc⟩
def RtIt.at{h h':Heap}{a l:Addr}{i:Int}(x:RtIt h a l i)(e:∀ o,h.get? a=some o->h'.get? a=some o):RtIt h' a l i:=let ⟨o,ho,r⟩:=x;⟨o,e _ ho,r⟩
def Dt(l:Addr)(items:Array Value)(j:(items.size:Int)<2 ^ 63) :
  Meets (Builtin.«reversed.__new__» ⟨[.type "reversed",.ref l],[]⟩) (λ_ R s=>IsTup s.heap l items/\R (.ok (.ret (.ref s.heap.objs.size))) {s with heap:=s.heap.push (Dv l ((items.size:Int)-1)),toks:=s.toks+1+1}) :=
 .of_wp λprog w A R s h=>by
  obtain⟨q,h⟩:=h;unfold Builtin.«reversed.__new__»;refine zaa (wpAny_of_eq (newClass_reversed _) ?_)
  try dsimp only
  refine zaa (wpAny_of_eq (a:=()) (by first|rfl|kernel_rfl) ?_)
  refine zaa (wpAny_of_eq (a:=()) (by first|rfl|kernel_rfl) ?_)
  try dsimp only
  refine zaa (wpAny_specialOf q.typeIs M6 ?_)
  try dsimp only
  refine zaa ?_;show wpAny _ _ (isInstance (.ref l) (.type "dict") >>= _) _ _ s;refine zaa (wpAny_isInstance q.typeIs Qn ?_);rw[if_neg Bool.false_ne_true];refine zaa (wpAny_specialOf q.typeIs F.slot_tuple_getitem.lookup ?_);show wpAny _ _ (if (["tuple.__getitem__","str.__getitem__","bytes.__getitem__","bytearray.__getitem__","memoryview.__getitem__","numpy.ndarray.__getitem__","sqlite3.Row.__getitem__"].contains "tuple.__getitem__")=true then _ else _) _ _ s
  rw[if_pos (by decide)]
  refine zab ?_;rw[if_neg (by decide)]
  refine zaa (len_tuple q j ?_);refine zaa (wpAny_of_eq (a:=some ((items.size:Int))) rfl ?_);refine zaa ?_;show wpAny _ _ (newObj (Value.type "reversed") (.fields #[Value.ref l,rawInt ((items.size:Int)-1)])) _ _ _;exact wpAny_newObj_type (zab ⟨_,rfl,h⟩) (by size_fits)
def Hy{it l:Addr}{i:Nat}{items:Array Value}{x:Value}{Q:Option Value->Shared->Prop}(M:(items.size:Int)<2 ^ 63)(q:RtIt s.heap it l (i:Int))(hl:IsTup s.heap l items)(I:items[i]?=some x)(N:∀ h',RtIt h' it l ((i:Int)-1)->Heap.SameBut it s.heap h'->Q (some x) {s with heap:=h',toks:=s.toks+1}):wpAny (model prog w) A (pyNext (.ref it)) Q E s:=by
 obtain⟨o,ho,Z,B⟩:=id q;have hi:i<items.size:=(Array.getElem?_eq_some_iff.mp I).1;unfold pyNext;refine zaa (wpAny_attempt (wpAny_callSpecial?_slot (name:=Str.ofString "__next__") q.typeIs jt
  (wpAny_call_entry jt q.typeIs Uc ?_ (Qr _))))
 unfold Builtin.«reversed.__next__»;refine zaa (wpAny_of_eq (a:=(Value.ref it,[])) rfl ?_)
 try dsimp only
 refine zaa (wpAny_field ho B (x:=.ref l) rfl ?_);refine zaa (wpAny_field ho B (x:=rawInt (i:Int)) rfl ?_);show wpAny _ _ (if (i:Int)<0 then _ else _) _ _ s
 rw[if_neg (by omega)]
 refine zaa (wpAny_specialOf hl.typeIs F.slot_tuple_getitem.lookup ?_);show wpAny _ _ (if (Option.isNone (some (Value.builtin "tuple.__getitem__")))=true then _ else _) _ _ s
 rw[if_neg (by decide)]
 refine zaa (wpAny_mkInt ?_);refine zaa (wpAny_attempt (PyProof.Rows.getItem_tuple (s:={s with toks:=s.toks+1}) hl (by omega) (by omega) (j:=i) ?_ I ?_))
 ·exact seqIndex_of (by omega) (by omega)
 refine zaa (wpAny_field (s:={s with toks:=s.toks+1}) ho B (x:=rawInt (i:Int)) rfl ?_);show wpAny _ _ (setField (.ref it) 1 (rawInt ((i:Int)-1)) >>= _) _ _ _;refine zaa (wpAny_setField (s:={s with toks:=s.toks+1}) ho B (by simp) ?_)
 first
 |refine zab ⟨x,rfl,zab (N _ ?_ (Heap.SameBut.update ..))⟩
 |refine zaa (zab (zab ⟨x,rfl,zab (N _ ?_ (Heap.SameBut.update ..))⟩))
 exact⟨_,Heap.get?_update_self _ ho (Obj.isFreed_of_fields (Obj.data_mapFields B _)),(Obj.cls_mapFields ..).trans Z,by
  rw[Obj.data_mapFields B];simp⟩
def Du{it l:Addr}{Q:Option Value->Shared->Prop}(B:A.handled=none)(j:RtIt s.heap it l (-1))(I:∀ h',Heap.ExtBut it s.heap h'->Q none {s with heap:=h'}):wpAny (model prog w) A (pyNext (.ref it)) Q E s:=by
 obtain⟨o,ho,M,q⟩:=id j;unfold pyNext;refine zaa (wpAny_attempt (wpAny_callSpecial?_slot (name:=Str.ofString "__next__") j.typeIs jt
  (wpAny_call_entry jt j.typeIs Uc ?_ (Qr _))))
 unfold Builtin.«reversed.__next__»;refine zaa (wpAny_of_eq (a:=(Value.ref it,[])) rfl ?_)
 try dsimp only
 refine zaa (wpAny_field ho q (x:=.ref l) rfl ?_);refine zaa (wpAny_field ho q (x:=rawInt (-1)) rfl ?_);show wpAny _ _ (if (-1:Int)<0 then _ else _) _ _ s
 rw[if_pos (by decide)]
 refine zaa (wpAny_rule ?_);refine zaa ?_;show wpAny _ _ (setField (.ref it) 1 (rawInt (-1)) >>= _) _ _ _;refine zaa (wpAny_setField ho q (by simp) ?_)
 have g1:=Heap.get?_update_self (h:=s.heap) (Obj.mapFields (·.setIfInBounds 1 (rawInt (-1)))) ho (Obj.isFreed_of_fields (Obj.data_mapFields q _));have d1:(Obj.mapFields (·.setIfInBounds 1 (rawInt (-1))) o).data=_:=Obj.data_mapFields q _;refine wpAny_setField g1 d1 (by simp) ?_
 refine zaa ?_;show wpAny _ _ (newExc (.type "StopIteration") [] >>= _) _ _ _;refine zaa ?_;simp only[newExc,newTuple];refine zaa (wpAny_newObj_type ?_ (by size_fits))
 refine zaa (m:=firstArgMember _ _) (wpAny_of_eq (a:=Value.none) (by first|rfl|(simp only[firstArgMember];rfl)) ?_)
 refine wpAny_newObj_type ?_ (by size_fits)
 simp only[raiseNew];refine zaa (wpAny_handled ?_)
 first|rw[show A.in1.handled=none from B]|rw[B]
 refine zaa (zab (wpAny_throw ?_));refine zaa (wpAny_isInstance (T:="StopIteration") (b:=true) ⟨_,zad _ rfl,rfl⟩ isSubtype_stop ?_);refine zab (I _ ?_);exact((((Heap.SameBut.update ..).trans (Heap.SameBut.update ..)).extBut).push _).push _
def Qm{it l:Addr}{i:Int}{Q:Value->Shared->Prop}(j:RtIt s.heap it l i)(h:Q (.ref it) s):wpAny (model prog w) A (pyIter (.ref it)) Q E s:=by
 refine wpAny_pyIter_slot j.typeIs Qo (wpAny_call_entry Qo j.typeIs Qp ?_ (M7 _));show wpAny _ _ (ret (.ref it)) _ _ s;exact zab ⟨_,rfl,"reversed",_,j.typeIs,jt.lookup,h⟩
def Itbt(K:W.Frag)(a:Addr)(n:Nat):It:=⟨λi H=>(∃xs,SqT K H a xs/\xs.length=n)/\i<n,λi H x H'=>H'=H/\∀xs,SqT K H a xs->xs[n-1-i]?=some x,λi H=>(∃xs,SqT K H a xs/\xs.length=n)/\i=n⟩
def Ru{P:Program}{w:World}{K:W.Frag}{tg:Expr}(a it:Addr)(n:Nat):Turn P w K tg (Itbt K a n) [it] it (λi h=>RtIt h it a ((n:Int)-1-(i:Int))) where
 mem:=by simp
 obj:=λi h st b q=>by
  have e:b=it:=by simpa using q
  subst e;obtain⟨o,e,c,d⟩:=st;exact⟨o,e,λv z=>by rw[d]at z;cases z⟩
 keep:=λi h h' st k=>st.at λo e=>k it (by simp) o e
 item:=by
  intro X hP M hK hc i pn s G H E I B st Z;subst hP M hK;obtain⟨⟨xs,N,hl⟩,hi⟩:=Z;obtain⟨its,rv,p,hz⟩:=I.tuple N;obtain⟨x,hx⟩:∃x,xs[n-1-i]?=some x:=⟨xs[n-1-i]'(by omega),by simp⟩
  obtain⟨u,hu,ru⟩:=rv.get hx;obtain⟨f0,f1,f2,f3,f4,f5⟩:=B it (by simp)
  have en:(n:Int)-1-(i:Int)=((n-1-i:Nat):Int):=by omega
  rw[en]at st;have a2:=rm;have a1:=rv.length;refine Hy (by rw[zap];omega) st p (x:=u) (by simpa using hu) λh' j sb=>?_
  have I1:Inv X pn G H {s with heap:=h',toks:=s.toks+1}:=I.turned (t':=s.toks+1) (λb o q e=>(sb.2 b q).trans e) f0 f1 f3 f4 f5;obtain⟨o,e,c,d⟩:=id j;have a0:((n-1-i:Nat):Int)-1=(n:Int)-1-((i+1:Nat):Int):=by omega
  rw[a0]at j;exact⟨u,rfl,O5 (s:={s with heap:=h',toks:=s.toks+1}) e c d (by decide) ⟨x,H,I1,ru,⟨rfl,λys hy=>by rw[I.tuple_inj hy N];exact hx⟩,j,λb q=>(B b q).1⟩⟩
 done:=by
  intro X hP M hK hc i pn s G H E I B st Z;subst hP M hK;obtain⟨⟨xs,N,hl⟩,hi⟩:=Z;obtain⟨f0,f1,f2,f3,f4,f5⟩:=B it (by simp)
  have en:(n:Int)-1-(i:Int) = -1:=by omega
  rw[en]at st;exact Du (I.ok.hd hc) st λh' eb=>⟨rfl,I.turned (t':=s.toks) (λb o q e=>eb b o q e) f0 f1 f3 f4 f5⟩
 self:=λ_ _ _ _ _ st h=>Qm st h
def z1d(K:W.Frag)(ta:TA):TI:=λG H R=>ta G H λvs H1=>∃l xs,vs=[.ref l]/\SqT K H1 l xs/\R (Itbt K l xs.length) H1
def Gz{X:Cx}{tg a:Expr}{ta:TA}{p pos:Pos}(hg:Gl X "reversed")(hm:X.mg "reversed" = none)(ha:PA X [a] ta)(he:starEach [a] X.env=(false,eval a X.env)::starEach [] X.env:=by rfl):PI X tg (.Call (.Name "reversed" p) [a] [] pos) (z1d X.K ta):=by
 intro pn s G H R I h;refine wpAny_Call_Name_kw (su I hg hm cm ?_ (by decide) (by decide))
 refine PyProof.Rows.callWith_type1 (thn (ha pos pn s G H _ I h) λus s1 Zh=>?_) he (by rfl)
 obtain⟨vs,H1,j,Z,l,xs,e,e1,q⟩:=Zh;subst e;obtain⟨u,rfl,N⟩:=uz Z;cases N;obtain⟨its,M,pl,hz⟩:=j.tuple e1;have hl:=M.length;have a0:=rm;refine callType_new Qq (by decide) (F.typeCall_reversed_1 _) (F.newCall_reversed_1 _) (λB=>F.args_object_init_2 B _) F.entry_reversed_new (Dt l its.toArray (by rw[zap];omega)) ⟨pl,?_⟩
 have st:RtIt (s1.heap.push (Dv l ((its.toArray.size:Int)-1))) s1.heap.objs.size l ((xs.length:Int)-1-((0:Nat):Int)):=by
  refine⟨_,zad _ rfl,rfl,?_⟩;show Data.fields #[.ref l,rawInt ((its.toArray.size:Int)-1)]=_;rw[show((its.toArray.size:Int)-1)=(xs.length:Int)-1-((0:Nat):Int) by rw[zap];omega]
 refine⟨⟨_,zad _ rfl,rfl⟩,?_⟩;refine Qm st ?_;refine⟨s1.heap.objs.size,[s1.heap.objs.size],_,_,H1,rfl,j.kept (t':=s1.toks+1+1) λb o e=>zac _ e,Ru l _ xs.length,st,λb hb=>?_,q⟩;have e:b=s1.heap.objs.size:=by simpa using hb
 subst e;exact j.fpOk (zaj _) (j.hok.fresh (zaj _))
def iBT(t:TDs):TID:=λL U=>t L λrs=>match rs with
 | [r]=>(match r.k with|.own=>False|_=>True)/\(match r.d with
  |.tup l=>U l.reverse
  | _=>False)
 |_=>False
def E8{K:W.Frag}{l:Addr}{ds:List D}:ItD K (Itbt K l ds.length) ds.reverse (λH O=>Rep K H O (.tup ds) (.ref l)) where
 go:=λH O i d j e=>by
  obtain⟨a,xs,B,q,r⟩:=j;cases B;have hi:i<ds.length:=by have:=(zag.mp e).1;simpa using this
  rw[List.getElem?_reverse hi]at e;obtain⟨v,M,I⟩:=r.get e;refine⟨⟨⟨xs,q.1,r.length⟩,hi⟩,λx H' y=>?_⟩;obtain⟨e1,y⟩:=y;subst e1;have:=y xs q.1;rw[M]at this;cases this;exact⟨Same.refl _,I⟩
 stop:=λH O j=>by
  obtain⟨a,xs,B,q,r⟩:=j;cases B;exact⟨⟨xs,q.1,r.length⟩,by rw[List.length_reverse]⟩
 keep:=λO O' H H' j g=>Rep.grow g _ _ j
def Xu{tg a:Expr}{t:TDs}{p pos:Pos}(N:X.mg "reversed" = none)(ha:EA Y X [a] t)(Z:Gl X "reversed":=by rfl)(he:starEach [a] X.env=(false,eval a X.env)::starEach [] X.env:=by rfl):EI Y X tg (.Call (.Name "reversed" p) [a] [] pos) (iBT t):=λH_=>impI (Gz Z N (ha H_) he) λG H R q=>by
 obtain⟨L,o,RE,U,B,k⟩:=q;refine⟨L,o,RE,_,B,λvs rs H1 s1 j h1=>?_⟩;split at h1
 ·rename_i r;obtain⟨n1,h1⟩:=h1;obtain⟨v1,w1,rfl,M,rfl⟩:=j;have I:=M.solid (vo n1);obtain⟨kd,d⟩:=r;cases d with
  |tup l =>
   obtain⟨a,xs,rfl,q,r⟩:=id I;refine⟨a,xs,rfl,q.1,?_⟩;rw[r.length];exact k _ _ _ H1 s1 E8 I h1
  |_=>exact h1.elim
 exact h1.elim
variable{T:FT}
structure FMD(P:Program)(w:World)(K:W.Frag)(mg:Str->Option Value)(base:Heap)(k:Nat)(C:Addr)(ns:List Str)(m:Str)(ps:List Str)(T:FT):Prop where
 ex:∃f fd,FnOk P w K mg base CX0 k f fd ps (spD K ps.length T)/\u0 K fd ps []/\Meth K C m f
 no:m∉ns
def Ax(n:Nat)(C:Addr)(ns:List Str)(T:FT)(te:TD)(t:TDs):TD:=λL U=>te L λr=>(∃ds,r.d=.ob C ns ds)/\t L λrs=>Nat.beq (rs.length+1) n=true/\T (r.d::rs.map EV.d) U
def Ou{pl:Sem Bool}(O:CO X.K C ns)(F:FMD X.prog X.w X.K X.mg X.base k C ns m ps T)(hr:Room k X.A)(ho:ED Y X o te)(ha:EA Y X (e::es) t)(M:S_ X e es:=by rfl)(N:B_ X es pos:=by rfl)(ht:eval (.Call (.Attribute o m apos) (e::es) [] pos) X.env=(do
   let ov <- eval o X.env
   standAt apos.atName
   let (f,first) <- holding [ov] (getMethod ov m pl)
   callWith pos f first (backTo pos (starEach (e::es) X.env)) (backToKw pos (keywordEach [] X.env))):=by rfl) :
  ED Y X (.Call (.Attribute o m apos) (e::es) [] pos) (Ax ps.length C ns T te t):=λH_=>by
 obtain⟨f,fd,ok,b,hm⟩:=F.ex;refine impE (P3 (ho H_) O.cl hm ok hr b .nil Ww (ha H_) M N ht) λG H Q q=>?_;obtain⟨L,o,R,U,I,k⟩:=q;refine⟨L,o,R,_,I,λv r H1 s1 rv h1=>?_⟩;obtain⟨⟨ds,ed⟩,h1⟩:=h1;have Z:=rv.view;obtain⟨kd,d⟩:=r;cases ed;have v0:Rep X.K H1 [] (.ob C ns ds) v:=Z.rep0;obtain⟨a,dx,xs,rfl,q,_,ln,nd,rr⟩:=Z;refine⟨a,dx,_,rfl,q,rk F.no,L,o,R.to s1,_,h1,λvs rs H2 s2 j h2=>?_⟩;show spD X.K ps.length T (.ref a::(vs++[])) H2 Q E0;rw[List.append_nil];refine⟨.ob C ns ds::rs.map EV.d,U,by rw[zLc,zLm];exact Nat.eq_of_beq_eq_true h2.1,⟨_,_,rfl,Rep.grow (Grow.same s2) _ _ v0,j.reps0⟩,h2.2,λu r' H3 s3 B pr h3=>?_⟩
 exact k u r' H3 ((s1.trans s2).trans s3) (RV.start (B.lift pr λa e=>R.ofree ((s1.trans s2).free e)) (s1.trans s2)) h3
def An{P:Program}{w:World}{K:W.Frag}{mg:Str->Option Value}{base:Heap}{x j m:Str}{st:Stmt}{f:Addr}{fd:FuncData}{N ps:List Str}{k:Nat}{T:FT}{C:Addr}{ns:List Str}(F:Fun K x j st f fd)(S:zj N ps (zb st))(b:u0 K fd ps [])(I:Meth K C m f)(B:m∉ns)(q:∀ (qZ:Value) (A:Around) (outer:List Env) (s:Shared) (H:Hp) (E:XK) (ds:List D) (U:EV->Prop),Room k (A.deeper (envOfC j (zb st) s.heap.objs.size f qZ))->ds.length=ps.length->T ds U ->
   ∃ t,SDs (λ_=>True) (cxOf CX0 P w K mg base N j (zb st) f qZ A outer s H E).nox (yi st) t/\t (xa N.length ds) {nx:=λ_=>U (dv .non),rt:=λr=>rh r/\U r}):FMD P w K mg base (k+1) C ns m ps T :=
 ⟨⟨f,fd,Oc F S q,b,I⟩,B⟩
structure FunV(K:W.Frag)(x qual:Str)(st:Stmt)(f:Addr)(v:Value)(fd:FuncData):Prop where
 ex:∃(T:Addr)(oT:Obj)(n:Nat)(oc:Value)(od:Option Addr)(kV doc pm:Value)(an:Option Addr)(qZ ct:Value)(osl:Array (Option Value)),
  fd=W.fnOf x qual (wu st) (yi st) (zb st) (.ref T) kV doc pm an qZ ct/\K.lookup f=some ⟨oc,od,.func fd,osl⟩/\W.codeIn K qZ qual=true/\K.lookup T=some oT/\oT.data=.seq #[v] n
 kp:W.keepIn K (.ref f)=true
def FunV.ok{x j:Str}{st:Stmt}{f:Addr}{v:Value}{fd:FuncData}{N ps:List Str}{k:Nat}{sp:Sp}(F:FunV K x j st f v fd)(S:zj N ps (zb st))(B:∀ vs H Q E,sp vs H Q E->vs.length=ps.length)(Z:∀ (qZ:Value) (A:Around) (outer:List Env) (s:Shared) (H:Hp) (vs:List V) (Q:VK) (E:XK),Room k (A.deeper (envOfC j (zb st) s.heap.objs.size f qZ))->sp vs H Q E ->
   ∃ t,PSs (cxOf CX0 P w K mg base N j (zb st) f qZ A outer s H E).nox (yi st) t/\t {nx:=λ_ H'=>Q .non H',rt:=Q} (start N vs) H):FnOk P w K mg base CX0 (k+1) f fd ps sp:=by
 obtain⟨T,oT,n,oc,od,kV,a1,pm,an,qZ,ct,a0,rfl,lk,M,_⟩:=F.ex;refine Al lk M S B λA outer s H vs Q E hr I=>?_;obtain⟨t,h,q⟩:=Z qZ A outer s H vs Q E hr I;exact⟨t,h.nox,q⟩
def FunV.binds{x j:Str}{st:Stmt}{f:Addr}{v:Value}{fd:FuncData}{ps:List Str}{ds:List Value}(F:FunV K x j st f v fd)(h:∀ (T:Addr) (kV q B:Value) (M:Option Addr) (qZ I:Value) (us:List Value),(us++ds).length=ps.length->∃ k:Option (Array Value)->Sem (List (Str×Value)),bindArgs (W.fnOf x j (wu st) (yi st) (zb st) (.ref T) kV q B M qZ I) ⟨us,[]⟩=seqItems? (.ref T) >>= k/\k (some #[v])=pure (ps.zip (us++ds))):u0 K fd ps ds:=by
 obtain⟨T,Z,n,oc,od,kV,q,B,M,qZ,I,N,rfl,lk,a0,lT,dT⟩:=F.ex;intro s us KX hl;obtain⟨k,h1,h2⟩:=h T kV q B M qZ I us hl;exact .of_defaults (T:=T) (o:=Z) (items:=#[v]) (n:=n) rfl (KX _ _ lT) dT h1 h2
def Aj{j m:Str}{st s0 s1 s2 s3 s4:Stmt}{f C:Addr}{fd:FuncData}{N ps:List Str}{k nI nM l:Nat}{T:FT}{TI:FTQ}{TM:FTR}{ns:List Str}{as1:List Expr}(b7:∀ {sp:Sp},(∀ vs H Q E,sp vs H Q E->vs.length=ps.length)->(∀ (qZ:Value) (A:Around) (outer:List Env) (s:Shared) (H:Hp) (vs:List V) (Q:VK) (E:XK),Room k (A.deeper (envOfC j (zb st) s.heap.objs.size f qZ))->sp vs H Q E ->
   ∃ t,PSs (cxOf CX0 P w K mg base N j (zb st) f qZ A outer s H E).nox (yi st) t/\t {nx:=λ_ H'=>Q .non H',rt:=Q} (ZZ.start N vs) H)->FnOk P w K mg base CX0 (k+1) f fd ps sp)(no:m∉ns)(hb:yi st=[s0,s1,s2,s3,s4])(lM:nM=1)(qY:∀ (qZ:Value) (A:Around) (outer:List Env) (s:Shared) (H:Hp) (E:XK) (ds:List D) (U:EV->Prop),Room k (A.deeper (envOfC j (zb st) s.heap.objs.size f qZ))->ds.length=ps.length->T ds U ->
   ∃ t0 ta t2 t3,SD (λ_=>True) (cxOf CX0 P w K mg base N j (zb st) f qZ A outer s H E).nox s0 t0/\EA (λ_=>True) (cxOf CX0 P w K mg base N j (zb st) f qZ A outer s H E).nox as1 ta /\
    (∀ {t:TA},PA (cxOf CX0 P w K mg base N j (zb st) f qZ A outer s H E).nox as1 t->PS (cxOf CX0 P w K mg base N j (zb st) f qZ A outer s H E).nox s1 (tAsg (Z1 C (spQ K nI TI) [] E0 t) (rq l))) /\
    QS (λ_=>True) l (cxOf CX0 P w K mg base N j (zb st) f qZ A outer s H E).nox s2 t2/\QS (λ_=>True) l (cxOf CX0 P w K mg base N j (zb st) f qZ A outer s H E).nox s3 t3 /\
    PS (cxOf CX0 P w K mg base N j (zb st) f qZ A outer s H E).nox s4 (tRet (Nv C m (spR K nM TM) [] E0 (tVar l) tNil)) /\
    t0 (xa N.length ds) {nx:=λL=>l<L.length/\ta L λrs=>(∀ r∈rs,r.k≠.own)/\rs.length+1=nI/\TI (.ob C [] []) (rs.map EV.d) λr0 d=>r0=.non/\t2 (setS L l (dv d)) {nx:=λa9=>t3 a9 {nx:=λa8=>∃ ds,slot a8 l=some (dv (.ob C ns ds))/\TM (.ob C ns ds) [] λe=>U ⟨.new,e⟩,rt:=λ_ _=>False},rt:=λ_ _=>False},rt:=λ_=>False}):FnOk P w K mg base CX0 (k+1) f fd ps (spD K ps.length T):=by
 refine b7 (λvs H Q E h=>?_) (λqZ A outer s H vs Q E hr h=>?_)
 ·obtain⟨ds,U,hl,r,_⟩:=h;rw[r.length,hl]
 obtain⟨ds,U,hl,r,hT,kk⟩:=h;obtain⟨t0,ta,t2,t3,h0,ha,h1,h2,h3,h4,hq⟩:=qY qZ A outer s H E ds U hr hl hT;rw[hb];refine⟨_,u3 (h0 ⟨H,trivial⟩) (u3 (h1 (ha ⟨H,trivial⟩)) (u3 (h2 ⟨H,trivial⟩) (u3 (h3 ⟨H,trivial⟩) (jy h4)))),?_⟩;have R0:=ug (N:=N) (ds:=ds) (vs:=vs) (H:=H) r;refine⟨_,[],R0,_,hq,λL d3 H1 o1 g1 R1 hn=>?_,λ_ _ _ _ _ _ q=>q.elim,λ_ _ _ _ _ _ q=>q.elim,λ_ _ _ _ _ q=>q.elim⟩;obtain⟨c1,hn⟩:=hn;refine⟨L,o1,R1,_,hn,λus rs H2 Z b3 a2=>?_⟩;obtain⟨a3,a4,a2⟩:=a2;intro I dx M c2 b8;have sx:Same H2 (upd (upd H2 dx (.own I)) I (.ins C dx [])):=(y7 c2 _).trans (y7 (by rw[y0 (Ne.symm b8)];exact M) _)
 show spQ K nI TI (.ref I::(us++[])) _ _ E0;rw[List.append_nil];have rr:=b3.reps a3;have gx:Grow (o1.map Prod.snd) [I] H2 (upd (upd H2 dx (.own I)) I (.ins C dx [])):=⟨λc u B _=>⟨sx _ _ B,λz=>by rw[List.mem_singleton.mp z,M]at B;cases B⟩,λc xs B=>sx _ _ B,λc ob u B=>sx _ _ B⟩
 refine⟨.ob C [] [],rs.map EV.d,.ref I,us,[I],_,rfl,by rw[zLm];exact a4,⟨I,dx,[],[],rfl,zw,rfl,List.nodup_nil,rfl,rfl,rfl⟩,by simp,Reps.grow gx _ _ rr,a2,λu r0 d H3 A3 g3 c3 b6 c4 e4 b4 a1=>?_⟩
 obtain⟨rfl,a1⟩:=a1;have b0:Same H1 H3:=λc u B=>(g3.keep c u (sx _ _ (Z _ _ B)) λz=>by rw[List.mem_singleton.mp z]at B;rw[Z _ _ B]at M;cases M).1
 have a6:∀a∈A3,H1 a=none:=λa ha=>by
  rcases c4 a ha with z|z
  ·rw[List.mem_singleton.mp z];exact Z.free M
  exact Z.free (sx.free z)
 refine⟨b4,?_⟩;have S3:=ST.make (l:=l) R1 c1 b0 c3 b6 a6;refine⟨_,o1,A3,d,.ref I,S3,_,a1,λa7 d0 H4 o4 A4 d4 S4 c0=>⟨a7,o4,A4,d4,.ref I,S4,_,c0,λe0 c8 H5 o5 A5 d5 S5 a0=>?_,λ_ _ _ _ _ _ _ q=>q.elim,λ_ _ _ _ _ _ _ q=>q.elim,λ_ _ _ _ _ _ _ _ _ _ _ q=>q.elim⟩,λ_ _ _ _ _ _ _ q=>q.elim,λ_ _ _ _ _ _ _ q=>q.elim,λ_ _ _ _ _ _ _ _ _ _ _ q=>q.elim⟩;obtain⟨es,c6,a0⟩:=a0;have e5:some (dv d5)=some (dv (.ob C ns es)):=by rw[<- c6];exact(xw S5.hd).symm
 cases e5
 obtain⟨a5,c7,e3,B5,c5,q5,e7,e6,e8,r5⟩:=id S5.ft;refine⟨.ref I,S5.hv,a5,c7,_,c5,q5,rk no,?_⟩;show spR K nM TM (.ref I::([]++[])) H5 Q E0;refine⟨_,[],.ref I,[],A5,_,rfl,by rw[lM];rfl,S5.ft,S5.ndA,rfl,a0,λu5 e H6 k6 b5 b9=>?_⟩
 refine kk u5 ⟨.new,e⟩ H6 (λc u B=>k6 c u (S5.Q.same _ _ B) λz=>by have z2:H c=none:=S5.frA c z;rw[z2]at B;cases B) (RepN.to (Same.refl _) (λa ha=>⟨by simp,?_⟩) _ _ b5) trivial b9
 exact ha.elim (S5.frA a) λz=>S5.Q.same.free z
def j5{B:Addr}{u:Tok}{n:Nat}{Q:Int×Int×Nat->Shared->Prop}(hs:s.heap.IsSliceOf B .none .none (.int (-1) u))(h:Q ((n:Int)-1,-1,n) s) :
  wpAny (model prog w) A (Builtin.Slice.sliceApplied (.ref B) (pure (n:Int))) Q E s:=by
 obtain⟨N,j,I,q⟩:=id hs;unfold Builtin.Slice.sliceApplied Builtin.Slice.sliceFields;refine zaa (zaa (wpAny_field j q (x:=.none) rfl (zaa (wpAny_field j q (x:=.none) rfl (zaa (wpAny_field j q (x:=.int (-1) u) rfl (zab ?_)))))));refine zaa (slicePart_int ?_);show wpAny _ _ (if ((-1:Int)==0)=true then _ else _) _ _ s
 rw[if_neg (by decide)]
 refine zaa (slicePart_none (zaa (slicePart_none (zaa (zab ?_)))));show wpAny _ _ (match Builtin.Slice.sliceAdjust none none (-1) (n:Int) with|(lo,hi)=>pure (lo,(-1:Int),Builtin.Slice.slicePlaces lo hi (-1))) _ _ s
 have M:Builtin.Slice.sliceAdjust none none (-1) (n:Int)=((n:Int)-1,-1):=by
  unfold Builtin.Slice.sliceAdjust;simp
 rw[M];show wpAny _ _ (pure ((n:Int)-1,(-1:Int),Builtin.Slice.slicePlaces ((n:Int)-1) (-1) (-1))) _ _ s;have ep:Builtin.Slice.slicePlaces ((n:Int)-1) (-1) (-1)=n:=by
  unfold Builtin.Slice.slicePlaces;rw[if_neg (by decide)]
  split
  ·rw[show -(-1:Int)=1 from rfl,Int.ediv_one];omega
  omega
 rw[ep];exact zab h
def Mj(xs:List Value):((List.range xs.length).filterMap λ(k:Nat)=>xs.toArray[(((xs.length:Int)-1)+(k:Int)*(-1)).toNat]?)=xs.reverse:=by
 apply List.ext_getElem?;intro i;have e:∀k∈List.range xs.length,xs.toArray[(((xs.length:Int)-1)+(k:Int)*(-1)).toNat]?=some ((xs.reverse)[k]?.getD .none):=λk q=>by
  have q:=List.mem_range.mp q;rw[List.getElem?_toArray,List.getElem?_reverse q,show(((xs.length:Int)-1)+(k:Int)*(-1)).toNat=xs.length-1-k by omega,zaf (by omega)]
  rfl
 have e2:((List.range xs.length).filterMap λ(k:Nat)=>xs.toArray[(((xs.length:Int)-1)+(k:Int)*(-1)).toNat]?)=(List.range xs.length).map λk=>(xs.reverse)[k]?.getD .none:=by
  generalize List.range xs.length=l at e
  induction l with
  |nil=>rfl
  |cons k l ih=>rw[List.filterMap_cons,e k zao,List.map_cons,ih λj B=>e j (zal _ B)]
 rw[e2,zai];by_cases hi:i<xs.length
 ·rw[List.getElem?_range hi];show some (xs.reverse[i]?.getD .none)=_;rw[zaf (by rw[List.length_reverse];exact hi)]
  rfl
 rw[List.getElem?_eq_none (by simp;omega),List.getElem?_eq_none (by simp;omega)]
 rfl
def getItem_tuple_rev{t B:Addr}{its:List Value}{u:Tok}{Q:Value->Shared->Prop}(q:IsTup s.heap t its.toArray)(hs:s.heap.IsSliceOf B .none .none (.int (-1) u))(h:Q (.ref s.heap.objs.size) {s with heap:=s.heap.push {cls:=.type "tuple",data:=.seq its.reverse.toArray}})(hsz:its.length<=sizeLine):wpAny (model prog w) A (getItem (.ref t) (.ref B)) Q E s:=by
 have j:sizeOk (.seq its.reverse.toArray):=by
  show its.reverse.toArray.size<=sizeLine;simpa using hsz
 obtain⟨Z,I,M,a0⟩:=id hs;have N:s.TypeIs (.ref B) "slice":=⟨Z,I,M⟩;unfold getItem
 try with_reducible refine wpAny_holding ?_
 first|refine zaa (zab ?_)|skip
 refine zaa (wpAny_sequenceKey q.typeIs (by decide) ?_)
 refine zaa (wpAny_callSpecial?_slot (name:=Str.ofString "__getitem__") q.typeIs PyProof.Rows.slot_tuple_getitem
  (wpAny_call_entry PyProof.Rows.slot_tuple_getitem q.typeIs PyProof.Rows.entry_tuple_getitem ?_ (PyProof.Rows.args_tuple_getitem _ _)))
 show wpAny _ _ (Builtin.Tuple.tupleItemsOf (.ref t) >>= _) _ _ s;refine zaa (tupleItemsOf_ q ?_);refine zaa (wpAny_typeOf N ?_);rw[if_pos (by decide)]
 rw[show its.toArray.size=its.length from zap ..];refine zaa (j5 hs ?_);show wpAny _ _ (if (((its.length:Int)-1)==0&&(-1:Int)==1&&its.length==its.length)=true then _ else _) _ _ s
 rw[if_neg (by simp),Mj]
 first
  |exact zaa (m:=Builtin.Tuple.tupleExact _) (wpAny_newObj_type (zab ⟨_,rfl,zab h⟩) j)
  |exact zaa (m:=Builtin.Tuple.tupleExact _) (wpAny_newObj_type (zaa (zab (zab ⟨_,rfl,zab h⟩))) j)
  |exact zaa (zaa (m:=Builtin.Tuple.tupleExact _) (wpAny_newObj_type (zab (zab ⟨_,rfl,zab h⟩)) j))
  |exact zaa (zaa (m:=Builtin.Tuple.tupleExact _) (wpAny_newObj_type (zab ⟨_,rfl,zab h⟩) j))
section
variable{te:TE}{st:Expr}{ts:TO}
def z0f(K:W.Frag)(te:TE)(ts:TO):TE:=λG H Q=>te G H λx H1=>ts G H1 λk j=>∃a xs,x=.ref a/\SqT K j a xs/\k=some (-1)/\∀p,j p=none->Q (.ref p) (upd j p (.tup xs.reverse))
def Fb(he:PE X e te)(hs:PO X (some st) ts):PE X (.Subscript e (.Slice none none (some st) p2) pos) (z0f X.K te ts):=by
 intro pn s G H Q I h;refine Subscript_ (thn (he pn s G H _ I h) λv s1 Zh=>?_);obtain⟨x,H1,I1,r1,q1⟩:=Zh;refine wpAny_Slice ?_;rw[evalPart_none];refine zab (zab ?_);refine thn (hs pn s1 G H1 _ I1 q1) λvk j Zh=>?_;obtain⟨k,H4,I4,pk,a,xs,e1,sq,k0,q⟩:=Zh;subst e1 k0;cases r1;obtain⟨t,rfl⟩:∃t,vk=.int (-1) t:=by cases pk;exact⟨_,rfl⟩
 have M:Inv X pn G H4 {j with heap:=j.heap.push {cls:=.type "slice",data:=.fields #[.none,.none,.int (-1) t]}}:=I4.kept (t':=j.toks) λb ob q=>zac _ q;obtain⟨its,r,Z,N⟩:=M.tuple sq;have B:its.length=xs.length:=r.length.symm;show wpAny (model X.prog X.w) X.A (subscriptTail e (.Slice none none (some st) p2) (.ref a) (.ref j.heap.objs.size)) (EP X pn G Q) X.xe {j with heap:=j.heap.push {cls:=.type "slice",data:=.fields #[.none,.none,.int (-1) t]}};refine tail_any (ops:=[.ref a,.ref j.heap.objs.size]) Z.typeIs PyProof.Rows.slot_tuple_getitem.lookup ?_ (by with_unfolding_all rfl)
 refine ZZ.getItem_tuple_rev Z (Heap.IsSliceOf.new ..) ?_ (by rw[B];exact N)
 refine⟨.ref _,_,M.laid (t':=j.toks) (o:=.tup xs.reverse) (λb ob q=>zac _ q) (zaj _) ?_,rfl,q _ (M.hok.fresh (zaj _))⟩;exact⟨by rw[List.length_reverse];exact N,_,r.reverse,IsTup.new _ _,_,zad _ rfl,rfl⟩
end
section
def z1p(te:TD)(ts:TDo):TD:=λL U=>te L λx=>ts L λk=>k=some (-1)/\match x.d with
 |.tup ds=>U (dv (.tup ds.reverse))
 |_=>False
theorem Yq{K:W.Frag}{H:Hp}{O:List Addr}:∀{ds:List D}{xs:List V}{d:D}{x:V},Reps K H O ds xs->Rep K H O d x->Reps K H O (ds++[d]) (xs++[x])
 |[],_,d,x,r,h=>by
  cases (show _=_ from r)
  exact⟨x,[],rfl,h,rfl⟩
 |d'::ds,_,d,x,⟨v,r',e,h',rr⟩,h=>by
  subst e;exact⟨v,_,rfl,h',Yq rr h⟩
theorem Ug{K:W.Frag}{H:Hp}{O:List Addr}:∀{ds:List D}{xs:List V},Reps K H O ds xs->Reps K H O ds.reverse xs.reverse
 |[],_,r=>by
  cases (show _=_ from r)
  exact rfl
 |d::ds,_,⟨v,r',e,h',rr⟩=>by
  subst e;rw[List.reverse_cons,List.reverse_cons];exact Yq (Ug rr) h'
def Er{st:Expr}{ts:TDo}{p2:Pos}(he:ED Y X e te)(hs:EO Y X (some st) ts):ED Y X (.Subscript e (.Slice none none (some st) p2) pos) (z1p te ts):=λH_ =>
 impE (Fb (he H_) (hs H_)) λG H Q q=>by
  obtain⟨L,o,R,U,B,kk⟩:=q;refine⟨L,o,R,_,B,λv r H1 s1 Z h1=>⟨L,o,R.to s1,_,h1,λk H2 s2 h2=>?_⟩⟩;have j:=s1.trans s2;have N:=(Z.same s2).view;obtain⟨h0,M⟩:=h2;obtain⟨kd,d⟩:=r;cases d with
  |tup ds =>
   obtain⟨a,xs,rfl,q,r⟩:=N;refine⟨a,xs,rfl,q.1,h0,λp I=>?_⟩;exact kk _ _ _ (j.trans (y7 I _)) (RV.start (Yo I (Ug r)) j) M
  |_=>exact M.elim
end
def Qj(i:Nat)(te:TD):TDS:=λL Z=>match slot L i with
 |some ⟨.own,.lst ds⟩=>te L λr=>∃gs,r=df (.lst gs)/\gs.length<=1000/\ds.length<=100000/\Z.nx (setS L i (dO (.lst (ds++gs))))
 |_=>False
def Z6(i:Nat){x:Str}{np apos cpos:Pos}(he:ED Y X e te)(hi:X.N[i]?=some x:=by rfl)(hv:Vis X.env.scope x:=by walk_at "o")(hd:D_ x:=by decide)(a0:(x==("__classdict__" : Str))=false:=by decide)(hp:∀ {ta tb:TE},PE X (.Name x np) ta->PE X e tb->PS X (.Expr (.Call (.Attribute (.Name x np) "extend" apos) [e] [] cpos) pos)
    (Wl (tBM X.K "list" Za ta (Sd tb tNil))):=by
   intro ta tb h1 h2;exact t8 (Sn PySem.F.plainAttrs_list PySem.F.slot_list_extend PySem.F.type_list_extend gf h1 (w5 h2 u4))) :
  SD Y X (.Expr (.Call (.Attribute (.Name x np) "extend" apos) [e] [] cpos) pos) (Qj i te):=λH_=>impS (hp (uw hi hv hd a0) (he H_)) λD G H h=>by
 obtain⟨L,o,R,Z,B,k1,k2,k3,k4⟩:=h;unfold Qj at B;split at B
 ·rename_i ds q;obtain⟨v0,j,q0⟩:=R.slots i _ (xn q);rcases q0 with⟨k,_⟩|⟨_,a,rfl,m,c⟩
  ·cases k
  obtain⟨xs,hx,rx⟩:=c;refine⟨.ref a,j,.inl ⟨rfl,xs,SqL.of hx⟩,?_⟩;refine⟨L,o,R,_,B,λv r H1 s1 rv h1=>?_⟩;obtain⟨gs,rfl,M,hl,hn⟩:=h1;obtain⟨p,rfl,mp,np,ys,hy,ry⟩:=rv;have R1:=R.to s1;have I:=Reps.grow (Grow.same s1) _ _ rx;refine⟨a,p,xs,ys,rfl,rfl,s1 _ _ hx,hy,?_,?_⟩
  ·rw[rx.length,ry.length];exact zak (Nat.add_le_add hl M) (by decide)
  obtain⟨R2,g2⟩:=R1.chg (d':=.lst (ds++gs)) (ho:=.lst (xs++ys)) (xn q) j m ⟨λ_ z=>(by cases z),λ_ _ z=>(by cases z)⟩ λgr=>⟨xs++ys,zw,gr _ _ (I.append (Reps.sub (λb hb=>zal _ hb) _ _ ry))⟩
  exact k1 _ G _ o ((Grow.same s1).trans g2) R2 hn
 exact B.elim
section
open PySem PySem.Spec PySem.W PyProof.Rows
structure STab(t:SetTable)(n:Nat)(b:Bool):Prop where
 sz:t.place.size=n
 dm:t.dummies=#[]
 ms:t.mask=7
 ld:t.led=!b
 pl:t.plain=true
 up:t.place.toList.Pairwise (·<·)
def Nn{l:List Nat}(u:l.Pairwise (·<·)){i k x y:Nat}(hi:l[i]?=some x)(j:l[k]?=some y)(h:i<k):x<y:=by
 obtain⟨a,rfl⟩:=zag.mp hi;obtain⟨b,rfl⟩:=zag.mp j;exact List.pairwise_iff_getElem.mp u i k a b h
def Kk(xs:Array Nat)(j:Nat)(N:xs.toList.Pairwise (·<·)):∀B lo hi,lo<=hi->hi<=xs.size->hi-lo<=B->(∀(i x:Nat),xs[i]?=some x->i<lo->x<j)->(∀(i x:Nat),xs[i]?=some x->hi<=i->j<=x) ->
  SetTable.below.go xs j B lo hi<=xs.size/\(∀(i x:Nat),xs[i]?=some x->i<SetTable.below.go xs j B lo hi->x<j)/\(∀(i x:Nat),xs[i]?=some x->SetTable.below.go xs j B lo hi<=i->j<=x):=by
 intro B
 induction B with
 |zero =>
  intro lo hi h1 h2 h3 a b;have e:lo=hi:=by omega
  subst e;exact⟨h2,a,b⟩
 |succ B ih =>
  intro lo hi h1 h2 h3 a b;unfold SetTable.below.go;by_cases h:lo<hi
  ·rw[if_pos h]
   dsimp only
   have Z:(lo+hi) / 2<xs.size:=by omega
   have e:xs[(lo+hi) / 2]?=some xs[(lo+hi) / 2]:=Array.getElem?_eq_getElem Z;have e2:xs.getD ((lo+hi) / 2) j=xs[(lo+hi) / 2]:=by simp[Array.getD,Z]
   rw[e2];split
   ·rename_i c;refine ih _ _ (by omega) h2 (by omega) (λi x I M=>?_) b
    rcases Nat.lt_or_ge i ((lo+hi) / 2) with q|q
    ·exact Nat.lt_trans (Nn N (by simpa using I) (by simpa using e) q) c
    have:i=(lo+hi) / 2:=by omega
    subst this;rw[e]at I;cases I;exact c
   rename_i c;refine ih _ _ (by omega) (by omega) (by omega) a (λi x I M=>?_)
   rcases Nat.lt_or_ge ((lo+hi) / 2) i with q|q
   ·exact zak (Nat.not_lt.mp c) (Nat.le_of_lt (Nn N (by simpa using e) (by simpa using I) q))
   have:i=(lo+hi) / 2:=by omega
   subst this;rw[e]at I;cases I;exact Nat.not_lt.mp c
  rw[if_neg h];have e:lo=hi:=by omega
  subst e;exact⟨h2,a,b⟩
def Ye(xs:Array Nat)(j:Nat)(q:xs.toList.Pairwise (·<·)):SetTable.below xs j<=xs.size/\(∀(i x:Nat),xs[i]?=some x->i<SetTable.below xs j->x<j)/\(∀(i x:Nat),xs[i]?=some x->SetTable.below xs j<=i->j<=x) :=
 Kk xs j q _ _ _ (Nat.zero_le _) (zaj _) (by omega) (λ_ _ _ h=>absurd h (Nat.not_lt_zero _)) (λi x h hi=>by have:=(Array.getElem?_eq_some_iff.mp h).1;omega)
def T9{α:Type}(xs:Array α)(p:Nat)(x:α):(SetTable.insertAt xs p x).toList=xs.toList.take p++x::xs.toList.drop p:=by
 have e:List.take (xs.size-p) (List.drop p xs.toList)=List.drop p xs.toList:=List.take_of_length_le (by simp)
 simp[SetTable.insertAt,Array.toList_extract,e]
def Ac{xs:Array Nat}{j:Nat}(I:xs.toList.Pairwise (·<·))(h:xs[SetTable.below xs j]?≠some j):(SetTable.insertAt xs (SetTable.below xs j) j).toList.Pairwise (·<·):=by
 obtain⟨_,a,b⟩:=Ye xs j I;have b':∀(i x:Nat),xs[i]?=some x->SetTable.below xs j<=i->j<x:=λi x B hi=>by
  rcases Nat.lt_or_ge j x with q|q
  ·exact q
  have e:x=j:=Nat.le_antisymm q (b i x B hi);subst e;rcases Nat.lt_or_ge (SetTable.below xs x) i with q|q
  ·have hz:=(Array.getElem?_eq_some_iff.mp B).1;have e:xs[SetTable.below xs x]?=some (xs[SetTable.below xs x]'(by omega)):=Array.getElem?_eq_getElem _
   exact absurd (Nat.lt_of_lt_of_le (Nn I (by simpa using e) (by simpa using B) q) (b _ _ e (zaj _))) (Nat.lt_irrefl _)
  rw[show i=SetTable.below xs x by omega]at B
  exact absurd B h
 rw[T9];have Z:∀x∈xs.toList.take (SetTable.below xs j),x<j:=λx B=>by
  obtain⟨i,e⟩:=List.getElem?_of_mem B;rw[List.getElem?_take]at e;split at e
  ·rename_i q;exact a i x (by simpa using e) q
  cases e
 have N:∀x∈xs.toList.drop (SetTable.below xs j),j<x:=λx B=>by
  obtain⟨i,e⟩:=List.getElem?_of_mem B;rw[List.getElem?_drop]at e;exact b' _ x (by simpa using e) (Nat.le_add_right _ _)
 refine List.pairwise_append.mpr ⟨I.sublist (List.take_sublist _ _),List.pairwise_cons.mpr ⟨N,I.sublist (List.drop_sublist _ _)⟩,λx B y M=>?_⟩;rcases zam.mp M with rfl|M
 ·exact Z x B
 exact Nat.lt_trans (Z x B) (N y M)
variable{t:SetTable}{n:Nat}{b:Bool}{h:Int}
def pst(i q:Nat):SetTable.Probe:={j:=i,more:=0,i,perturb:=q,dummy:=none}
def Az(T:STab t n b){i q:Nat}:t.advance (pst i q)=pst ((i*5+1+q / 32) % 8) (q / 32):=by
 have e:SetTable.runEnd 7 ((i*5+1+q / 32) % 8)=(i*5+1+q / 32) % 8:=if_neg (by omega)
 unfold SetTable.advance pst SetTable.leap;rw[T.ms];simp[e]
def Qd(T:STab t n b)(j:Nat):(∃i,t.slot j=.live i)\/t.slot j=.empty:=by
 unfold SetTable.slot
 dsimp only
 split
 ·exact .inl ⟨_,rfl⟩
 rw[T.dm];exact .inr rfl
def Qe(T:STab t n b){j:Nat}(e:t.slot j=.empty):t.place[SetTable.below t.place j]?≠some j:=λz=>by
 unfold SetTable.slot at e
 dsimp only at e
 rw[z,if_pos (by simp)]at e
 cases e
def Fnd(t:SetTable)(h:Int)(f i q:Nat):Prop:=∃j,SetTable.probe.go t (λ_=>h+1) h f (pst i q)=some (.empty j none)/\t.slot j=.empty
def Zt(T:STab t n b){f i q:Nat}(k:t.slot i≠.empty->Fnd t h f ((i*5+1+q / 32) % 8) (q / 32)):Fnd t h (f+1) i q:=by
 unfold Fnd;unfold SetTable.probe.go;have B:(pst i q).j=i:=rfl;rcases Qd T i with⟨l,e⟩|e <;> rw[B,e]
 ·dsimp only
  rw[if_neg (by simp;omega),Az T]
  exact k λz=>by rw[e]at z;cases z
 exact⟨i,rfl,e⟩
def orb:Nat->Nat->Nat
 |0,i=>i
 |k+1,i=>orb k ((i*5+1) % 8)
theorem Ai(T:STab t n b):∀(k f i:Nat),k<f->t.slot (orb k i)=.empty->Fnd t h f i 0
 |_,0,_,hk,_=>absurd hk (Nat.not_lt_zero _)
 |0,f+1,i,_,e=>Zt T λz=>absurd e z
 |k+1,f+1,i,hk,e=>Zt T λ_=>Ai T k f _ (by omega) e
def Fl:∀i<8,∀x<8,∃k<8,orb k i=x:=by decide
theorem Ah(T:STab t n b){x:Nat}(j:x<8)(e:t.slot x=.empty):∀(m f i q:Nat),q<32 ^ m->i<8->m+8<=f->Fnd t h f i q
 |0,f,i,q,hq,hi,hf=>by
  obtain⟨k,B,rfl⟩:=Fl i hi x j;rw[show q=0 by omega]
  exact Ai T k f i (by omega) e
 |m+1,0,i,q,hq,hi,hf=>by omega
 |m+1,f+1,i,q,hq,hi,hf=>Zt T λ_=>Ah T j e m f _ _ (by rw[Nat.pow_succ]at hq;omega) (by omega) (by omega)
def Qc(T:STab t n b)(Z:n<=3):∃x<8,t.slot x=.empty:=by
 have hl:t.place.toList.length<=3:=by simpa [T.sz] using Z
 have:∃x<8,x∉t.place.toList:=by
  generalize t.place.toList=l at hl;apply Classical.byContradiction;intro z;have a:∀x<8,x∈l:=λx B=>Classical.byContradiction λy=>z ⟨x,B,y⟩;have j:=a 0 (by omega)
  have I:=a 1 (by omega)
  have M:=a 2 (by omega)
  have a3:=a 3 (by omega)
  match l,hl with
  |[],_=>cases j
  |[p],_=>simp at j I;omega
  |[p,q],_=>simp at j I M;omega
  |[p,q,r],_=>simp at j I M a3;omega
 obtain⟨x,B,m⟩:=this;refine⟨x,B,(Qd T x).resolve_left λ⟨i,e⟩=>m ?_⟩;unfold SetTable.slot at e
 dsimp only at e
 split at e
 ·rename_i q;have N:=eq_of_beq q;exact zan (by simpa using N)
 rw[T.dm]at e;cases e
def Ee(T:STab t n b)(B:n<=3):∃j,t.freeSlot h=some (j,false)/\t.slot j=.empty:=by
 obtain⟨x,q,e⟩:=Qc T B;have I:SetTable.bits h<32 ^ 13:=by unfold SetTable.bits;omega
 obtain⟨j,a,c⟩:=Ah (h:=h) T q e 13 (10*SetTable.turns t.mask) (SetTable.bits h % 8) (SetTable.bits h) I (by omega) (by rw[T.ms];decide)
 have s:t.probeStart h=pst (SetTable.bits h % 8) (SetTable.bits h):=by
  have e:SetTable.runEnd 7 (SetTable.bits h % 8)=SetTable.bits h % 8:=if_neg (by omega)
  unfold SetTable.probeStart pst;rw[T.ms];simp[e]
 refine⟨j,?_,c⟩;unfold SetTable.freeSlot SetTable.probe;rw[s,a];rfl
def Bs(T:STab t n b)(N:n<=3){es:Array (Int×Value)}(he:es.size=n){x:Value}:STab (layNew t es h x).2.1 (n+1) b/\(layNew t es h x).2.2.1=false:=by
 obtain⟨j,a,c⟩:=Ee (h:=h) T N;have f:=Qe T c;have bl:=(Ye t.place j T.up).1;have M:∀{α:Type}(xs:Array α)(x:α),xs.size=n->SetTable.below t.place j<=n->(SetTable.insertAt xs (SetTable.below t.place j) x).size=n+1:=λxs x e q=>by
  rw[<- Array.length_toList,T9];simp[e];omega
 have B:SetTable.below t.place j<=n:=by rw[<- T.sz];exact bl
 unfold layNew;rw[a];have hd:(if SetTable.has t.dummies j then SetTable.eraseAt t.dummies (SetTable.below t.dummies j) else t.dummies)=#[]:=by rw[T.dm];rfl
 have I:STab (t.put j).1 (n+1) b:=⟨M _ _ T.sz B,hd,T.ms,T.ld,T.pl,Ac T.up f⟩;have Z:(t.put j).1.fits (SetTable.insertAt es (SetTable.below t.place j) (h,x)).size=true:=by
  unfold SetTable.fits SetTable.fill;rw[M es _ he B,I.sz,I.dm,I.ms];simp;omega
 refine⟨?_,rfl⟩;show STab ((t.put j).1.orStandIn (SetTable.insertAt es (SetTable.below t.place j) (h,x)).size) _ _;unfold SetTable.orStandIn;rw[if_pos Z];exact I
end
section
open PySem PySem.Spec PySem.W
def SetI(P:Program)(w:World)(h:Heap)(a:Addr)(ks:List Int):Prop :=
 ∃o es ep t,h.get? a=some o/\o.ExactSet/\o.data=.set es ep t/\ElemsOf (intKind P w) es.toList/\(∀k,k∈ks ↔ ∃e∈es.toList,(intKind P w).is k e.2=true)/\STab t es.size (w.params.followText "set-order")/\es.size<=ks.length
def SetI.to{P:Program}{w:World}{h g:Heap}{a:Addr}{ks:List Int}(x:SetI P w h a ks)(f:∀ o,h.get? a=some o->g.get? a=some o):SetI P w g a ks:=let ⟨o,es,ep,t,e,r⟩:=x;⟨o,es,ep,t,f o e,r⟩
theorem STab.fits{t:SetTable}{n:Nat}{b:Bool}(T:STab t n b)(j:n<=4):t.fits n=true:=by
 unfold SetTable.fits SetTable.fill;rw[T.sz,T.dm,T.ms];simp;omega
variable{a:Addr}{ks:List Int}
def z0a{k:Int}{x:Value}{Q:Bool->Shared->Prop}(hk:(intKind P w).is k x=true)(hx:x.scannable=true)(hv:plainKind x=true)(S:SetI P w s.heap a ks)(hn:ks.length<=3)(q:∀ r h',Heap.SameBut a s.heap h'->SetI P w h' a (ks++[k])->Q r {s with heap:=h'}):wpAny (model P w) A (setAddHashed a x ((intKind P w).hash k)) Q E s:=by
 obtain⟨o,es,ep,t,ho,a0,hd,M,I,T,hz⟩:=S;have hf:=T.fits (zak hz (Nat.le_succ_of_le hn));have hb:es.size<scanBound:=by unfold scanBound;omega
 unfold setAddHashed setAddHashedIn;refine wpAny_holding (zaa (wpAny_setState_of ho hd hf ?_))
 dsimp only
 rw[byScan_of hx hb M];simp only[↓reduceIte];unfold setAddByScan;refine zaa ?_;refine zaa (wpAny_rule ?_);refine zaa (wpAny_setScan_of hk ho hd hf M ?_);cases hr:List.findIdx? (λe=>(intKind P w).is k e.2) es.toList with
 |some j =>
  dsimp only
  obtain⟨hj,hp,_⟩:=List.findIdx?_eq_some_iff_getElem.mp hr;have a1:k∈ks:=(I k).mpr ⟨es.toList[j],List.getElem_mem hj,hp⟩;refine zab (zab ?_);have e:s={s with heap:=s.heap}:=by cases s;rfl
  rw[e];exact q _ _ (Heap.SameBut.refl a s.heap) ⟨o,es,ep,t,ho,a0,hd,M,λk'=>by
   rw[<- I k',zas,List.mem_singleton];exact⟨λz=>z.elim id λe=>e▸a1,.inl⟩,T,by rw[zLa];omega⟩
 |none =>
  dsimp only
  have hl:=layNew_perm t es ((intKind P w).hash k) x;obtain⟨Z,wd⟩:=Bs (h:=(intKind P w).hash k) (x:=x) T (by omega:es.size<=3) rfl
  generalize hL:layNew t es ((intKind P w).hash k) x=L at hl Z wd ⊢;obtain⟨B,N,a3,gv⟩:=L
  dsimp only at hl Z wd ⊢
  subst wd;rw[Array.toList_push]at hl;have z1:B.size=es.size+1:=by rw[<- Array.length_toList,hl.length_eq,zLa,Array.length_toList];rfl
  have a2:∀(b:Bool){s₁:Shared}{Q':Unit->Shared->Prop},Q' () s₁->wpAny (model P w) A (match b with|true=>rule "set.scan.the-table-gave-way"|false=>pure ()) Q' E s₁ :=
   λb s₁ Q' hq=>by cases b <;> first|exact zab hq|exact wpAny_rule hq
  refine zaa (a2 _ ?_);rw[Z.pl];simp only[↓reduceIte];refine zaa ?_;rw[hashByValue_scannable 8 hx,hv];refine zab ?_;simp only[↓reduceIte];refine zaa (wpAny_storeSet_of ho hd ?_ (by rw[z1,sizeLine_eq];omega))
  have tf:N.tooFull=false:=by
   unfold SetTable.tooFull SetTable.fill;rw[Z.sz,Z.dm,Z.ms];simp;omega
  rw[tf];simp only[Bool.not_false,Bool.and_false,Bool.false_eq_true,if_false];refine zab (zab (q _ _ (Heap.SameBut.update s.heap a _) ?_));have hg:(s.heap.update a (Obj.putSet B N)).get? a=some {o with data:=.set B (ep+1) N}:=by
   have:=Heap.get?_update_self (Obj.putSet B N) ho (by rw[putSet_of B N hd];rfl)
   rw[putSet_of B N hd]at this;exact this
  refine⟨_,B,ep+1,N,hg,a0,rfl,(M.push hk hx).perm hl,λk'=>?_,by rw[z1];exact Z,by rw[z1,zLa];show _<=_+1;omega⟩
  have:=mem_push_iff (S:=λk=>decide (k∈ks)) hk (λk'=>by rw[decide_eq_true_eq];exact I k') hl k'
  rw[<- this,Bool.or_eq_true,decide_eq_true_eq,decide_eq_true_eq,zas,List.mem_singleton]
section
variable{R:Result->Shared->Prop}{it:Addr}{fp wr:List Addr}{G:Array GenState->Array GenState->Prop}{n:Nat}{Pv:Nat->Value->Prop}{St:Nat->Shared->Prop}
def Fw(W:WalksS P w A.in1 it fp wr G n Pv St)(d:Addr)(hd:d∉fp)(ns:List Int)(hv:∀ i v,Pv i v->∃ t,v=.int (ns.getD i 0) t)(hn:n=ns.length)(h4:n<=4) :
  ∀(k i:Nat)(s:Shared),n-i=k->i<=n->St i s->SetI P w s.heap d (ns.take i) ->
   (∀z,Moved (d::wr) G s z->SetI P w z.heap d ns->R (.ok (.ret .none)) z) ->
   codeAny (model P w) A (.builtin "set.update.loop" ⟨[.ref d,.ref it],[]⟩) R s:=by
 have B:d∉wr:=λh=>hd (W.sub _ h);have sub:∀b∈wr,b∈d::wr:=λb I=>zal _ I;intro k
 induction k with
 |zero =>
  intro i s hk hi st q Z;have e:i=n:=by omega
  subst e;refine codeAny_builtin F.entry_set_update_loop ?_;rw[Around.under_plainId F.plain_set_update_loop _];show wpAny _ A.in1 (pyNext (.ref it) >>= _) _ _ s;refine zaa (W.done s _ _ st λz j=>?_);show wpAny _ A.in1 (ret Value.none) _ _ z;rw[List.take_of_length_le (by omega)]at q
  exact zab (Z z (j.mono sub) (q.to λo e=>j.heap d _ B e))
 |succ k ih =>
  intro i s hk hi st q Z;have lt:i<n:=by omega
  refine codeAny_builtin F.entry_set_update_loop ?_;rw[Around.under_plainId F.plain_set_update_loop _];show wpAny _ A.in1 (pyNext (.ref it) >>= _) _ _ s;refine zaa (W.item i s _ _ lt st λv z hP M j=>?_);obtain⟨t,rfl⟩:=hv i v hP;show wpAny _ A.in1 (holding [Value.int (ns.getD i 0) t] (setAdd d (.int (ns.getD i 0) t)) >>= _) _ _ z;refine zaa (wpAny_holding ?_);unfold setAdd;refine wpAny_holding (zaa ((intKind P w).pyHash (k:=ns.getD i 0) (intKind_is _ _ _ _) ?_));refine z0a (s:={z with toks:=z.toks+1}) (intKind_is _ _ _ _) rfl rfl (q.to λo e=>j.heap d _ B e) (by rw[List.length_take];omega) λ_ h1 sb q3=>?_
  have q4:SetI P w h1 d (ns.take (i+1)):=by
   have e:ns.take (i+1)=ns.take i++[ns.getD i 0]:=by
    rw[List.take_succ,List.getD_eq_getElem?_getD,zaf (by omega)]
    rfl
   rw[e];exact q3
  refine zab ⟨plainId_quiet F.plain_set_update_loop _,ih (i+1) _ (by omega) lt (W.frame _ z _ _ M (Nat.le_succ _) λb I o e=>?_) q4 λy N q5=>?_⟩
  ·rw[sb.2 b λh=>hd (by rw[<- h];exact I)];exact e
  refine Z y (Moved.trans W.gtrans ((j.mono sub).then_heap (Nat.le_succ _) λb o I e=>?_) N) q5;rw[sb.2 b λh=>I (by rw[h];exact zao)];exact e
end
def set0(w:World):Obj:={cls:=.type "set",dict:=none,data:=.set #[] 0 (.fresh 0 0 (!w.params.followText "set-order"))}
def Bg(a:Value){Q:Value->Shared->Prop}(h:Q (.ref s.heap.objs.size) {s with heap:=s.heap.push (set0 w)}) :
  codeAny (model P w) A (.call (.builtin "set.__new__") ⟨[.type "set",a],[]⟩) (wants Q E) s:=by
 refine codeAny_of_tree ?_;show wpAny _ A.in1 (do checkBuiltinCall "set.__new__" ⟨[.type "set",a],[]⟩;again (.builtin "set.__new__" ⟨[.type "set",a],[]⟩)) _ _ s
 refine zaa (wpAny_of_eq (F.newCall_set_1 a) (zab ⟨plainId_quiet F.plain_set_new _,codeAny_builtin F.entry_set_new ?_⟩));rw[Around.under_plainId F.plain_set_new _];unfold Builtin.«set.__new__» Builtin.Frozenset.newClass;have j:=sub_set_self;obtain⟨B,g,d,tk,q⟩:=s
 dsimp only
 wp_walk;refine wpAny_askSetting (zab ?_)
 dsimp only
 simp only[newObj];refine zaa (wpAny_alloc (zab ?_));exact zab h
def Dp{l:Addr}{its:Array Value}{ns:List Int}{Q:Value->Shared->Prop}(hh:A.handled=none)(hl:s.heap.IsList l its)(hv:∀ (i:Nat) (v:Value),its[i]?=some v->∃ t,v=.int (ns.getD i 0) t)(hn:its.size=ns.length)(h4:its.size<=4)(h:∀ (g:Heap) (tk:Nat),SetI P w g s.heap.objs.size ns->(∀ b o,s.heap.get? b=some o->g.get? b=some o)->Q (.ref s.heap.objs.size) {s with heap:=g,toks:=tk}) :
  wpAny (model P w) A (call (.type "set") [.ref l]) Q E s:=by
 obtain⟨c,tl,b4⟩:=F.called_set.mro;have a7:=F.called_set.made;have b0:=F.called_set.sub;refine wpAny_call (codeAny_of_tree ?_);show wpAny _ _ (callAny (.type "set") _) _ _ _;refine zab ⟨Code.quiet_builtin _ (by decide +kernel),codeAny_builtin F.entry_type_call ?_⟩
 rw[Around.under_plain (weight_type_call_type "set" [.ref l] []) rfl];have n1:=F.called_set.notType;have n2:=F.called_set.canCreate;have n3:=F.typeCall_set_1 (.ref l)
 repeat (any_goals (first|assumption|wp_step))
 refine codeAny_mono (Bg (.ref l) (E:=E) (Q:=λM z=>M=.ref s.heap.objs.size/\z={s with heap:=s.heap.push (set0 w)}) ⟨rfl,rfl⟩) λr z hr=>?_;cases r with
 |error e=>exact hr
 |ok fl =>
  cases fl with
  |ret M =>
   obtain⟨rfl,rfl⟩:=hr;have there:(s.heap.push (set0 w)).get? s.heap.objs.size=some (set0 w):=zad _ rfl;have ty:Shared.TypeIs {s with heap:=s.heap.push (set0 w)} (.ref s.heap.objs.size) "set":=⟨_,there,rfl⟩;have i1:=F.called_set.init.lookup;have i2:=F.called_set.init.bind (.ref s.heap.objs.size)
   repeat (any_goals (first|assumption|wp_step))
   refine codeAny_mono (codeAny_call_builtin (R:=wants (λr z=>r=.none/\∃g tk,z={s with heap:=g,toks:=tk}/\SetI P w g s.heap.objs.size ns/\(∀b o,s.heap.get? b=some o->g.get? b=some o)) E) F.called_set.init.plain F.entry_set_init (check_set_init_1 ty ?_)) λr2 z2 I=>?_
   ·obtain⟨ol,Z,a2,nl,a1⟩:=hl;obtain⟨a9,B,a5,j⟩:=ol;simp only at a2 a1;subst a2 a1;have N:(s.heap.push (set0 w)).get? l=some {cls:=.type "list",dict:=B,data:=.seq its nl,slots:=j}:=zac _ Z;have b1:=F.sub_list_set;have b2:=F.sub_list_frozenset;have b3:(Value.type "list"==Value.type "dict")=false:=by decide
    have a0:(s.heap.push (set0 w)).IsList l its:=⟨_,N,rfl,nl,rfl⟩;unfold Builtin.«set.__init__» noKeywords Builtin.Frozenset.updateFrom;generalize hPI:pyIter=PI;wp_walk;subst hPI;refine wpAny_pyIter_list a0 ?_;refine zaa (wpAny_runValue ?_);have ll:l<s.heap.objs.size:=zae Z;have a8:A.in1.in1.in1.handled=none:=by simp[hh]
    have a6:l≠(s.heap.push (set0 w)).objs.size:=by
     rw[Heap.size_push];exact Nat.ne_of_lt (Nat.lt_succ_of_lt ll)
    have dn:s.heap.objs.size∉[(s.heap.push (set0 w)).objs.size,l]:=by
     rw[Heap.size_push];simp only[zam,List.mem_singleton,List.not_mem_nil,or_false,not_or];exact⟨Nat.ne_of_lt (Nat.lt_succ_self _),Nat.ne_of_gt ll⟩
    refine Fw ((Walks.list a8 _ l a6 its).toS) s.heap.objs.size dn ns (λi v hx=>hv i v hx) hn h4 (its.size-0) 0 _ (by omega) (Nat.zero_le _) ⟨⟨_,zad _ rfl,rfl,rfl⟩,(a0.push _)⟩ ?first ?last
    case first =>
     exact⟨_,#[],0,_,zac _ there,⟨rfl,rfl,rfl⟩,rfl,λe he=>by simp at he,λk=>by simp,⟨rfl,rfl,rfl,rfl,rfl,List.Pairwise.nil⟩,zaj _⟩
    case last =>
     intro z hm q;obtain⟨g,g',d',a3,a4⟩:=z;have eg:g'=s.gens:=hm.gens;have ed:d'=s.drawn:=hm.drawn;have eo:a4=s.os:=hm.os;subst eg ed eo;show wpAny _ _ _ _ _ _;refine zab ?_;show wpAny _ _ (ret Value.none) _ _ _;refine zab ⟨rfl,g,a3,rfl,q,λb o e=>?_⟩;have lb:=zae e;have c1:b≠s.heap.objs.size:=Nat.ne_of_lt lb;have c2:b≠(s.heap.push (set0 w)).objs.size:=by
      rw[Heap.size_push];exact Nat.ne_of_lt (Nat.lt_succ_of_lt lb)
     exact hm.heap b o (by simp only[zam,List.mem_singleton,List.not_mem_nil,or_false,not_or];exact⟨c1,c2⟩) (zac _ (zac _ e))
   cases r2 with
   |error e=>exact I
   |ok f2 =>
    cases f2 with
    |ret r =>
     obtain⟨rfl,g,tk,rfl,q,kp⟩:=I
     repeat (any_goals (first|assumption|wp_step))
     exact h _ _ q kp
    |_=>exact I.elim
  |_=>exact hr.elim
theorem bf{α:Type}:∀(l:List α)(i:Nat)(x:α),l[i]?=some x->(x::l.eraseIdx i).Perm l
 |y::l,0,x,e=>by simp at e;subst e;exact List.Perm.refl _
 |y::l,i+1,x,e=>by
  rw[List.getElem?_cons_succ]at e;exact(List.Perm.swap y x _).trans ((bf l i x e).cons y)
theorem Qy{α:Type}(f:Nat->Nat):∀(m k:Nat)(l:List α)(out:Array α),l.length=m->(pickOrder.go f m k l out).toList.Perm (out.toList++l)
 |0,k,l,out,h=>by
  rw[List.length_eq_zero_iff.mp h,List.append_nil];exact List.Perm.refl _
 |m+1,k,l,out,h=>by
  unfold pickOrder.go;have hi:f k % l.length<l.length:=Nat.mod_lt _ (by omega)
  rw[zaf hi]
  dsimp only
  refine(Qy f m _ _ _ (by rw[List.length_eraseIdx,if_pos hi];omega)).trans ?_
  rw[Array.toList_push,List.append_assoc];exact(bf l _ _ (zaf hi)).append_left _
def Qx{α:Type}(f:Nat->Nat)(xs:Array α):(pickOrder f xs).toList.Perm xs.toList:=Qy f _ _ _ _ (by simp)
def ordS(w:World)(a:Addr)(ep:Nat)(es:Array (Int×Value)):Array (Int×Value):=if w.params.followText "set-order" = true then pickOrder (w.params.setOrder a ep) es else es
def slS(w:World)(t:SetTable):Nat->Nat
 |0=>0
 |i+1=>if w.params.followText "set-order" = true then 0 else t.place.getD i 0+1
def Ux(w:World)(a:Addr)(ep:Nat)(es:Array (Int×Value)):(ordS w a ep es).toList.Perm es.toList:=by
 unfold ordS;split
 ·exact Qx _ _
 exact List.Perm.refl _
def jh(w:World)(a:Addr)(ep:Nat)(es:Array (Int×Value)):(ordS w a ep es).size=es.size:=by
 rw[<- Array.length_toList,(Ux w a ep es).length_eq,Array.length_toList]
def Kj{w:World}{t:SetTable}{n i:Nat}{b:Bool}(B:w.params.followText "set-order" = false)(T:STab t n b)(hi:i<=n):SetTable.below t.place (slS w t i)=i:=by
 obtain⟨h1,h2,j⟩:=Ye t.place (slS w t i) T.up;have I:=T.sz;cases i with
 |zero =>
  rcases Nat.eq_zero_or_pos (SetTable.below t.place (slS w t 0)) with q|q
  ·exact q
  have e:t.place[0]?=some (t.place[0]'(by omega)):=Array.getElem?_eq_getElem _
  exact absurd (h2 0 _ e q) (Nat.not_lt_zero _)
 |succ i =>
  have hs:slS w t (i+1)=t.place[i]'(by omega)+1:=by
   show(if w.params.followText "set-order" = true then 0 else t.place.getD i 0+1)=_
   rw[B];simp[Array.getD,show i<t.place.size by omega]
  rw[hs]at h1 h2 j ⊢;have e:t.place[i]?=some (t.place[i]'(by omega)):=Array.getElem?_eq_getElem _
  generalize SetTable.below t.place (t.place[i]'(by omega)+1)=r at h1 h2 j ⊢
  rcases Nat.lt_trichotomy r (i+1) with q|q|q
  ·have:=j i _ e (by omega)
   omega
  ·exact q
  have e2:t.place[i+1]?=some (t.place[i+1]'(by omega)):=Array.getElem?_eq_getElem _
  have N:=h2 (i+1) _ e2 q;have M:=Nn T.up (by rw[Array.getElem?_toList];exact e) (by rw[Array.getElem?_toList];exact e2) (Nat.lt_succ_self i)
  omega
def SetR(w:World)(h:Heap)(a:Addr)(es:Array (Int×Value))(ep:Nat)(t:SetTable):Prop:=∃o,h.get? a=some o/\o.ExactSet/\o.data=.set es ep t/\STab t es.size (w.params.followText "set-order")/\es.size<=4
def SetJ(h:Heap)(J a:Addr)(j i n ep:Nat):Prop:=∃o,h.get? J=some o/\o.cls=.type "set_iterator"/\o.data=.fields #[.int j 0,.int i 0,.ref a,.int n 0,.int ep 0]
def we:Slot "set_iterator" "__next__" "set_iterator.__next__" :=
 .of (owner:="set_iterator") (n:="__next__") (by rw[typeLookup_type,builtinLookup_eq_fast];kernel_rfl) (by decide +kernel) (by decide +kernel) (by decide +kernel)
  (by first|exact .inl (by decide +kernel)|exact .inr (by decide +kernel)) (by rw[isSubtype_type];kernel_rfl)
def kl:Slot "set_iterator" "__iter__" "set_iterator.__iter__" :=
 .of (owner:="set_iterator") (n:="__iter__") (by rw[typeLookup_type,builtinLookup_eq_fast];kernel_rfl) (by decide +kernel) (by decide +kernel) (by decide +kernel)
  (by first|exact .inl (by decide +kernel)|exact .inr (by decide +kernel)) (by rw[isSubtype_type];kernel_rfl)
def qj:entryFor table "set_iterator.__next__" = some Builtin.«set_iterator.__next__»:=entryFor_of_tree (by kernel_rfl)
def Y7:entryFor table "set_iterator.__iter__" = some Builtin.«dict_keyiterator.__iter__»:=entryFor_alias (id':="dict_keyiterator.__iter__") (by kernel_rfl) rfl (by decide +kernel) (by kernel_rfl)
def j3(a:Value):argsOk "set_iterator.__next__" ⟨[a],[]⟩:=by unfold argsOk;kernel_rfl
def cj:entryFor table "set.__iter__" = some Builtin.«frozenset.__iter__»:=entryFor_alias (id':="frozenset.__iter__") (by kernel_rfl) rfl (by decide +kernel) (by kernel_rfl)
variable{J:Addr}{es:Array (Int×Value)}{ep i:Nat}{t:SetTable}
def SetR.ty(x:SetR w s.heap a es ep t):s.TypeIs (.ref a) "set":=let ⟨o,g,c,_⟩:=x;⟨o,g,c.1⟩
def SetR.to{h k:Heap}(x:SetR w h a es ep t)(f:∀ o,h.get? a=some o->k.get? a=some o):SetR w k a es ep t:=let ⟨o,g,r⟩:=x;⟨o,f o g,r⟩
def SetJ.ty{j i n ep:Nat}(x:SetJ s.heap J a j i n ep):s.TypeIs (.ref J) "set_iterator":=let ⟨o,g,c,_⟩:=x;⟨o,g,c⟩
def um{Q:(Array (Int×Value)×Nat×SetTable)->Shared->Prop}(x:SetR w s.heap a es ep t)(h:Q (es,ep,t) s):wpAny (model P w) A (setState a) Q E s:=by
 obtain⟨o,g,c,d,T,z⟩:=x;exact wpAny_setState_of g d (T.fits z) h
def Pb{Q:Option (Value×Nat)->Shared->Prop}(x:SetR w s.heap a es ep t)(hi:i<=es.size)(h:Q ((ordS w a ep es)[i]?.map λe=>(e.2,slS w t (i+1))) s):wpAny (model P w) A (setNext a (slS w t i) i ep) Q E s:=by
 obtain⟨o,g,c,d,T,z⟩:=id x;unfold setNext setsByText;refine zaa (um x ?_)
 dsimp only
 refine zaa (zaa (wpAny_askSetting (zab ?_)))
 dsimp only
 cases hw:w.params.followText "set-order" with
 |true =>
  have M:slS w t i=0:=by cases i with|zero=>rfl|succ i=>exact if_pos hw
  have e1:slS w t (i+1)=0:=if_pos hw;simp only[show(model P w).w=w from rfl,hw,if_true,bne_self_eq_false,Bool.false_eq_true,if_false];refine zaa ?_;unfold setWalk setsByText;refine zaa (um x ?_)
  dsimp only
  refine zaa (zaa (wpAny_askSetting (zab ?_)))
  dsimp only
  simp only[show(model P w).w=w from rfl,hw,if_true];refine zaa (wpAny_askSetting (zab (zab ?_)));rw[M];unfold ordS at h;rw[if_pos hw,e1]at h;exact h
 |false =>
  simp only[show(model P w).w=w from rfl,hw,Bool.false_eq_true,if_false];have N:(!t.plain&&decide (es.size > 1))=false:=by rw[T.pl];rfl
  have I:(!t.led&&!es.isEmpty)=false:=by rw[T.ld,hw];rfl
  refine wpAny_ite_split (λz=>absurd (show(!t.plain&&decide (es.size > 1))=true from z) (by rw[N];decide)) λ_=>?_
  refine zaa (m:=if (!t.led&&!es.isEmpty)=true then _ else _) ?_
  rw[I];simp only[Bool.false_eq_true,if_false];refine zab ?_;rw[Kj hw T hi];unfold ordS at h;rw[if_neg (by rw[hw];decide)]at h
  refine zab ?_;rcases Nat.lt_or_ge i es.size with q|q
  ·have j:i<t.place.size:=by rw[T.sz];exact q
   have B:t.place[i]?=some t.place[i]:=Array.getElem?_eq_getElem _;have e1:slS w t (i+1)=t.place[i]+1:=by
    show(if w.params.followText "set-order" = true then 0 else t.place.getD i 0+1)=_
    rw[if_neg (by rw[hw];decide)]
    simp[Array.getD,j]
   rw[Array.getElem?_eq_getElem q,e1]at h;rw[Array.getElem?_eq_getElem q,B];exact h
  rw[Array.getElem?_eq_none q]at h ⊢;exact h
def Ny{Q:Value->Shared->Prop}(x:SetR w s.heap a es ep t)(q:Q (.ref s.heap.objs.size) {s with heap:=s.heap.push {cls:=.type "set_iterator",data:=.fields #[.int 0 0,.int 0 0,.ref a,.int es.size 0,.int ep 0]}}) :
  wpAny (model P w) A (pyIter (.ref a)) Q E s:=by
 have ty:=x.ty;obtain⟨o,g,c,d,T,z⟩:=id x;refine wpAny_pyIter_slot ty F.slot_set_iter (wpAny_call_entry F.slot_set_iter ty cj (?body) (F.args_set_iter_1 _));unfold Builtin.«frozenset.__iter__»;refine zaa (zab ?_);show wpAny _ _ (Builtin.Frozenset.sizeOf a >>= _) _ _ s;unfold Builtin.Frozenset.sizeOf setEntries;refine zaa (zaa (zaa (um x (zab (zab ?_)))));unfold setDrawn setsByText;refine zaa (zaa (um x ?_))
 dsimp only
 refine zaa (zaa (wpAny_askSetting (zab (zab ?_))));have j:(!w.params.followText "set-order"&&(!t.plain&&decide (es.size > 1)))=false:=by rw[T.pl];simp
 refine wpAny_ite_split (λz=>absurd (show(!w.params.followText "set-order"&&(!t.plain&&decide (es.size > 1)))=true from z) (by rw[j];decide)) λ_=>?_
 refine zaa (zab ?_);unfold setEpoch;refine zaa (zaa (um x (zab ?_)));refine zaa (wpAny_newObj_type (zab ⟨_,rfl,"set_iterator",_,⟨_,zad _ rfl,rfl⟩,we.lookup,(?_:_)⟩));simpa [rawInt] using q
def E7{e:Int×Value}{Q:Option Value->Shared->Prop}(y:SetJ s.heap J a (slS w t i) i es.size ep)(x:SetR w s.heap a es ep t)(j:(ordS w a ep es)[i]?=some e)(q:∀ h',SetJ h' J a (slS w t (i+1)) (i+1) es.size ep->Heap.SameBut J s.heap h'->Q (some e.2) {s with heap:=h'}):wpAny (model P w) A (pyNext (.ref J)) Q E s:=by
 obtain⟨o,g,c,d⟩:=id y;have hi:i<es.size:=by have:=(Array.getElem?_eq_some_iff.mp j).1;rw[jh]at this;exact this
 unfold pyNext;apply zaa;refine wpAny_attempt (wpAny_callSpecial?_slot (name:=Str.ofString "__next__") y.ty we (wpAny_call_entry we y.ty qj (?_:_) (j3 _)));unfold Builtin.«set_iterator.__next__»;refine zaa (zab ?_);refine zaa (wpAny_fieldsOf g d ?_)
 dsimp only
 unfold setEntries;refine zaa (zaa (um x (zab ?_)));rw[if_neg (show ¬ _ by simp)]
 refine zaa (m:=setNext a _ _ _) ?_;simp only[Int.toNat_natCast];refine Pb x (Nat.le_of_lt hi) ?_;rw[j]
 dsimp only [Option.map]
 refine zaa (wpAny_setField g d (by simp) ?_)
 have g2:=Heap.get?_update_self (Obj.mapFields (·.setIfInBounds 0 (rawInt (slS w t (i+1))))) g (Obj.isFreed_of_fields (Obj.data_mapFields d _));have d2:(Obj.mapFields (·.setIfInBounds 0 (rawInt (slS w t (i+1)))) o).data=.fields #[.int (slS w t (i+1)) 0,.int i 0,.ref a,.int es.size 0,.int ep 0]:=by rw[Obj.data_mapFields d];simp[rawInt]
 refine zaa (wpAny_setField g2 d2 (by simp) ?_)
 refine zab ⟨_,rfl,zab (q _ ⟨_,Heap.get?_update_self _ g2 (Obj.isFreed_of_fields (Obj.data_mapFields d2 _)),?_,?_⟩ ((Heap.SameBut.update ..).trans (Heap.SameBut.update ..)))⟩
 ·rw[Obj.cls_mapFields,Obj.cls_mapFields];exact c
 rw[Obj.data_mapFields d2];simp[rawInt]
def Ar{Q:Option Value->Shared->Prop}(j:A.handled=none)(y:SetJ s.heap J a (slS w t es.size) es.size es.size ep)(x:SetR w s.heap a es ep t)(q:∀ h',Heap.ExtBut J s.heap h'->Q none {s with heap:=h'}):wpAny (model P w) A (pyNext (.ref J)) Q E s:=by
 obtain⟨o,g,c,d⟩:=id y;unfold pyNext;apply zaa;refine wpAny_attempt (wpAny_callSpecial?_slot (name:=Str.ofString "__next__") y.ty we (wpAny_call_entry we y.ty qj (?_:_) (j3 _)));unfold Builtin.«set_iterator.__next__»;refine zaa (zab ?_);refine zaa (wpAny_fieldsOf g d ?_)
 dsimp only
 unfold setEntries;refine zaa (zaa (um x (zab ?_)));rw[if_neg (show ¬ _ by simp)]
 refine zaa (m:=setNext a _ _ _) ?_;simp only[Int.toNat_natCast];refine Pb x (zaj _) ?_;rw[Array.getElem?_eq_none (Nat.le_of_eq (jh ..))]
 dsimp only [Option.map]
 refine zaa (wpAny_setField g d (by simp) ?_)
 show wpAny _ _ (newExc (.type "StopIteration") [] >>= _) _ _ _;apply zaa;simp only[newExc,newTuple];apply zaa;refine wpAny_newObj_type ?_ (by size_fits)
 apply zaa (m:=firstArgMember _ _);refine wpAny_of_eq (a:=Value.none) (by first|rfl|(simp only[firstArgMember];rfl)) ?_
 refine wpAny_newObj_type ?_ (by size_fits)
 simp only[raiseNew];apply zaa;apply wpAny_handled;rw[show A.in1.handled=none from j];refine zaa (zab (wpAny_throw (?_:_)));apply zaa;refine wpAny_isInstance (T:="StopIteration") (b:=true) ⟨_,zad _ rfl,rfl⟩ isSubtype_stop ?_;exact zab (q _ (((Heap.SameBut.update ..).extBut.push _).push _))
def Ec{Q:Bool->Shared->Prop}(hT:s.TypeIs (.ref a) "set")(h:Q false s):wpAny (model P w) A (Builtin.List.listLengthHint (.ref a)) Q E s:=by
 unfold Builtin.List.listLengthHint;refine zaa (wpAny_specialOf hT PySem.F.slot_set_len.lookup ?_);generalize hid:("set.__len__" : String)=q
 wp_delta
 rw[show splitId q=some ("set","__len__") from by subst hid;decide +kernel]
 subst hid;refine zaa (wpAny_isInstance (T:="set") (b:=true) hT (by rw[isSubtype_type];kernel_rfl) ?_)
 refine wpAny_ite_split (λj=>absurd j (by decide)) (λ_=>?_)
 refine wpAny_ite_split (λ_=>?_) (λj=>absurd (by decide +kernel) j)
 refine zaa (wpAny_typeOf hT ?_);exact zab h
def Nk(I:A.handled=none)(B:a≠J):Walks P w A J [J,a] [J] es.size (λi v=>∃e,(ordS w a ep es)[i]?=some e/\v=e.2) (λi h=>SetJ h J a (slS w t i) i es.size ep/\SetR w h a es ep t) where
 sub:=λb m=>by simp at m;simp[m]
 frame:=λ_ _ _ st f=>⟨let ⟨o,g,r⟩:=st.1;⟨o,f J (by simp) o g,r⟩,st.2.to λo e=>f a (by simp) o e⟩
 item:=λi s Q E hi st f=>by
  obtain⟨k,ek⟩:∃k,(ordS w a ep es)[i]?=some k:=⟨_,Array.getElem?_eq_getElem (by rw[jh];exact hi)⟩
  refine E7 st.1 st.2 ek λh' q j=>?_;exact f _ h' s.toks ⟨k,ek,rfl⟩ ⟨q,st.2.to λo e=>j.extBut a o B e⟩ λb o m e=>j.extBut b o (λz=>m (by simp[z])) e
 done:=λs Q E st f=>Ar I st.1 st.2 λh' M=>f h' s.toks λb o m e=>M b o (λz=>m (by simp[z])) e
 self:=λ_ s _ _ st f=>wpAny_pyIter_slot st.1.ty kl (wpAny_call_entry kl st.1.ty Y7 (zab ⟨_,rfl,"set_iterator",_,st.1.ty,we.lookup,f⟩) (by unfold argsOk;kernel_rfl))
def Dn:KdlSrc P w "set" a a es.size (λi v=>∃e,(ordS w a ep es)[i]?=some e/\v=e.2) (λh=>SetR w h a es ep t) where
 type:=λ_ x=>x.ty
 there:=λ_ x=>let ⟨_,g,_⟩:=x;⟨zae g,zae g⟩
 keep:=λ_ _ x f=>x.to λo e=>f a (.inl rfl) o e
 notList:=by decide
 notTuple:=by decide
 hint:=λ_ _ _ _ x f=>Ec x.ty f
 iter:=λ_ _ j x=>⟨_,_,(λ_ _ f=>Ny x f),Nk j (let ⟨_,g,_⟩:=x;Nat.ne_of_lt (zae g)),⟨⟨_,zad _ rfl,rfl,rfl⟩,x.to λo e=>zac _ e⟩⟩
def La{xs:Array (Int×Value)}{j:Array Value}{n:Nat}(h:ItemsOf (λi v=>∃ e,xs[i]?=some e/\v=e.2) j n)(B:xs.size=n):j.toList=xs.toList.map (·.2):=by
 apply List.ext_getElem?;intro i;rw[zai];have hs:j.toList.length=n:=by simpa using h.1
 by_cases hi:i<n
 ·have e1:j[i]?=some (j[i]'(by simpa using(by omega:i<j.toList.length))):=Array.getElem?_eq_getElem _
  obtain⟨k,e2,q⟩:=h.2 i _ e1;rw[Array.getElem?_toList,e1,Array.getElem?_toList,e2,q];rfl
 rw[List.getElem?_eq_none (by omega),List.getElem?_eq_none (by simp;omega)]
 rfl
theorem Pz{P:Program}{w:World}:∀{l:List (Int×Value)},ElemsOf (intKind P w) l->∃ks:List Int,IntsAre (l.map (·.2)) ks/\∀k,k∈ks ↔ ∃e∈l,(intKind P w).is k e.2=true
 |[],_=>⟨[],.nil,λk=>by simp⟩
 |e::l,h=>by
  obtain⟨⟨k,B,_⟩,_⟩:=h.head;obtain⟨ks,hi,M⟩:=Pz h.tail;obtain⟨t,et⟩:=Value.isInt_shape B;refine⟨k::ks,by rw[List.map_cons,et];exact .cons k t hi,λI=>?_⟩
  rw[zam,M I];constructor
  ·rintro(rfl|⟨x,j,q⟩)
   ·exact⟨e,zao,B⟩
   exact⟨x,zal _ j,q⟩
  rintro⟨x,j,q⟩;rcases zam.mp j with rfl|j
  ·exact .inl ((intKind P w).inj _ _ _ q B)
  exact .inr ⟨x,j,q⟩
def Nz(P:Program)(w:World)(a:Addr)(ns:List Int):HO:=.ext λh=>SetI P w h a ns
def qp(hc:X.calm=true):vz X (.type "set") (λxs H Q=>∃p ns,xs=[.ref p]/\SqL X.K H p (ns.map V.int)/\ns.length<=4/\∀l,H l=none->Q (.ref l) (upd H l (Nz X.prog X.w l ns))):=by
 intro pn s G H xs us Q I r h;obtain⟨p,ns,rfl,Z,hn,q⟩:=h;obtain⟨u,rfl,B⟩:=uz r;cases B;obtain⟨its,M,pl,hz⟩:=I.list Z;have hi:=k9 M;have hl:its.toArray.size=ns.length:=by rw[zap];exact hi.length
 refine Dp (ns:=ns) (I.ok.hd hc) pl.isList (λi v e=>hi.int_at i v (by simpa using e)) hl (by omega) λg tk j N=>?_
 refine⟨.ref s.heap.objs.size,_,I.laid (t':=tk) N (zaj _) ?_,rfl,q _ I.fresh⟩;exact⟨j,let ⟨o,_,_,_,e,_⟩:=j;⟨o,e⟩,λh1 h2 z k=>z.to k⟩
def Yc:vz X (.builtin "len") (λxs H Q=>∃p ns,xs=[.ref p]/\H p=some (Nz X.prog X.w p ns)/\ns.length<=4/\∀n:Nat,n<=ns.length->Q (.int n) H):=by
 intro pn s G H xs us Q I r h;obtain⟨p,ns,rfl,N,hn,q⟩:=h;obtain⟨u,rfl,B⟩:=uz r;cases B;obtain⟨⟨o,es,ep,t,ho,j,hd,Z,hm,T,M⟩,_⟩:=I.hok p _ N;exact call_len_set ho j hd (T.fits (by omega)) (by omega) ⟨.int es.size,H,I.tok _,⟨_,rfl⟩,q _ M⟩
def ja(hc:X.calm=true):vz X (.builtin "sorted") (λxs H Q=>∃p ns,xs=[.ref p]/\H p=some (Nz X.prog X.w p ns)/\ns.length<=4 /\
  ∀l (ms:List Int),H l=none->(∀k,k∈ms ↔ k∈ns)->ms.length<=ns.length->Q (.ref l) (upd H l (.lst (ms.map V.int)))):=by
 intro pn s G H xs us Q I r h;obtain⟨p,ns,rfl,hp,hn,q⟩:=h;obtain⟨u,rfl,rx⟩:=uz r;cases rx;obtain⟨⟨o,es,ep,t,ho,a1,hd,a2,hm,T,hz⟩,_⟩:=I.hok p _ hp;have z4:es.size<=4:=by omega
 refine Calls.call_function_entry kind_sorted plain_sorted entry_sorted (args_sorted1 _) (?_:_);unfold Builtin.«sorted»;apply zaa (m:=checkCount "sorted" 1 1 _);apply zab;apply zaa;refine kdu_collect (Dn (P:=X.prog) (w:=X.w) (a:=p) (es:=es) (ep:=ep) (t:=t)) (I.ok.hd hc) ⟨o,ho,a1,hd,T,z4⟩ (by rw[sizeLine_eq];omega) λh1 tk j k1 N=>?_
 have ea:=La N (jh ..);have Z:=Ux X.w p ep es;obtain⟨ks,hi,hk⟩:=Pz (P:=X.prog) (w:=X.w) (a2.perm Z);rw[<- ea]at hi;have B:j.toList.length=es.size:=by rw[ea,zLm,Z.length_eq,Array.length_toList]
 have M:ks.length=es.size:=by rw[<- B];exact hi.length.symm
 apply zaa;refine wpAny_newList ?_ (by rw[B,sizeLine_eq];omega)
 have I1:Inv X pn G H {s with heap:=h1,toks:=tk}:=I.kept k1;apply zaa;have g:(h1.push (seqObj "list" j.toList.toArray 0)).get? h1.objs.size=some (seqObj "list" j.toList.toArray 0):=zad _ rfl;refine wpAny_holding (wpAny_call_entry slot_list_sort ⟨_,g,rfl⟩ entry_list_sort (?_:_) (args_list_sort _));refine list_sort_tree (s:={s with heap:=h1.push (seqObj "list" j.toList.toArray 0),toks:=tk}) g hi (by omega) λout ms ho pm _=>?_
 obtain⟨e',ge⟩:=sortedHeap_at (out:=out) g;have a0:=size_push' h1 (seqObj "list" j.toList.toArray 0);refine⟨_,rfl,zab ⟨_,rfl,.ref h1.objs.size,_,I1.laid (t':=tk) (o:=.lst (ms.map V.int)) (λb u e=>?_) (zaj _) ?_,rfl,q _ ms (I1.hok.fresh (zaj _)) (λk=>?_) ?_⟩⟩
 ·have hb:=zae e;rw[sortedHeap_old (Nat.ne_of_lt hb) (by rw[a0];exact Nat.lt_succ_of_lt hb)]
  exact zac _ e
 ·exact⟨by rw[zLm,pm.length_eq,M,sizeLine_eq];omega,out.toList,e',jm ho,by simpa using ge⟩
 ·rw[pm.mem_iff,hk k,hm k];exact⟨λ⟨e,m,x⟩=>⟨e,Z.mem_iff.mp m,x⟩,λ⟨e,m,x⟩=>⟨e,Z.mem_iff.mpr m,x⟩⟩
 rw[pm.length_eq,M];exact hz
end
def Tq(te:TD):TD:=λL U=>te L λr=>match r.d with
 |.lst ds=>∃ns:List Int,ds=ns.map D.int/\ns.length<=4/\∀n:Nat,n<=ns.length->U (dv (.int n))
 |_=>False
def Rk(hm:X.mg "len" = none)(N:X.mg "set" = none)(he:ED Y X e te)(hc:X.calm=true:=by rfl)(hg:Gl X "len":=by rfl)(Z:Gl X "set":=by rfl)(h1:starEach [e] X.env=(false,eval e X.env)::starEach [] X.env:=by rfl)(h2:starEach [.Call (.Name "set" p2) [e] [] pos2] X.env=(false,eval (.Call (.Name "set" p2) [e] [] pos2) X.env)::starEach [] X.env:=by rfl)(M:(backTo pos2 (starEach [] X.env)).any (·.1)=false:=by rfl)(I:(backTo pos (starEach [] X.env)).any (·.1)=false:=by rfl) :
  ED Y X (.Call (.Name "len" p) [.Call (.Name "set" p2) [e] [] pos2] [] pos) (Tq te):=λH_ =>
 impE (Zb Yc hg hm PySem.boot_len (w5 (ga (qp hc) Z N W7 (w5 (he H_) u4 h1) (by decide) (by decide) h1 M) u4 h2) (by decide) (by decide) h2 I) λG H Q q=>by
  obtain⟨L,oo,R,U,B,kk⟩:=q;refine⟨L,oo,R,_,B,λv r H1 s1 rv h1=>?_⟩;obtain⟨kd,d⟩:=r;cases d with
  |lst ds =>
   obtain⟨ns,rfl,j,h1⟩:=h1;obtain⟨a,xs,rfl,q,rp⟩:=rv.view;have ex:=uf rp;subst ex;refine⟨a,ns,rfl,SqL.of q,j,λl hl=>⟨l,_,rfl,zw,j,λn j=>?_⟩⟩;exact kk _ (dv (.int n)) _ (s1.trans (y7 hl _)) (by exact rfl) (h1 n j)
  |_=>exact h1.elim
def Tp(te:TD):TD:=λL U=>te L λr=>match r.d with
 |.lst ds=>∃ns:List Int,ds=ns.map D.int/\ns.length<=4/\∀ms:List Int,(∀k,k∈ms ↔ k∈ns)->ms.length<=ns.length->U (df (.lst (ms.map D.int)))
 |_=>False
def W6:bootBuiltins "sorted" = some (.builtin "sorted"):=by kernel_rfl
def Rj(hm:X.mg "sorted" = none)(N:X.mg "set" = none)(he:ED Y X e te)(hc:X.calm=true:=by rfl)(hg:Gl X "sorted":=by rfl)(a0:Gl X "set":=by rfl)(h1:starEach [e] X.env=(false,eval e X.env)::starEach [] X.env:=by rfl)(h2:starEach [.Call (.Name "set" p2) [e] [] pos2] X.env=(false,eval (.Call (.Name "set" p2) [e] [] pos2) X.env)::starEach [] X.env:=by rfl)(M:(backTo pos2 (starEach [] X.env)).any (·.1)=false:=by rfl)(I:(backTo pos (starEach [] X.env)).any (·.1)=false:=by rfl) :
  ED Y X (.Call (.Name "sorted" p) [.Call (.Name "set" p2) [e] [] pos2] [] pos) (Tp te):=λH_ =>
 impE (Zb (ja hc) hg hm W6 (w5 (ga (qp hc) a0 N W7 (w5 (he H_) u4 h1) (by decide) (by decide) h1 M) u4 h2) (by decide) (by decide) h2 I) λG H Q q=>by
  obtain⟨L,oo,R,U,B,kk⟩:=q;refine⟨L,oo,R,_,B,λv r H1 s1 rv h1=>?_⟩;obtain⟨kd,d⟩:=r;cases d with
  |lst ds =>
   obtain⟨ns,rfl,hn,h1⟩:=h1;obtain⟨a,xs,rfl,q,rp⟩:=rv.view;have ex:=uf rp;subst ex;refine⟨a,ns,rfl,SqL.of q,hn,λl hl=>⟨l,_,rfl,zw,hn,λl2 ms j hk Z=>?_⟩⟩;have s2:=s1.trans (y7 hl (Nz X.prog X.w l ns));have R2:=R.to s2;exact kk _ (df (.lst (ms.map D.int))) _ (s2.trans (y7 j _)) ((sk (λb hb m=>by
    obtain⟨p,hp,rfl⟩:=zah.mp m;obtain⟨u,e⟩:=R2.trk p hp;rw[hb]at e;cases e) j (Reps.ints ms)).start s2) (h1 ms hk Z)
  |_=>exact h1.elim
def Xr{its:List Value}{ns:List Int}(hi:IntsAre its ns)(q:ns≠[]):∃xs,its.toArray=intItems xs/\ns=xs.toList.map (·.1)/\0<xs.size:=by
 obtain⟨xs,e⟩:=hi.allInts.items;have j:ns=xs.toList.map (·.1):=by rw[<- hi.numsOf,<- nums_intItems,<- e]
 refine⟨xs,e,j,?_⟩;have B:=List.length_pos_iff.mpr q;rw[j,zLm,Array.length_toList]at B;exact B
def N2(hc:X.calm=true):vz X (.builtin "min") (λxs H Q=>∃(p:Addr)(ns:List Int),xs=[.ref p]/\SqL X.K H p (ns.map V.int)/\ns≠[]/\∀M∈ns,(∀a∈ns,M<=a)->Q (.int M) H):=by
 intro pn s G H xs us Q I r h;obtain⟨p,ns,rfl,hq,N,q⟩:=h;obtain⟨u,rfl,rx⟩:=uz r;cases rx;obtain⟨its,rv,pl,hz⟩:=I.list hq;obtain⟨xs,e,B,hsz⟩:=Xr (k9 rv) N;have hl:=pl.isList;rw[e]at hl;refine min_intList (I.ok.hd hc) hl hsz λv h' tk hv hk=>?_;obtain⟨t,rfl⟩:=intItems_at hv;obtain⟨h1,h2⟩:=argBest_lt (numAt xs) (xs.size-1);refine⟨.int _,H,I.kept (t':=tk) hk,⟨t,rfl⟩,q _ ?_ λa Z=>?_⟩
 ·rw[B,numAt_eq];exact getD_mem (by rw[zLm,Array.length_toList];omega)
 rw[B]at Z;obtain⟨j,hj,rfl⟩:=mem_getD Z;rw[zLm,Array.length_toList]at hj;rw[<- numAt_eq];exact h2 j (by omega)
def N3(hc:X.calm=true):vz X (.builtin "max") (λxs H Q=>∃(p:Addr)(ns:List Int),xs=[.ref p]/\SqL X.K H p (ns.map V.int)/\ns≠[]/\∀M∈ns,(∀a∈ns,a<=M)->Q (.int M) H):=by
 intro pn s G H xs us Q I r h;obtain⟨p,ns,rfl,hq,N,q⟩:=h;obtain⟨u,rfl,rx⟩:=uz r;cases rx;obtain⟨its,rv,pl,hz⟩:=I.list hq;obtain⟨xs,e,B,hsz⟩:=Xr (k9 rv) N;have hl:=pl.isList;rw[e]at hl;refine max_intList (I.ok.hd hc) hl hsz λv h' tk hv hk=>?_;obtain⟨t,rfl⟩:=intItems_at hv;obtain⟨h1,h2⟩:=argBest_gt (numAt xs) (xs.size-1);refine⟨.int _,H,I.kept (t':=tk) hk,⟨t,rfl⟩,q _ ?_ λa Z=>?_⟩
 ·rw[B,numAt_eq];exact getD_mem (by rw[zLm,Array.length_toList];omega)
 rw[B]at Z;obtain⟨j,hj,rfl⟩:=mem_getD Z;rw[zLm,Array.length_toList]at hj;rw[<- numAt_eq];exact h2 j (by omega)
def sBest(m:Int->Int->Prop):FT:=λds U=>match ds with
 |[.lst l]=>∃ns:List Int,l=ns.map D.int/\ns≠[]/\∀M∈ns,(∀a∈ns,m M a)->U (dv (.int M))
 |_=>False
def Es(hm:X.mg "min" = none)(ha:EA Y X (e::es) t)(hc:X.calm=true:=by rfl)(hg:Gl X "min":=by rfl)(he:S_ X e es:=by rfl)(j:B_ X es pos:=by rfl):ED Y X (.Call (.Name "min" p) (e::es) [] pos) (dCB (sBest λM a=>M<=a) t) :=
 u9 (N2 hc) (λH O ds vs U Q ho Z h k=>by
  unfold sBest at h;split at h
  ·obtain⟨ns,rfl,B,h⟩:=h;obtain⟨v,ws,rfl,⟨a,xs,rfl,q,r⟩,rfl⟩:=Z;have:=uf r;subst this;exact⟨a,ns,rfl,SqL.of q,B,λM N I=>k _ _ H (Same.refl H) (by exact rfl) (h M N I)⟩
  exact h.elim) hm (by kernel_rfl) ha hg (by decide) (by decide) he j
def Et(hm:X.mg "max" = none)(ha:EA Y X (e::es) t)(hc:X.calm=true:=by rfl)(hg:Gl X "max":=by rfl)(he:S_ X e es:=by rfl)(j:B_ X es pos:=by rfl):ED Y X (.Call (.Name "max" p) (e::es) [] pos) (dCB (sBest λM a=>a<=M) t) :=
 u9 (N3 hc) (λH O ds vs U Q ho Z h k=>by
  unfold sBest at h;split at h
  ·obtain⟨ns,rfl,B,h⟩:=h;obtain⟨v,ws,rfl,⟨a,xs,rfl,q,r⟩,rfl⟩:=Z;have:=uf r;subst this;exact⟨a,ns,rfl,SqL.of q,B,λM N I=>k _ _ H (Same.refl H) (by exact rfl) (h M N I)⟩
  exact h.elim) hm (by kernel_rfl) ha hg (by decide) (by decide) he j
def spO(K:W.Frag)(n:Nat)(T:FT):Sp:=λvs H Q _=>∃ds U,ds.length=n/\Reps K H [] ds vs/\T ds U/\∀v r H',Same H H'->RV K H H' [] r v->U r->Q v H'
structure FO(P:Program)(w:World)(K:W.Frag)(mg:Str->Option Value)(base:Heap)(k:Nat)(x:Str)(ps:List Str)(T:FT):Prop where
 ex:∃f fd,FnOk P w K mg base CX0 k f fd ps (spO K ps.length T)/\u0 K fd ps []/\W.keepIn K (.ref f)=true/\mg x=some (.ref f)
def Pa:DE->Prop
 |[]=>True
 |none::L=>Pa L
 |some r::L=>(match r.k with|.own=>False|_=>True)/\Pa L
theorem Zc:∀{L:DE}{i:Nat}{r:EV},Pa L->L[i]?=some (some r)->r.k≠.own
 |none::L,0,r,h,e=>by simp at e
 |some r'::L,0,r,h,e=>by
  have e:r'=r:=by simpa using e
  subst e;exact vo h.1
 |none::L,i+1,r,h,e=>Zc (L:=L) (i:=i) h (by simpa using e)
 |some r'::L,i+1,r,h,e=>Zc (L:=L) (i:=i) h.2 (by simpa using e)
def Oa{x j:Str}{st:Stmt}{f:Addr}{fd:FuncData}{N ps:List Str}{k:Nat}{T:FT}(F:Fun K x j st f fd)(S:zj N ps (zb st))(b:u0 K fd ps [])(m:mg x=some (.ref f))(M:∀ (qZ:Value) (A:Around) (outer:List Env) (s:Shared) (H:Hp) (E:XK) (ds:List D) (U:EV->Prop),Room k (A.deeper (envOfC j (zb st) s.heap.objs.size f qZ))->ds.length=ps.length->T ds U ->
   ∃ t,SDs (λ_=>True) (cxOf CX0 P w K mg base N j (zb st) f qZ A outer s H E).nox (yi st) t/\t (xa N.length ds) {nx:=λ_=>False,rt:=U}):FO P w K mg base (k+1) x ps T:=by
 refine⟨f,fd,F.ok S (λvs H Q E h=>?_) (λqZ A outer s H vs Q E hr h=>?_),b,F.kp,m⟩
 ·obtain⟨ds,U,hl,r,_⟩:=h;rw[r.length,hl]
 obtain⟨ds,U,hl,r,hT,Z⟩:=h;obtain⟨t,ht,hq⟩:=M qZ A outer s H E ds U hr hl hT;exact⟨R5 K H t,ht ⟨H,trivial⟩,xa N.length ds,[],ug r,_,hq,λ_ _ _ _ _ _ q=>q.elim,λ_ _ _ _ _ _ q=>q.elim,λ_ _ _ _ _ _ q=>q.elim,λv I H' s' B q=>Z v I H' s' B q⟩
def Hid(P:Program)(w:World)(a:Addr)(xs:List V):HO:=.ext λh=>wm P w (λ_=>none) h a (.lst xs)
section
open Classical in
def hide(P:Program)(w:World)(O:List Addr)(H:Hp):Hp:=λa=>match H a with
 |some (.lst xs)=>if a∈O then some (Hid P w a xs) else some (.lst xs)
 |u=>u
open Classical in
def back(O:List Addr)(H H':Hp):Hp:=λa=>match H a with
 |some (.lst xs)=>if a∈O then some (.lst xs) else H' a
 |_=>H' a
variable{a:Addr}
def Ta(h:a∉O):hide P w O H a=H a:=by
 unfold hide;split
 ·rename_i e;rw[if_neg h,e]
 rfl
def Vg{xs:List V}(h:a∈O)(e:H a=some (.lst xs)):hide P w O H a=some (Hid P w a xs):=by
 unfold hide;rw[e];exact if_pos h
def v8(h:∀ xs,H a≠some (.lst xs)):hide P w O H a=H a:=by
 unfold hide;split
 ·rename_i e;exact absurd e (h _)
 rfl
def Zq:hide P w O H a=H a\/(a∈O/\∃xs,H a=some (.lst xs)/\hide P w O H a=some (Hid P w a xs)):=by
 by_cases h:a∈O
 ·cases e:H a with
  |none=>exact .inl ((v8 λxs=>by rw[e];exact nofun).trans e)
  |some u =>
   by_cases q:∃xs,u=.lst xs
   ·obtain⟨xs,rfl⟩:=q;exact .inr ⟨h,xs,rfl,Vg h e⟩
   exact .inl ((v8 λxs z=>q ⟨xs,Option.some.inj (e.symm.trans z)⟩).trans e)
 exact .inl (Ta h)
def Tv(h:a∉O):back O H H' a=H' a:=by
 unfold back;split
 ·exact if_neg h
 rfl
def Vv{xs:List V}(h:a∈O)(e:H a=some (.lst xs)):back O H H' a=some (.lst xs):=by
 unfold back;rw[e];exact if_pos h
def Kl(h:∀ xs,H a≠some (.lst xs)):back O H H' a=H' a:=by
 unfold back;split
 ·rename_i e;exact absurd e (h _)
 rfl
def Vu(s:∀ b u,hide P w O H b=some u->H' b=some u):back O H H' a=H' a\/(∃xs,H a=some (.lst xs)/\back O H H' a=some (.lst xs)/\H' a=some (Hid P w a xs)):=by
 rcases Zq (P:=P) (w:=w) (O:=O) (H:=H) (a:=a) with e|⟨h,xs,e,q⟩
 ·by_cases h:a∈O
  ·by_cases z:∃xs,H a=some (.lst xs)
   ·obtain⟨xs,z⟩:=z;exact .inr ⟨xs,z,Vv h z,s _ _ (Vg h z)⟩
   exact .inl (Kl λxs y=>z ⟨xs,y⟩)
  exact .inl (Tv h)
 exact .inr ⟨xs,e,Vv h e,s _ _ q⟩
theorem Inv.hide(I:Inv X pn G H s):Inv X pn G (hide X.prog X.w O H) s:=by
 have j:∀b,H b=none->ZZ.hide X.prog X.w O H b=none:=λb B=>(v8 λxs=>by rw[B];exact nofun).trans B
 refine⟨I.ok,I.os,I.bare,⟨I.base.keep,I.base.slot,λb o h n he=>j b (I.base.free b o h n he),I.base.there,λb xs z=>?_,λb o u z=>?_,λb ps z=>?_⟩,I.loc,I.cell,j _ I.free,λx c z=>j _ (I.freeC x c z),λp hp=>?_,λb u z=>?_,I.len⟩
 ·have q:=I.base.tups b xs z;exact(v8 λxs=>by rw[q];exact nofun).trans q
 ·have q:=I.base.frzs b o u z;exact(v8 λxs=>by rw[q];exact nofun).trans q
 ·obtain⟨more,q⟩:=I.base.tbls b ps z;exact⟨more,(v8 λxs=>by rw[q];exact nofun).trans q⟩
 ·obtain⟨h1,h2,h3⟩:=I.pin p hp;exact⟨h1,j _ h2,h3⟩
 rcases Zq (P:=X.prog) (w:=X.w) (O:=O) (H:=H) (a:=b) with e|⟨h,xs,e,q⟩
 ·rw[e]at z;exact(I.hok b u z).stay (λ_ _ _ y=>y) (λc y=>(v8 λxs=>by rw[y];exact nofun).trans y) λc xs y=>(v8 λxs=>by rw[y];exact nofun).trans y
 rw[q]at z;cases z;obtain⟨M,its,n,r,g⟩:=(show wm X.prog X.w H s.heap b (.lst xs) from I.hok b _ e);exact⟨⟨M,its,n,r,g⟩,⟨_,g⟩,λh1 h2 ⟨y1,y2,y3,Z,N⟩ k=>⟨y1,y2,y3,Z,k _ N⟩⟩
theorem Inv.back(I:Inv X pn G H' s')(Z:∀ b u,ZZ.hide X.prog X.w O H b=some u->H' b=some u):Inv X pn G (back O H H') s':=by
 have N:=λb=>Vu (O:=O) (H:=H) (H':=H') (a:=b) Z;have M:∀b,H' b=none->ZZ.back O H H' b=none:=λb B=>(N b).elim (λe=>e.trans B) λ⟨xs,_,_,q⟩=>by rw[B]at q;cases q
 have j:∀b u,H' b=some u->(∀U,u≠.ext U)->ZZ.back O H H' b=some u:=λb u B n=>(N b).elim (λe=>e.trans B) λ⟨xs,_,_,q⟩=>by rw[B]at q;exact absurd (Option.some.inj q) (n _)
 refine⟨I.ok,I.os,I.bare,⟨I.base.keep,I.base.slot,λb o h n he=>M b (I.base.free b o h n he),I.base.there,λb xs z=>j _ _ (I.base.tups b xs z) nofun,λb o u z=>j _ _ (I.base.frzs b o u z) nofun,λb ps z=>?_⟩,I.loc,I.cell,M _ I.free,λx c z=>M _ (I.freeC x c z),λp hp=>?_,λb u z=>?_,I.len⟩
 ·obtain⟨more,q⟩:=I.base.tbls b ps z;exact⟨more,j _ _ q nofun⟩
 ·obtain⟨h1,h2,h3⟩:=I.pin p hp;exact⟨h1,M _ h2,h3⟩
 rcases N b with e|⟨xs,e,q,q'⟩
 ·rw[e]at z;exact(I.hok b u z).stay (λ_ _ _ y=>y) (λc y=>j _ _ y nofun) λc xs y=>j _ _ y nofun
 rw[q]at z;cases z;exact(I.hok b _ q').1
end
def plnD:D->Prop
 |.non|.bl _|.int _|.str _=>True
 |.tup ds|.lst ds=>plnDs ds
 |_=>False
where plnDs:List D->Prop
 |[]=>True
 |d::ds=>plnD d/\plnDs ds
mutual
theorem Uj(t:∀ a∈O,∃ u,H a=some u)(B:∀ b u,hide P w O H b=some u->H' b=some u):∀(d:D)(v:V),plnD d->Rep K H' [] d v->Rep K (back O H H') O d v
 |.non,_,_,h=>h
 |.bl _,_,_,h=>h
 |.int _,_,_,h=>h
 |.str _,_,_,h=>h
 |.tup ds,v,p,h=>by
  obtain⟨a,xs,e,q,r⟩:=h;have:back O H H' a=some (.tup xs):=(Vu B).elim (λe=>e.trans q.2) λ⟨ys,_,_,z⟩=>by rw[q.2]at z;cases z
  exact⟨a,xs,e,⟨SqT.of this,this⟩,jv t B ds xs p r⟩
 |.lst ds,v,p,h=>by
  obtain⟨a,xs,e,q,_,r⟩:=h;have n:a∉O:=λm=>by
   obtain⟨u,hu⟩:=t a m;rcases Zq (P:=P) (w:=w) (O:=O) (H:=H) (a:=a) with z|⟨_,ys,_,z⟩
   ·have j:=B a u (z.trans hu);rw[q]at j;cases j;have I:=Vg (P:=P) (w:=w) m hu;rw[z,hu]at I;cases I
   have j:=B a _ z;rw[q]at j;cases j
  exact⟨a,xs,e,(Tv n).trans q,n,jv t B ds xs p r⟩
theorem jv(t:∀ a∈O,∃ u,H a=some u)(j:∀ b u,hide P w O H b=some u->H' b=some u):∀(ds:List D)(xs:List V),plnD.plnDs ds->Reps K H' [] ds xs->Reps K (back O H H') O ds xs
 |[],_,_,h=>h
 |d::ds,xs,p,h=>by
  obtain⟨v,r,e,q,z⟩:=h;exact⟨v,r,e,Uj t j d v p.1 q,jv t j ds r p.2 z⟩
end
structure FW(P:Program)(w:World)(K:W.Frag)(mg:Str->Option Value)(base:Heap)(k:Nat)(x:Str)(ps:List Str)(c:List Int)(T:FT):Prop where
 ex:∃f fd ds,FnOk P w K mg base CX0 k f fd ps (spO K ps.length T)/\u0 K fd ps ds/\Vals (c.map V.int) ds/\W.keepIn K (.ref f)=true/\mg x=some (.ref f)
def FO.fw{P:Program}{w:World}{K:W.Frag}{mg:Str->Option Value}{base:Heap}{k:Nat}{x:Str}{ps:List Str}{T:FT}(F:FO P w K mg base k x ps T):FW P w K mg base k x ps [] T:=let ⟨f,fd,o,b,r⟩:=F.ex;⟨f,fd,[],o,b,.nil,r⟩
variable{c:List Int}
def Jy(n:Nat)(T:FT)(c:List Int)(t:TDs):TD:=λL U=>t L λrs=>Pa (rs.map some)/\Nat.beq (rs.length+c.length) n=true/\T (rs.map EV.d++c.map D.int) λr=>plnD r.d/\U (dv r.d)
def Sq:∀{rs:List EV},Pa (rs.map some)->∀r∈rs,r.k≠.own:=λ{rs} h r m=>by
 obtain⟨i,e⟩:=List.getElem?_of_mem m;exact Zc (i:=i) h (by rw[zai,e];rfl)
def va(F:FW X.prog X.w X.K X.mg X.base k x ps c T)(hr:Room k X.A)(ha:EA Y X (e::es) t)(hg:Gl X x:=by rfl)(a2:D_ x:=by decide)(he:S_ X e es:=by rfl)(a1:B_ X es pos:=by rfl):ED Y X (.Call (.Name x p) (e::es) [] pos) (Jy ps.length T c t):=λH_ pn s G H Q I h=>by
 obtain⟨f,fd,ds,ok,b,hd,kp,m⟩:=F.ex;obtain⟨L,o,R,U,a0,kk⟩:=h;refine wpAny_Call_Name_kw (Zh I hg m ?_ a2);refine W.callWith_K (h₀:=X.base) I.ok.mod.kin kp (thn (ha H_ pos pn s G H (λvs H1=>Same H H1/\spO X.K ps.length T (vs++c.map V.int) (hide X.prog X.w (o.map Prod.snd) H1) (λv H'=>(∀b u,hide X.prog X.w (o.map Prod.snd) H1 b=some u->H' b=some u)/\Q v (back (o.map Prod.snd) H1 H')) E0) I ⟨L,o,R,_,a0,λvs rs H1 s1 M h1=>?_⟩) λus s1 ⟨vs,H1,I1,r,sm,q⟩=>⟨I1.kIn,?_⟩) he a1
 ·have R1:=R.to s1;have Z:=M.reps (Sq h1.1);have g:Grow (o.map Prod.snd) [] H1 (hide X.prog X.w (o.map Prod.snd) H1):=⟨λb u h n=>⟨(Ta n).trans h,by simp⟩,λb xs h=>(v8 λxs=>by rw[h];exact nofun).trans h,λb ob u h=>(v8 λxs=>by rw[h];exact nofun).trans h⟩
  refine⟨s1,rs.map EV.d++c.map D.int,_,?_,(Reps.grow g _ _ Z).append (Reps.ints c),h1.2.2,λv r H2 s2 N h2=>⟨s2,kk v (dv r.d) _ (λb u hb=>?_) ?_ h2.2⟩⟩
  ·rw[zLa,zLm,zLm];exact Nat.eq_of_beq_eq_true h1.2.1
  ·have j:=s1 b u hb;rcases Vu (O:=o.map Prod.snd) (H:=H1) (H':=H2) (a:=b) s2 with e|⟨xs,e,q,_⟩
   ·rcases Zq (P:=X.prog) (w:=X.w) (O:=o.map Prod.snd) (H:=H1) (a:=b) with z|⟨hm,xs,z,_⟩
    ·rw[e];exact s2 b u (z.trans j)
    rw[Vv hm z,<- z];exact j
   rw[q,<- e];exact j
  have Z:Rep X.K H2 [] r.d v:=by
   have:=RVs.reps0 (rs:=[r]) (vs:=[v]) ⟨v,[],rfl,N,rfl⟩;obtain⟨v',ws,e,q,_⟩:=this;cases e;exact q
  exact Uj (P:=X.prog) (w:=X.w) (λa ha=>by
   obtain⟨p,hp,rfl⟩:=zah.mp ha;exact R1.trk p hp) s2 _ _ h2.1 Z
 refine wpAny_mono (Ua ok hr b hd Ww I1.hide r q) (λu s2 ⟨v,H2,I2,N,B,q2⟩=>⟨v,_,I2.back B,N,q2⟩) λ_ _ z=>z
def Ak{x j:Str}{st:Stmt}{f:Addr}{v:Value}{fd:FuncData}{N ps:List Str}{k:Nat}{T:FT}(F:FunV K x j st f v fd)(S:zj N ps (zb st))(M:∀ (qZ:Value) (A:Around) (outer:List Env) (s:Shared) (H:Hp) (E:XK) (ds:List D) (U:EV->Prop),Room k (A.deeper (envOfC j (zb st) s.heap.objs.size f qZ))->ds.length=ps.length->T ds U ->
   ∃ t,SDs (λ_=>True) (cxOf CX0 P w K mg base N j (zb st) f qZ A outer s H E).nox (yi st) t/\t (xa N.length ds) {nx:=λ_=>False,rt:=U}):FnOk P w K mg base CX0 (k+1) f fd ps (spO K ps.length T):=by
 refine F.ok S (λvs H Q E h=>?_) (λqZ A outer s H vs Q E hr h=>?_)
 ·obtain⟨ds,U,hl,r,_⟩:=h;rw[r.length,hl]
 obtain⟨ds,U,hl,r,hT,Z⟩:=h;obtain⟨t,ht,hq⟩:=M qZ A outer s H E ds U hr hl hT;exact⟨R5 K H t,ht ⟨H,trivial⟩,xa N.length ds,[],ug r,_,hq,λ_ _ _ _ _ _ q=>q.elim,λ_ _ _ _ _ _ q=>q.elim,λ_ _ _ _ _ _ q=>q.elim,λv I H' s' B q=>Z v I H' s' B q⟩
def j8{α:Type}{us:List α}(h:us.length=1):∃a0,us=[a0]:=match us,h with
 |[a0],_=>⟨a0,rfl⟩
def ur{α:Type}{us:List α}(h:us.length=2):∃a0 a1,us=[a0,a1]:=match us,h with
 |[a0,a1],_=>⟨a0,a1,rfl⟩
def rf{α:Type}{us:List α}(h:us.length=3):∃a0 a1 a2,us=[a0,a1,a2]:=match us,h with
 |[a0,a1,a2],_=>⟨a0,a1,a2,rfl⟩
abbrev pB:List Str:=["program","name"]
abbrev pA:List Str:=["thing"]
abbrev pD:List Str:=["shapes","sizes","numbers"]
abbrev pF:List Str:=["_law_script","_law_k"]
abbrev pE:List Str:=["_law_found"]
abbrev pH:List Str:=["_law_f","_law_bound","_law_names_here"]
abbrev pC:List Str:=["_law_script"]
abbrev pI:List Str:=["_law_row","_law_size","_law_numbers_here"]
abbrev pG:List Str:=["_law_tree","_law_size","_law_number_here"]
abbrev pJ:List Str:=["program","table","name","sizes","numbers","most"]
local macro_rules|`(tactic| walk_at "dl")=>do
 let ids <- (("q_ Q_ sNil sSeq sRet sIf sSet Hu sUn d2 d1 Rm dC slot setS EV.sto EV.ret aNil Kn dTup dLst D2 dCB jq vAnd vNot vIf bAnd bOr bNot bYes tTru tBo truD sSub sFd sMod sPow sLt sGt sGe sI sI0 sAdd sMul sNeg sEq sNe sIs U9 Lb sIx1 sSl dSl Bf Be sLen sIsI sTupC sListC sIntC sApp iSeq iR1 iR2 Jn gN gT2 xa V5 X9 Ra Vb V8 Xc V7 V4 V3 Zk V2 X6 Xa Zn V9 List.map_cons List.map_nil zLc zLn List.cons_append List.nil_append List.replicate_succ List.replicate_zero Nat.reduceAdd Nat.reduceSub Nat.zero_add Nat.sub_self Bool.and_self Bool.and_true Bool.true_and true_and and_true Bool.not_true Bool.not_false forall_const true_implies false_implies Bool.true_eq_false Bool.false_eq_true reduceCtorEq implies_true wt Bd gc Fs Y6 Oo Ap rh zl zp Bool.not_eq_eq_eq_not beq_eq_false_iff_ne beq_iff_eq ne_eq decide_eq_true_eq decide_eq_false_iff_not Bool.not_eq_true Bool.not_eq_false not_true_eq_false not_false_eq_true z1u z1t z1s and_self Nat.beq_eq Nat.ble_eq Nat.reduceLeDiff eq_self Nat.reduceEqDiff sIxx z1q keyD sIn dz cp10 Int.reduceLE Int.reduceToNat Q0 D4 zLm Option.map_some Int.zero_add Qk Int.reduceEq Int.reduceNeg Int.reduceLT Option.map_none sFrz frzS iZ M3 M0 M2 sSum t9 sPop sExt Ay Uv M4 X8 Zl Zm Xe Zo X7 V6 Xb R9 Va Xd Ds sLenD sDictP Hv iE Aw Hs seqD iCn qSeq qSet C4 qE qT qB qIf qNil qRet C6 C8 hid Gh J8 Qt dFld fE2 fTup El fNil qFld Gi C9 Gj C7 Qu Me pFld pIxQ Fk Jx J9 rE rP C1 List.getElem?_cons_succ List.getElem?_cons_zero ix0 ix1 ix2 ix3 ix4 ix5 ix6 ix7 C5 Tx at_0 z1r Ax Qj Jy Tp Tq sLenC Kf gL4".splitOn " ").toArray).mapM λs=>`(Lean.Parser.Tactic.simpLemma| $(Lean.mkIdent s.toName):ident)
 `(tactic| simp only[$ids,*])
seal SDs SD ED EA ET EW EQ QA QT QS QSs QL
structure Tops(mg:Str->Option Value):Prop where
 ValueError:mg "ValueError" = none
 all:mg "all" = none
 bool:mg "bool" = none
 dict:mg "dict" = none
 enumerate:mg "enumerate" = none
 int:mg "int" = none
 isinstance:mg "isinstance" = none
 len:mg "len" = none
 list:mg "list" = none
 max:mg "max" = none
 min:mg "min" = none
 range:mg "range" = none
 reversed:mg "reversed" = none
 set:mg "set" = none
 sorted:mg "sorted" = none
 sum:mg "sum" = none
 tuple:mg "tuple" = none
 zip:mg "zip" = none
variable{f:Addr}{fd:FuncData}
def mth(i:Nat):Stmt:=x6 (top 19) i
def zh:List Str:=["functions","most","calls","steps","frames","tasks","ready","is_cut"]
def ix0:ixF zh "functions" = some 0:=by decide
def ix1:ixF zh "most" = some 1:=by decide
def ix2:ixF zh "calls" = some 2:=by decide
def ix3:ixF zh "steps" = some 3:=by decide
def ix4:ixF zh "frames" = some 4:=by decide
def ix5:ixF zh "tasks" = some 5:=by decide
def ix6:ixF zh "ready" = some 6:=by decide
def ix7:ixF zh "is_cut" = some 7:=by decide
structure MS where
 calls:List D
 steps:List D
 frames:List (Int×List (Str×D))
 tasks:List D
 ready:List D
 cut:Bool
def dkD(rows:List (Str×D)):D:=.dk (rows.map λp=>Sum.inr p.1) (rows.map Prod.snd)
def frD(p:Int×List (Str×D)):D:=.tup [.int p.1,dkD p.2]
def msD(C:Addr)(fns:List (Str×D))(most:Int)(s:MS):D:=.ob C zh [dkD fns,.int most,.lst s.calls,.lst s.steps,.lst (s.frames.map frD),.lst s.tasks,.lst s.ready,.bl s.cut]
def yx(most:Int)(n:Int)(k:Str)(s:MS):Bool×MS:=if most<=s.steps.length then(false,{s with cut:=true}) else(true,{s with steps:=s.steps++[.tup [.int n,.str k]]})
def Q31(C:Addr):FTQ:=λd ds U=>∃fns most s n k,d=msD C fns most s/\ds=[.int n,.str k]/\s.steps.length<=10000/\U (.bl (yx most n k s).1) (msD C fns most (yx most n k s).2)
def Eg(T:Tops mg)(O:CO K C zh)(F:Fun K "step" "Run.step" (mth 3) f fd)(j:Meth K C "step" f):FM P w K mg base 1 C zh "step" ["self","number","kind"] (Q31 C):=by
 have S:zj ["self","number","kind"] ["self","number","kind"] (zb (mth 3)):=by walk_at "f"
 refine sj F S (F.binds λ_ _ _ _ _ _ us hl=>(by obtain⟨_,_,_,rfl⟩:=rf hl;rfl)) j (by decide) λqZ A outer s H E I ds U hr hl hT=>?_
 have hu:=hr.units;refine⟨_,(yf (vc (u1 (En (xt T.len (z9 (vf O (z0 0)) za)) (vf O (z0 0)))) (yf (Uo O ya (yq uu))
    (zx (Um (Xs uu)))) kq)
   (yf (xh (yy O ya) (yq (zn (z9 (z0 1) (z9 (z0 2) za)))))
   (zx (Um (Xs uu))))),?_⟩
 obtain⟨fns,most,ms,n,k,rfl,rfl,B,h⟩:=hT;unfold msD at h ⊢;unfold yx at h;refine⟨rfl,rfl,rfl,rfl,λq=>⟨trivial,_,_,rfl,rfl,by decide,trivial,_,rfl,?_⟩,λq=>⟨_,_,rfl,rfl,_,_,rfl,rfl,by show ms.steps.length<=100000;omega,rfl,rfl,⟨trivial,trivial,trivial⟩,trivial,_,rfl,?_⟩⟩
 ·rw[if_pos (of_decide_eq_true q)]at h;exact h
 rw[if_neg (of_decide_eq_false q)]at h;exact h
def rowG:List (Str×D)->Str->Option D
 |[],_=>none
 |p::r,z=>if p.1=z then some p.2 else rowG r z
theorem gl(z:Str):∀rows:List (Str×D),ua (rows.map λp=>(Sum.inr p.1:Key)) (rows.map Prod.snd) (Sum.inr z)=rowG rows z
 |[]=>rfl
 |p::r=>by
  show(if (Sum.inr p.1:Key)=Sum.inr z then some p.2 else ua (r.map λp=>(Sum.inr p.1:Key)) (r.map Prod.snd) (Sum.inr z))=_
  unfold rowG;by_cases h:p.1=z
  ·rw[if_pos h,if_pos (by rw[h])]
  rw[if_neg h,if_neg (λe=>h (Sum.inr.inj e))];exact gl z r
theorem bw:∀(zs:List Str)(vs:List D),zs.length=vs.length->(zs.map Sum.inr:List Key)=(zs.zip vs).map λp=>(Sum.inr p.1:Key)
 |[],_,_=>rfl
 |_::_,[],h=>by simp at h
 |z::zs,v::vs,h=>by rw[List.map_cons,List.zip_cons_cons,List.map_cons,bw zs vs (by simpa using h)]
def tOwn(C:Addr):FTQ:=λd ds U=>∃fns most s k fs n rows,d=msD C fns most s/\ds=[.str k]/\s.steps.length<=10000/\s.frames=fs++[(n,rows)]/\U (.bl (yx most n k s).1) (msD C fns most (yx most n k s).2)
def Q4(C:Addr):FTQ:=λd ds U=>∃fns most s fs n rows,∃zs:List Str,∃vs:List D,d=msD C fns most s/\ds=[.tup (zs.map D.str),.tup vs]/\s.frames=fs++[(n,rows)]/\zs.length=vs.length/\zs.length<=10/\rows.length<=900/\(rows.map Prod.fst++zs).Nodup/\zp vs/\U .non (msD C fns most {s with frames:=fs++[(n,rows++zs.zip vs)]})
def U4(C:Addr):FTQ:=λd ds U=>∃fns most s,∃rs us:List D,d=msD C fns most s/\ds=[.int us.length]/\s.ready=rs++us/\us≠[]/\us.length<=10/\zp us/\zp rs/\s.ready.length<=10000/\U (.tup us) (msD C fns most {s with ready:=rs})
def Vi(T:Tops mg)(O:CO K C zh)(j:FM P w K mg base 1 C zh "step" ["self","number","kind"] (Q31 C))(F:Fun K "own_step" "Run.own_step" (mth 4) f fd)(M:Meth K C "own_step" f):FM P w K mg base 2 C zh "own_step" ["self","kind"] (tOwn C):=by
 have S:zj ["self","kind"] ["self","kind"] (zb (mth 4)):=by walk_at "f"
 refine sj F S (F.binds λ_ _ _ _ _ _ us hl=>(by obtain⟨_,_,rfl⟩:=ur hl;rfl)) M (by decide) λqZ A outer s H E Z ds U hr hl hT=>?_
 have hu:=hr.units;refine⟨_,(zx (Um (yh O j (hr.e rfl) (jw (Xs (ze hu (ze hu (vf O (z0 0)) (ra zc)) zc)) (zr (z0 1) yr))))),?_⟩;obtain⟨fns,most,ms,k,fs,n,rows,rfl,rfl,q,N,h⟩:=hT;have B:ms.frames.map frD=fs.map frD++[.tup [.int n,dkD rows]]:=by rw[N,zMa];rfl
 have I:msD C fns most ms=.ob C zh [dkD fns,.int most,.lst ms.calls,.lst ms.steps,.lst (fs.map frD++[.tup [.int n,dkD rows]]),.lst ms.tasks,.lst ms.ready,.bl ms.cut]:=by unfold msD;rw[B]
 rw[I];walk_at "dl";refine⟨_,rfl,fns,most,ms,n,k,I.symm,rfl,q,_,rfl,h⟩
def Lk(T:Tops mg)(O:CO K C zh)(F:Fun K "stand" "Run.stand" (mth 6) f fd)(Z:Meth K C "stand" f):FM P w K mg base 1 C zh "stand" ["self","names","things"] (Q4 C):=by
 have S:zj ["self","names","things","standing"] ["self","names","things"] (zb (mth 6)):=by walk_at "f"
 refine sj F S (F.binds λ_ _ _ _ _ _ us hl=>(by obtain⟨_,_,_,rfl⟩:=rf hl;rfl)) Z (by decide) λqZ A outer s H E d0 ds U hr hl hT=>?_
 have hu:=hr.units;refine⟨_,(Md 3 (by decide) S.nd (Ci (Ci (yy O ya) (ra zc)) zc) (Ti T.dict T.zip (z9 (z0 1) (z9 (z0 2) za)))),?_⟩
 obtain⟨fns,most,ms,fs,n,rows,j,vs,rfl,rfl,hf,hl1,a1,a0,nd,M,h⟩:=hT;unfold msD at h ⊢;rw[hf,zMa,List.map_cons,List.map_nil];have B:j.Nodup:=(List.nodup_append.mp nd).2.1;have N:(fs.map frD++[frD (n,rows)]).length=fs.length+1:=by rw[zLa,zLm];rfl
 have q:(fs.map frD++[frD (n,rows)])[fs.length]?=some (frD (n,rows)):=by
  have:=List.getElem?_append_right (l₁:=fs.map frD) (l₂:=[frD (n,rows)]) (i:=fs.length) (by rw[zLm];exact zaj _)
  rw[this,zLm,Nat.sub_self];rfl
 have I:∀π,atQ (4::fs.length::π) (.ob C zh [dkD fns,.int most,.lst ms.calls,.lst ms.steps,.lst (fs.map frD++[frD (n,rows)]),.lst ms.tasks,.lst ms.ready,.bl ms.cut])=atQ π (frD (n,rows)):=λπ=>by
  show(match (fs.map frD++[frD (n,rows)])[fs.length]? with|some x=>atQ π x|none=>none)=_
  rw[q]
 refine⟨_,_,rfl,rfl,_,_,_,_,fs.length,rfl,rfl,rfl,rfl,by rw[N];exact L9 _,_,_,_,_,1,rfl,I [],rfl,rfl,rfl,_,_,_,rfl,I [1],zaj 4,j,vs,⟨.inr rfl,.inr rfl⟩,hl1,by omega,B,M,by rw[zLm,zLm];show rows.length+j.length<=1000;omega,?_,_,rfl,?_⟩
 ·have e:(rows.map λ(p:Str×D)=>(Sum.inr p.1:Key))++j.map Sum.inr=(rows.map Prod.fst++j).map Sum.inr:=by rw[zMa,List.map_map];rfl
  show((rows.map λ(p:Str×D)=>(Sum.inr p.1:Key))++j.map Sum.inr).Nodup;rw[e];exact List.Pairwise.map _ (λa b h e=>h (Sum.inr.inj e)) nd
 have e1:(rows.map λp=>(Sum.inr p.1:Key))++j.map Sum.inr=(rows++j.zip vs).map λp=>(Sum.inr p.1:Key):=by
  rw[zMa];rw[bw j vs hl1]
 have e2:rows.map Prod.snd++vs=(rows++j.zip vs).map Prod.snd:=by rw[zMa,vj1 hl1]
 have e3:putQ [4,fs.length,1] (.ob C zh [dkD fns,.int most,.lst ms.calls,.lst ms.steps,.lst (fs.map frD++[frD (n,rows)]),.lst ms.tasks,.lst ms.ready,.bl ms.cut]) (.dk ((rows.map λp=>(Sum.inr p.1:Key))++j.map Sum.inr) (rows.map Prod.snd++vs))=.ob C zh [dkD fns,.int most,.lst ms.calls,.lst ms.steps,.lst (fs.map frD++[frD (n,rows++j.zip vs)]),.lst ms.tasks,.lst ms.ready,.bl ms.cut]:=by
  rw[e1,e2];show D.ob C zh [dkD fns,.int most,.lst ms.calls,.lst ms.steps,(match (fs.map frD++[frD (n,rows)])[fs.length]? with|some x=>D.lst ((fs.map frD++[frD (n,rows)]).set fs.length (putQ [1] x (dkD (rows++j.zip vs))))|none=>.lst (fs.map frD++[frD (n,rows)])),.lst ms.tasks,.lst ms.ready,.bl ms.cut]=_
  rw[q];show D.ob C zh [dkD fns,.int most,.lst ms.calls,.lst ms.steps,D.lst ((fs.map frD++[frD (n,rows)]).set fs.length (frD (n,rows++j.zip vs))),.lst ms.tasks,.lst ms.ready,.bl ms.cut]=_;rw[List.set_append_right _ _ (by rw[zLm];exact zaj _),zLm,Nat.sub_self]
  rfl
 have h2:=h;rw[show(fs++[(n,rows++j.zip vs)]).map frD=fs.map frD++[frD (n,rows++j.zip vs)] from by rw[zMa];rfl]at h2
 rw[<- e3]at h2;exact h2
def Lj(T:Tops mg)(O:CO K C zh)(F:Fun K "taken" "Run.taken" (mth 7) f fd)(B:Meth K C "taken" f):FM P w K mg base 1 C zh "taken" ["self","many"] (U4 C):=by
 have S:zj ["self","many","parts"] ["self","many"] (zb (mth 7)):=by walk_at "f"
 refine sj F S (F.binds λ_ _ _ _ _ _ us hl=>(by obtain⟨_,_,rfl⟩:=ur hl;rfl)) B (by decide) λqZ A outer s H E d0 ds U hr hl hT=>?_
 have hu:=hr.units;refine⟨_,(yf (Gd 2 (by decide) S.nd (xb (vf O (z0 0)) (yt (ra (z0 1))) vv))
   (yf (Uo O ya (yq (xb (vf O (z0 0)) vv (yt (ra (z0 1))))))
   (zx (Um (Xs (Xx T.tuple (z9 (z0 2) za))))))),?_⟩
 obtain⟨fns,most,ms,rs,us,rfl,rfl,M,q,hl1,j,pr,I,h⟩:=hT;unfold msD at h ⊢;rw[M];obtain⟨Z,N⟩:=Oz rs us q;walk_at "dl";rw[Z,N];exact⟨j,pr,_,_,rfl,rfl,by decide,j,_,rfl,h⟩
def xo{t u:TQS}{L:DE}{Z:QZ}(j:DE)(h:∀ J:DE->Prop,J j->t L {Z with nx:=J})(h2:u j Z):qSeq t u L Z:=h _ h2
def zu{tc:TDb}{t u:TQS}{L:DE}{Z:QZ}(b:Bool)(h:∀ N:Bool->Prop,N b->tc L N)(h1:b=true->t L Z)(h2:b=false->u L Z):qIf (qT tc) t u L Z:=h _ ⟨h1,h2⟩
def cs{n m:Nat}{a b:Str}{Q:Prop}(h:Q):okD n (.str a)/\okD m (.str b)/\Q:=⟨gc▸trivial,gc▸trivial,h⟩
def cn{n m:Nat}{a b:Str}{N:Bool->Prop}(e:a≠b)(h:N false):okD n (.str a)/\okD m (.str b)/\N (eqD (.str a) (.str b)):=⟨gc▸trivial,gc▸trivial,by rw[Oo,beq_eq_false_iff_ne.mpr e];exact h⟩
def vlD(e:D):D:=.tup [.str "value",e]
def bdD(b:D):D:=.tup [.str "body",b]
def Wn(C:Addr):FTQ:=λd ds U=>∃fns most s,∃es:List D,∃t,d=msD C fns most s/\ds=[.tup es,t]/\es.length<=100/\zp es/\zl t/\s.tasks.length<=10000/\U .non (msD C fns most {s with tasks:=s.tasks++[t]++es.reverse.map vlD})
def Q8(C:Addr):FTQ:=λd ds U=>∃fns most s fs n rows z e b rs v,d=msD C fns most s/\ds=[.tup [.str "let",.str z,e,b]]/\s.frames=fs++[(n,rows)]/\s.ready=rs++[v]/\s.steps.length<=10000/\s.ready.length<=10000/\s.tasks.length<=10000/\zl e/\zl b/\zl v/\zp rs/\rows.length<=900/\(rows.map Prod.fst++[z]).Nodup /\
 U .non (msD C fns most (match yx most n "let" s with
  |(true,s')=>{s' with frames:=fs++[(n,rows++[(z,v)])],ready:=rs,tasks:=s.tasks++[bdD b]}
  | (false,s')=>s'))
def Wm(C:Addr):FTQ:=λd ds U=>∃fns most s fs n rows e1 e2 b1 b2 rs,∃x y:Int,d=msD C fns most s/\ds=[.tup [.str "less",e1,e2,b1,b2]]/\s.frames=fs++[(n,rows)]/\s.ready=rs++[.int x,.int y]/\s.steps.length<=10000/\s.ready.length<=10000/\s.tasks.length<=10000/\zl b1/\zl b2/\zp rs /\
 U .non (msD C fns most (match yx most n "less" s with
  |(true,s')=>{s' with ready:=rs,tasks:=s.tasks++[bdD (if x<y then b1 else b2)]}
  | (false,s')=>s'))
def Q6(C:Addr):FTQ:=λd ds U=>∃fns most s fs,∃n:Nat,∃rows nm args up rs v cl1 cl2,d=msD C fns most s/\ds=[]/\s.frames=fs++[((n:Int),rows)]/\s.ready=rs++[v]/\zl v/\s.calls=cl1++[.tup [nm,args,up,.bl false,.non]]++cl2/\cl1.length=n/\zl nm/\zl args/\zl up /\
 U .non (msD C fns most {s with frames:=fs,calls:=cl1++[.tup [nm,args,up,.bl true,v]]++cl2})
def Ln(T:Tops mg)(O:CO K C zh)(I:FM P w K mg base 2 C zh "own_step" ["self","kind"] (tOwn C))(j:FM P w K mg base 1 C zh "stand" ["self","names","things"] (Q4 C))(B:FM P w K mg base 1 C zh "taken" ["self","many"] (U4 C))(F:Fun K "bring" "Run.bring" (mth 11) f fd)(hm:Meth K C "bring" f):FM P w K mg base 3 C zh "bring" ["self","body"] (Q8 C):=by
 have S:zj ["self","body"] ["self","body"] (zb (mth 11)):=by walk_at "f"
 refine sj F S (F.binds λ_ _ _ _ _ _ us hl=>(by obtain⟨_,_,rfl⟩:=ur hl;rfl)) hm (by decide) λqZ A outer s H E d0 ds U hr hl hT=>?_
 have hu:=hr.units;refine⟨_,(zx (vc (cz (yh O I (hr.e rfl) (zr zf yr))) (yf (x9 (yh O j (hr.e rfl) (zr (xb (z0 1) (yt zc) (yt zc)) (jw (yh O B (hr.e rfl) (zr zc yr)) yr))))
    (zx (xh (yy O ya) (yq (zn (z9 zf (z9 (ze hu (z0 1) zc) za))))))) kq)),?_⟩
 obtain⟨fns,most,ms,fs,n,rows,z,e,b,rs,v,rfl,rfl,hf,N,hl1,a0,a1,pe,pb,pv,M,Z,nd,h⟩:=hT;unfold msD;refine⟨_,rfl,trivial,rfl,fns,most,ms,"let",fs,n,rows,rfl,rfl,hl1,hf,?_⟩;by_cases q:most<=ms.steps.length
 ·have es:yx most n "let" ms=(false,{ms with cut:=true}):=by unfold yx;rw[if_pos q]
  rw[es]at h ⊢;exact⟨λy=>(nomatch y),λ_=>⟨_,rfl,h⟩⟩
 have es:yx most n "let" ms=(true,{ms with steps:=ms.steps++[.tup [.int n,.str "let"]]}):=by unfold yx;rw[if_neg q]
 rw[es]at h ⊢;refine⟨λ_=>⟨_,rfl,λy=>(nomatch y.1),trivial,_,rfl,trivial,rfl,fns,most,{ms with steps:=ms.steps++[.tup [.int n,.str "let"]]},rs,[v],rfl,rfl,N,nofun,Nat.le_of_ble_eq_true rfl,⟨pv,trivial⟩,M,a0,rfl,?_⟩,λy=>(nomatch y)⟩;refine⟨fns,most,{ms with steps:=ms.steps++[.tup [.int n,.str "let"]],ready:=rs},fs,n,rows,[z],[v],rfl,rfl,hf,rfl,Nat.le_of_ble_eq_true rfl,Z,nd,⟨pv,trivial⟩,?_⟩;exact⟨_,_,rfl,rfl,_,_,rfl,rfl,by show ms.tasks.length<=100000;omega,rfl,rfl,⟨trivial,pb,trivial⟩,_,rfl,h⟩
def Oe(T:Tops mg)(O:CO K C zh)(B:FM P w K mg base 2 C zh "own_step" ["self","kind"] (tOwn C))(j:FM P w K mg base 1 C zh "taken" ["self","many"] (U4 C))(F:Fun K "choose" "Run.choose" (mth 12) f fd)(hm:Meth K C "choose" f):FM P w K mg base 3 C zh "choose" ["self","body"] (Wm C):=by
 have S:zj ["self","body","compared"] ["self","body"] (zb (mth 12)):=by walk_at "f"
 refine sj F S (F.binds λ_ _ _ _ _ _ us hl=>(by obtain⟨_,_,rfl⟩:=ur hl;rfl)) hm (by decide) λqZ A outer s H E d0 ds U hr hl hT=>?_
 have hu:=hr.units;refine⟨_,(zx (vc (cz (yh O B (hr.e rfl) (zr zf yr))) (yf (qx 2 (by decide) S.nd (yh O j (hr.e rfl) (zr zc yr)))
    (zx (xh (yy O ya) (yq (zn (z9 zf (z9 (qk (Lw (ze hu (z0 2) zc) (ze hu (z0 2) zc)) (ze hu (z0 1) zc) (ze hu (z0 1) zc)) za))))))) kq)),?_⟩
 obtain⟨fns,most,ms,fs,n,rows,e1,e2,b1,b2,rs,x,y,rfl,rfl,hf,M,hl1,N,a0,Z,p2,I,h⟩:=hT;unfold msD;refine⟨_,rfl,trivial,rfl,fns,most,ms,"less",fs,n,rows,rfl,rfl,hl1,hf,?_⟩;by_cases q:most<=ms.steps.length
 ·have es:yx most n "less" ms=(false,{ms with cut:=true}):=by unfold yx;rw[if_pos q]
  rw[es]at h ⊢;exact⟨λy=>(nomatch y),λ_=>⟨_,rfl,h⟩⟩
 have es:yx most n "less" ms=(true,{ms with steps:=ms.steps++[.tup [.int n,.str "less"]]}):=by unfold yx;rw[if_neg q]
 rw[es]at h ⊢;refine⟨λ_=>⟨_,rfl,trivial,rfl,fns,most,{ms with steps:=ms.steps++[.tup [.int n,.str "less"]]},rs,[.int x,.int y],rfl,rfl,M,nofun,Nat.le_of_ble_eq_true rfl,⟨trivial,trivial,trivial⟩,I,N,?_⟩,λy=>(nomatch y)⟩;refine⟨_,_,rfl,rfl,_,_,rfl,rfl,by show ms.tasks.length<=100000;omega,?_⟩
 refine⟨λq=>⟨rfl,rfl,⟨trivial,Z,trivial⟩,_,rfl,?_⟩,λq=>⟨rfl,rfl,⟨trivial,p2,trivial⟩,_,rfl,?_⟩⟩
 ·rw[if_pos (of_decide_eq_true q)]at h;exact h
 rw[if_neg (of_decide_eq_false q)]at h;exact h
def Ll(T:Tops mg)(O:CO K C zh)(F:Fun K "leave" "Run.leave" (mth 17) f fd)(hm:Meth K C "leave" f):FM P w K mg base 1 C zh "leave" ["self"] (Q6 C):=by
 have S:zj ["self","frame"] ["self"] (zb (mth 17)):=by walk_at "f"
 refine sj F S (F.binds λ_ _ _ _ _ _ us hl=>(by obtain⟨_,rfl⟩:=j8 hl;rfl)) hm (by decide) λqZ A outer s H E d0 ds U hr hl hT=>?_
 have hu:=hr.units;refine⟨_,(yf (xg (Yt 1 (by decide) S.nd (yy O ya)))
   (zx (xg (Gf (yy O ya) (ze hu (z0 1) zc) (yz (xb (ze hu (vf O (z0 0)) (ze hu (z0 1) zc)) vv (yt zc)) (zn (z9 uu (z9 (ze hu (vf O (z0 0)) (ra zc)) za)))))))),?_⟩
 obtain⟨fns,most,ms,fs,n,rows,I,j,B,rs,v,q,cl2,rfl,rfl,hf,M,Z,hc,hn,p1,p2,p3,h⟩:=hT;have N:ms.frames.map frD=fs.map frD++[frD ((n:Int),rows)]:=by rw[hf,zMa];rfl
 have e0:msD C fns most ms=.ob C zh [dkD fns,.int most,.lst (q++[.tup [I,j,B,.bl false,.non]]++cl2),.lst ms.steps,.lst (fs.map frD++[frD ((n:Int),rows)]),.lst ms.tasks,.lst (rs++[v]),.bl ms.cut]:=by unfold msD;rw[N,hc,M]
 rw[e0];refine yw (λL=>L=[q_ (.ob C zh [dkD fns,.int most,.lst (q++[.tup [I,j,B,.bl false,.non]]++cl2),.lst ms.steps,.lst (fs.map frD),.lst ms.tasks,.lst (rs++[v]),.bl ms.cut]),q_ (frD ((n:Int),rows))]) ?_ ?_
 ·refine⟨_,_,rfl,rfl,_,_,frD ((n:Int),rows),rfl,rfl,?_,?_⟩
  ·rw[zLa];show(fs.map frD++[frD ((n:Int),rows)])[(fs.map frD).length+1-1]?=_;rw[Nat.add_sub_cancel,List.getElem?_append_right (zaj _),Nat.sub_self];rfl
  rw[List.dropLast_concat];rfl
 rintro _ rfl;have ha:atI (q++[D.tup [I,j,B,.bl false,.non]]++cl2) (n:Int)=some (.tup [I,j,B,.bl false,.non]):=da (by omega) (by
  rw[show((n:Int)).toNat=q.length from by omega,List.append_assoc,List.getElem?_append_right (zaj _),Nat.sub_self]
  rfl)
 simp only[frD];refine⟨λL=>∃d',slot L 0=q_ d'/\U .non d',?_,λ_ y=>y⟩;walk_at "dl";simp only[ha,Tx];have ec:cutD [I,j,B,D.bl false,D.non] none (some 3)=[I,j,B]:=rfl;rw[ec];refine⟨λy=>absurd y.2 (by unfold ZZ.sIx;simp),by simp,by rw[sizeLine_eq];show 5<=_;decide,⟨p1,p2,p3,trivial,Z,trivial⟩,_,_,rfl,rfl,_,_,_,n,rfl,rfl,rfl,?_,_,rfl,?_⟩
 ·unfold ixN;rw[if_pos (by omega),if_pos (by rw[zLa,zLa];simp;omega)]
  rfl
 have es:(q++[D.tup [I,j,B,.bl false,.non]]++cl2).set n (.tup ([I,j,B]++[D.bl true,v]))=q++[.tup [I,j,B,.bl true,v]]++cl2:=by
  rw[List.append_assoc,List.set_append_right _ _ (by omega),hn,Nat.sub_self,List.append_assoc]
  rfl
 unfold msD at h;simp only[M]at h;rw[es];exact h
variable{R:Str->D->Int->Prop}
structure Con3(K:W.Frag)(mg:Str->Option Value):Prop where
 c_MOST_CALLS:GC K mg "MOST_CALLS" (.int 20)
 c_MOST_SIZE:GC K mg "MOST_SIZE" (.int 100)
def Q5(R:Str->D->Int->Prop):FT:=g2 λa b U=>∃sh v n,a=.str sh/\b=v/\R sh v n/\U (dv (.int n))
def Z11(C:Addr)(R:Str->D->Int->Prop):FTQ:=λd ds U=>∃fns most s fs n rows sh v sz,d=msD C fns most s/\ds=[.str sh,v]/\s.frames=fs++[(n,rows)]/\s.steps.length<=10000/\s.ready.length<=10000/\zl v/\R sh v sz /\
 U .non (msD C fns most (if 100<sz then {s with cut:=true} else match yx most n "make" s with
  |(true,s')=>{s' with ready:=s.ready++[v]}
  | (false,s')=>s'))
def Eh(T:Tops mg)(Z:Con3 K mg)(O:CO K C zh)(B:FM P w K mg base 2 C zh "own_step" ["self","kind"] (tOwn C))(j:FD P w K mg base 5 "size_of" ["shape","value"] (Q5 R))(F:Fun K "make" "Run.make" (mth 15) f fd)(N:Meth K C "make" f):FM P w K mg base 6 C zh "make" ["self","shape","thing"] (Z11 C R):=by
 have S:zj ["self","shape","thing"] ["self","shape","thing"] (zb (mth 15)):=by walk_at "f"
 refine sj F S (F.binds λ_ _ _ _ _ _ us hl=>(by obtain⟨_,_,_,rfl⟩:=rf hl;rfl)) N (by decide) λqZ A outer s H E d0 ds U hr hl hT=>?_
 have hu:=hr.units;refine⟨_,(zx (vc (u1 (Y5 (zy j (hr.e rfl) (z9 (z0 1) (z9 (z0 2) za))) (kg Z.c_MOST_SIZE))) (zx (Uo O ya (yq uu))) (zx (vc (cz (yh O B (hr.e rfl) (zr zf yr))) (zx (xh (yy O ya) (yq (z0 2)))) kq)))),?_⟩;obtain⟨fns,most,ms,fs,n,rows,M,v,sz,rfl,rfl,hf,hl1,a0,I,hR,h⟩:=hT;unfold msD;refine⟨rfl,M,v,sz,rfl,rfl,hR,λq=>⟨trivial,_,_,rfl,rfl,by decide,_,rfl,?_⟩,λq=>⟨_,rfl,trivial,rfl,fns,most,ms,"make",fs,n,rows,rfl,rfl,hl1,hf,?_⟩⟩
 ·rw[if_pos (of_decide_eq_true q)]at h;exact h
 rw[if_neg (of_decide_eq_false q)]at h;have fv:frs2 (dv v):=by
  cases v <;> first|exact I|exact I.elim
 by_cases q2:most<=ms.steps.length
 ·have es:yx most n "make" ms=(false,{ms with cut:=true}):=by unfold yx;rw[if_pos q2]
  rw[es]at h ⊢;exact⟨λy=>(nomatch y),λ_=>⟨_,rfl,h⟩⟩
 have es:yx most n "make" ms=(true,{ms with steps:=ms.steps++[.tup [.int n,.str "make"]]}):=by unfold yx;rw[if_neg q2]
 rw[es]at h ⊢;exact⟨λ_=>⟨_,_,rfl,rfl,_,_,rfl,rfl,by show ms.ready.length<=100000;omega,fv,_,rfl,h⟩,λy=>(nomatch y)⟩
def Oy(v:D)(r:List D):ZZ.cutD (v::r) (some 1) none=r:=by
 unfold ZZ.cutD;simp[ZZ.sIx]
def jp(C:Addr):FTQ:=λd ds U=>∃fns most s fs n rows,∃kd x:Str,∃b1 b2,d=msD C fns most s/\s.frames=fs++[(n,rows)]/\s.tasks.length<=10000/\zl b1/\zl b2/\rows.length<=900 /\
 ((∃bs th,ds=[.tup (.str kd::.str x::b1::bs),th]/\(th=.non\/th=.tup [])/\U .non (msD C fns most {s with tasks:=s.tasks++[bdD b1]})) \/
  (∃h t:Str,∃v r,ds=[.tup [.str "list",.str x,b1,.str h,.str t,b2],.tup (v::r)]/\okD 40 (.tup (v::r))/\zl v/\zp r/\(rows.map Prod.fst++[h,t]).Nodup/\U .non (msD C fns most {s with frames:=fs++[(n,rows++[(h,v),(t,.tup r)])],tasks:=s.tasks++[bdD b2]})) \/
  (∃l m r:Str,∃v1 v2 v3,ds=[.tup [.str "tree",.str x,b1,.str l,.str m,.str r,b2],.tup [v1,v2,v3]]/\okD 40 (.tup [v1,v2,v3])/\zl v1/\zl v2/\zl v3/\(rows.map Prod.fst++[l,m,r]).Nodup/\U .non (msD C fns most {s with frames:=fs++[(n,rows++[(l,v1),(m,v2),(r,v3)])],tasks:=s.tasks++[bdD b2]})))
def Od(T:Tops mg)(O:CO K C zh)(Z:FM P w K mg base 1 C zh "stand" ["self","names","things"] (Q4 C))(F:Fun K "follow" "Run.follow" (mth 10) f fd)(hm:Meth K C "follow" f):FM P w K mg base 2 C zh "follow" ["self","body","thing"] (jp C):=by
 have S:zj ["self","body","thing","parts"] ["self","body","thing"] (zb (mth 10)):=by walk_at "f"
 refine sj F S (F.binds λ_ _ _ _ _ _ us hl=>(by obtain⟨_,_,_,rfl⟩:=rf hl;rfl)) hm (by decide) λqZ A outer s H E d0 ds U hr hl hT=>?_
 have hu:=hr.units;refine⟨_,(yf (vc (u1 (EW.et (qh (Em (z0 2) sy) (qg (wl hu (z0 2) (zn za)))))) (yf (xh (yy O ya) (yq (zn (z9 zf (z9 (ze hu (z0 1) zc) za)))))
    (zx Ge)) kq)
   (yf (Ul 3 (by decide) S.nd (qk (wl hu (ze hu (z0 1) zc) zf) (zn (z9 (ze hu (z0 2) zc) (z9 (xb (z0 2) (yt zc) vv) za))) (z0 2)))
   (yf (x9 (yh O Z (hr.e rfl) (zr (xb (z0 1) (yt zc) (yt (ra zc))) (zr (z0 3) yr))))
   (zx (xh (yy O ya) (yq (zn (z9 zf (z9 (ze hu (z0 1) (ra zc)) za))))))))),?_⟩
 obtain⟨fns,most,ms,fs,n,rows,kd,x,b1,b2,rfl,hf,hl1,p1,p2,B,h⟩:=hT;unfold msD;have q:okD 40 (.tup []):=by intro x h;cases h
 rcases h with⟨bs,th,rfl,ht,h⟩|⟨M,I,v,r,rfl,ok,pv,pr,nd,h⟩|⟨M,I,z3,v1,v2,v3,rfl,ok,a2,a1,a0,nd,h⟩
 ·refine zu true (λN j=>?_) (λ_=>?_) nofun
  ·rcases ht with rfl|rfl
   ·exact⟨λ_=>j,nofun⟩
   exact⟨nofun,λ_=>⟨rfl,rfl,q,q,j⟩⟩
  walk_at "dl";exact⟨_,_,rfl,rfl,_,_,rfl,rfl,by show ms.tasks.length<=100000;omega,⟨trivial,p1,trivial⟩,_,rfl,h⟩
 ·refine xo [_,_,_,none] (λJ hJ=>zu false (λN j=>⟨nofun,λ_=>⟨rfl,rfl,ok,q,j⟩⟩) nofun λ_=>hJ) ?_;refine xo [q_ (msD C fns most ms),q_ (.tup [.str "list",.str x,b1,.str M,.str I,b2]),q_ (.tup (v::r)),q_ (.tup [v,.tup r])] (λJ hJ=>?_) ?_
  ·refine cs ⟨λ_=>?_,nofun⟩;walk_at "dl";have ec:ZZ.cutD (v::r) (some 1) none=r:=Oy v r;rw[ec];exact⟨λy=>absurd y.1 (by unfold ZZ.sIx;simp),hJ⟩
  refine⟨_,rfl,λy=>(nomatch y.1),trivial,trivial,rfl,fns,most,ms,fs,n,rows,[M,I],[v,.tup r],rfl,rfl,hf,rfl,Nat.le_of_ble_eq_true rfl,B,nd,⟨pv,pr,trivial⟩,?_⟩;exact⟨_,_,rfl,rfl,_,_,rfl,rfl,by show ms.tasks.length<=100000;omega,rfl,rfl,⟨trivial,p2,trivial⟩,_,rfl,h⟩
 refine zu false (λN j=>⟨nofun,λ_=>⟨rfl,rfl,ok,q,j⟩⟩) nofun (λ_=>?_);refine cs ⟨nofun,λ_=>⟨trivial,_,rfl,λy=>(nomatch y.1),trivial,trivial,rfl,fns,most,ms,fs,n,rows,[M,I,z3],[v1,v2,v3],rfl,rfl,hf,rfl,Nat.le_of_ble_eq_true rfl,B,nd,⟨a2,a1,a0,trivial⟩,?_⟩⟩;exact⟨_,_,rfl,rfl,_,_,rfl,rfl,by show ms.tasks.length<=100000;omega,rfl,rfl,⟨trivial,p2,trivial⟩,_,rfl,h⟩
def fc{v:D}(j:zl v):frs2 (dv v):=by
 cases v <;> first|exact j|exact j.elim
def Of(T:Tops mg)(O:CO K C zh)(F:Fun K "behind" "Run.behind" (mth 8) f fd)(M:Meth K C "behind" f):FM P w K mg base 1 C zh "behind" ["self","parts","task"] (Wn C):=by
 have S:zj ["self","parts","task"] ["self","parts","task"] (zb (mth 8)):=by walk_at "f"
 refine sj F S (F.binds λ_ _ _ _ _ _ us hl=>(by obtain⟨_,_,_,rfl⟩:=rf hl;rfl)) M (by decide) λqZ A outer s H E d0 ds U hr hl hT=>?_
 have hu:=hr.units;refine⟨_,(yf (xg (xh (yy O ya) (yq (z0 2))))
   (zx (xg (Gg (yy O ya) (wb (T:=["part"]) (F:=[]) (js:=[]) (Xu T.reversed (z9 (z0 1) za)) (show y8 (zb (mth 8)) _ ["part"] [] from by walk_at "c") .nil (by decide) (by walk_at "t") (yo (by decide)) (yj 0) (λcl C fp s H=>xp) (λcl C fp s H=>(zn (z9 zf (z9 (z0 0) za))))))))),?_⟩
 obtain⟨fns,most,ms,es,t,rfl,rfl,hl1,q,pt,Z,h⟩:=hT;have ft:frs2 (dv t):=fc pt;refine yw (λL=>L=[q_ (msD C fns most {ms with tasks:=ms.tasks++[t]}),q_ (.tup es),q_ t]) ?_ ?_
 ·unfold msD;exact⟨_,_,rfl,rfl,_,_,rfl,rfl,by show ms.tasks.length<=100000;omega,ft,rfl⟩
 rintro _ rfl;refine⟨λL=>∃d',slot L 0=q_ d'/\U .non d',?_,λ_ y=>y⟩;unfold msD;simp only[Gj,pFld,Fk,slot,List.getElem?_cons_zero,ix5];refine⟨_,_,rfl,rfl,_,_,rfl,rfl,by show(ms.tasks++[t]).length<=100000;rw[zLa];simp;omega,?_⟩
 refine yp es.reverse ?_ (λd=>some (vlD d)) (by rw[List.length_reverse];omega) ?_ ?_
 ·intro N j;unfold iBT;exact⟨trivial,j⟩
 ·intro d hd;unfold ρ0;walk_at "dl";rfl
 have ef:es.reverse.filterMap (λd=>some (vlD d))=es.reverse.map vlD:=by rw[<- List.filterMap_eq_map];rfl
 rw[ef];refine⟨?_,by rw[zLm,List.length_reverse];omega,_,rfl,?_⟩
 ·refine yg.mpr λx I=>?_;obtain⟨y,B,rfl⟩:=zah.mp I;exact⟨trivial,yg.mp q y (List.mem_reverse.mp B),trivial⟩
 exact h
def Wj(C:Addr):FT:=λds U=>∃fns most s z fs n rows v,ds=[msD C fns most s,.str z]/\s.frames=fs++[(n,rows)]/\rowG rows z=some v/\zl v/\U (dv v)
def Xm(T:Tops mg)(O:CO K C zh)(F:Fun K "standing" "Run.standing" (mth 5) f fd)(B:Meth K C "standing" f):FMD P w K mg base 1 C zh "standing" ["self","name"] (Wj C):=by
 have S:zj ["self","name"] ["self","name"] (zb (mth 5)):=by walk_at "f"
 refine An F S (F.binds λ_ _ _ _ _ _ us hl=>(by obtain⟨_,_,rfl⟩:=ur hl;rfl)) B (by decide) λqZ A outer s H E ds U hr hl hT=>?_
 have hu:=hr.units;refine⟨_,(zk (yd (ze hu (ze hu (ze hu (vf O (z0 0)) (ra zc)) zc) (z0 1)))),?_⟩;obtain⟨fns,most,ms,z,fs,n,rows,v,rfl,I,q,j,h⟩:=hT;unfold msD;rw[I,zMa,List.map_cons,List.map_nil];simp only[frD];walk_at "dl";unfold dkD;simp only[gl,q];exact⟨j,h⟩
def apD(e:D):D:=.tup [.str "apply",e]
def tVal(C:Addr):FTQ:=λd ds U=>∃fns most s,d=msD C fns most s/\s.tasks.length<=10000/\s.ready.length<=10000 /\
 ((∃v,ds=[.tup [.str "num",v]]/\zl v/\U .non (msD C fns most {s with ready:=s.ready++[v]})) \/
  (∃fs n rows z v,ds=[.tup [.str "var",.str z]]/\s.frames=fs++[(n,rows)]/\rowG rows z=some v/\zl v/\U .non (msD C fns most {s with ready:=s.ready++[v]})) \/
  (ds=[.tup [.str "nil"]]/\U .non (msD C fns most {s with ready:=s.ready++[.tup []]})) \/
  (ds=[.tup [.str "leaf"]]/\U .non (msD C fns most {s with ready:=s.ready++[.non]})) \/
  (∃f es,ds=[.tup [.str "call",f,.tup es]]/\es.length<=100/\zl f/\zp es/\U .non (msD C fns most {s with tasks:=s.tasks++[apD (.tup [.str "call",f,.tup es])]++es.reverse.map vlD})) \/
  (∃kd:Str,∃es,ds=[.tup (.str kd::es)]/\(kd = "cons"\/kd = "node"\/kd = "add"\/kd = "sub")/\es.length<=100/\zp es/\U .non (msD C fns most {s with tasks:=s.tasks++[apD (.tup (.str kd::es))]++es.reverse.map vlD})))
def Yj{d:D}{ds:List D}{U N:D->D->Prop}(h:jp C d ds U)(k:∀ d,U .non d->N .non d):jp C d ds N:=by
 obtain⟨fns,most,ms,fs,n,rows,kd,x,b1,b2,e,hf,hl1,p1,p2,Z,h⟩:=h;refine⟨fns,most,ms,fs,n,rows,kd,x,b1,b2,e,hf,hl1,p1,p2,Z,?_⟩;rcases h with⟨bs,th,e,ht,h⟩|⟨q,j,v,r,e,ok,pv,pr,nd,h⟩|⟨q,j,z3,v1,v2,v3,e,ok,M,I,B,nd,h⟩
 ·exact .inl ⟨bs,th,e,ht,k _ h⟩
 ·exact .inr (.inl ⟨q,j,v,r,e,ok,pv,pr,nd,k _ h⟩)
 exact .inr (.inr ⟨q,j,z3,v1,v2,v3,e,ok,M,I,B,nd,k _ h⟩)
def brD(b:D):D:=.tup [.str "bring",b]
def chD(b:D):D:=.tup [.str "choose",b]
def Hk(C:Addr):FTQ:=λd ds U=>∃fns most s,d=msD C fns most s/\s.tasks.length<=10000 /\
 ((∃e,ds=[.tup [.str "give",e]]/\zl e/\U .non (msD C fns most {s with tasks:=s.tasks++[vlD e]})) \/
  (∃z e b,ds=[.tup [.str "let",z,e,b]]/\zl z/\zl e/\zl b/\U .non (msD C fns most {s with tasks:=s.tasks++[brD (.tup [.str "let",z,e,b])]++[vlD e]})) \/
  (∃e1 e2 b1 b2,ds=[.tup [.str "less",e1,e2,b1,b2]]/\zl e1/\zl e2/\zl b1/\zl b2/\U .non (msD C fns most {s with tasks:=s.tasks++[chD (.tup [.str "less",e1,e2,b1,b2])]++[vlD e2,vlD e1]})) \/
  (∃kd x:Str,∃bs fs n rows th,ds=[.tup (.str kd::.str x::bs)]/\(kd = "list"\/kd = "tree")/\s.frames=fs++[(n,rows)]/\s.steps.length<=10000/\rowG rows x=some th/\zl th /\
    (match yx most n "open" s with
   |(true,s')=>jp C (msD C fns most s') [.tup (.str kd::.str x::bs),th] U
   | (false,s')=>U .non (msD C fns most s'))))
def dw(T:Tops mg)(O:CO K C zh)(B:FM P w K mg base 1 C zh "behind" ["self","parts","task"] (Wn C))(a0:FMD P w K mg base 1 C zh "standing" ["self","name"] (Wj C))(F:Fun K "begin_value" "Run.begin_value" (mth 13) f fd)(hm:Meth K C "begin_value" f):FM P w K mg base 2 C zh "begin_value" ["self","expression"] (tVal C):=by
 have S:zj ["self","expression","kind"] ["self","expression"] (zb (mth 13)):=by walk_at "f"
 refine sj F S (F.binds λ_ _ _ _ _ _ us hl=>(by obtain⟨_,_,rfl⟩:=ur hl;rfl)) hm (by decide) λqZ A outer s H E d0 ds U hr hl hT=>?_
 have hu:=hr.units;refine⟨_,(yf (Ul 2 (by decide) S.nd (ze hu (z0 1) zc))
   (zx (vc (u1 (wl hu (z0 2) zf)) (zx (xh (yy O ya) (yq (ze hu (z0 1) zc)))) (zx (vc (u1 (wl hu (z0 2) zf)) (zx (xh (yy O ya) (yq (Ou O a0 (hr.e rfl) (z0 0) (z9 (ze hu (z0 1) zc) za))))) (zx (vc (u1 (wl hu (z0 2) zf)) (zx (xh (yy O ya) (yq (zn za)))) (zx (vc (u1 (wl hu (z0 2) zf)) (zx (xh (yy O ya) (yq sy))) (zx (vc (u1 (wl hu (z0 2) zf)) (zx (x9 (yh O B (hr.e rfl) (zr (ze hu (z0 1) zc) (zr (zn (z9 zf (z9 (z0 1) za))) yr))))) (zx (x9 (yh O B (hr.e rfl) (zr (xb (z0 1) (yt zc) vv) (zr (zn (z9 zf (z9 (z0 1) za))) yr)))))))))))))))),?_⟩
 obtain⟨fns,most,ms,rfl,hl1,a1,h⟩:=hT;unfold msD;rcases h with⟨v,rfl,Z,h⟩|⟨fs,n,rows,z,v,rfl,hf,hv,Z,h⟩|⟨rfl,h⟩|⟨rfl,h⟩|⟨ff,es,rfl,q,pf,I,h⟩|⟨M,es,rfl,hk,q,I,h⟩
 ·refine xo [_,_,q_ (.str _)] (λJ j=>⟨trivial,j⟩) (zu true (λ_=>cs) (λ_=>?_) nofun);exact⟨_,_,rfl,rfl,_,_,rfl,rfl,by show ms.ready.length<=100000;omega,fc Z,_,rfl,h⟩
 ·refine xo [_,_,q_ (.str _)] (λJ j=>⟨trivial,j⟩) (zu false (λ_=>cs) nofun λ_=>zu true (λ_=>cs) (λ_=>?_) nofun);exact⟨_,_,rfl,rfl,_,_,rfl,rfl,by show ms.ready.length<=100000;omega,⟨_,rfl⟩,rfl,fns,most,ms,z,fs,n,rows,v,rfl,hf,hv,Z,fc Z,_,rfl,h⟩
 ·refine xo [_,_,q_ (.str _)] (λJ j=>⟨trivial,j⟩) (zu false (λ_=>cs) nofun λ_=>zu false (λ_=>cs) nofun λ_=>zu true (λ_=>cs) (λ_=>?_) nofun);exact⟨_,_,rfl,rfl,_,_,rfl,rfl,by show ms.ready.length<=100000;omega,rfl,rfl,trivial,_,rfl,h⟩
 ·refine xo [_,_,q_ (.str _)] (λJ j=>⟨trivial,j⟩) (zu false (λ_=>cs) nofun λ_=>zu false (λ_=>cs) nofun λ_=>zu false (λ_=>cs) nofun λ_=>zu true (λ_=>cs) (λ_=>?_) nofun);exact⟨_,_,rfl,rfl,_,_,rfl,rfl,by show ms.ready.length<=100000;omega,trivial,_,rfl,h⟩
 ·refine xo [_,_,q_ (.str _)] (λJ j=>⟨trivial,j⟩) (zu false (λ_=>cs) nofun λ_=>zu false (λ_=>cs) nofun λ_=>zu false (λ_=>cs) nofun λ_=>zu false (λ_=>cs) nofun λ_=>zu true (λ_=>cs) (λ_=>?_) nofun);exact⟨_,rfl,trivial,rfl,rfl,trivial,rfl,fns,most,ms,es,apD _,rfl,rfl,q,I,⟨trivial,⟨trivial,pf,I,trivial⟩,trivial⟩,hl1,_,rfl,h⟩
 have N:M≠"num"/\M≠"var"/\M≠"nil"/\M≠"leaf"/\M≠"call":=by rcases hk with rfl|rfl|rfl|rfl <;> decide
 refine xo [_,_,q_ (.str _)] (λJ j=>by walk_at "dl";exact j) (zu false (λ_=>cn N.1) nofun λ_=>zu false (λ_=>cn N.2.1) nofun λ_=>zu false (λ_=>cn N.2.2.1) nofun λ_=>zu false (λ_=>cn N.2.2.2.1) nofun λ_=>zu false (λ_=>cn N.2.2.2.2) nofun λ_=>?_)
 walk_at "dl";rw[Oy];refine⟨_,rfl,⟨λy=>absurd y.1 (by unfold ZZ.sIx;simp),?_⟩⟩
 refine⟨fns,most,ms,es,apD _,rfl,rfl,q,I,⟨trivial,⟨trivial,I⟩,trivial⟩,hl1,?_⟩;exact⟨_,rfl,h⟩
def Zu(T:Tops mg)(O:CO K C zh)(B:FM P w K mg base 1 C zh "behind" ["self","parts","task"] (Wn C))(a0:FM P w K mg base 2 C zh "own_step" ["self","kind"] (tOwn C))(N:FM P w K mg base 2 C zh "follow" ["self","body","thing"] (jp C))(Z:FMD P w K mg base 1 C zh "standing" ["self","name"] (Wj C))(F:Fun K "begin_body" "Run.begin_body" (mth 9) f fd)(hm:Meth K C "begin_body" f):FM P w K mg base 3 C zh "begin_body" ["self","body"] (Hk C):=by
 have S:zj ["self","body","kind"] ["self","body"] (zb (mth 9)):=by walk_at "f"
 refine sj F S (F.binds λ_ _ _ _ _ _ us hl=>(by obtain⟨_,_,rfl⟩:=ur hl;rfl)) hm (by decide) λqZ A outer s H E d0 ds U hr hl hT=>?_
 have hu:=hr.units;refine⟨_,(yf (Ul 2 (by decide) S.nd (ze hu (z0 1) zc))
   (zx (vc (u1 (wl hu (z0 2) zf)) (zx (xh (yy O ya) (yq (zn (z9 zf (z9 (ze hu (z0 1) zc) za)))))) (zx (vc (u1 (wl hu (z0 2) zf)) (zx (x9 (yh O B (hr.e rfl) (zr (xb (z0 1) (yt zc) (yt zc)) (zr (zn (z9 zf (z9 (z0 1) za))) yr))))) (zx (vc (u1 (wl hu (z0 2) zf)) (zx (x9 (yh O B (hr.e rfl) (zr (xb (z0 1) (yt zc) (yt zc)) (zr (zn (z9 zf (z9 (z0 1) za))) yr))))) (zx (vc (cz (yh O a0 (hr.e rfl) (zr zf yr))) (zx (x9 (yh O N (hr.e rfl) (zr (z0 1) (jw (Xs (Ou O Z (hr.e rfl) (z0 0) (z9 (ze hu (z0 1) zc) za))) yr))))) kq))))))))),?_⟩
 obtain⟨fns,most,ms,rfl,hl1,h⟩:=hT;unfold msD;rcases h with⟨v,rfl,I,h⟩|⟨z,e,b,rfl,M,p2,p3,h⟩|⟨e1,e2,b1,b2,rfl,M,p2,p3,p4,h⟩|⟨kd,x,bs,fs,n,rows,th,rfl,hk,hf,a1,hv,I,h⟩
 ·refine xo [_,_,q_ (.str _)] (λJ j=>⟨trivial,j⟩) (zu true (λ_=>cs) (λ_=>?_) nofun);exact⟨_,_,rfl,rfl,_,_,rfl,rfl,by show ms.tasks.length<=100000;omega,rfl,rfl,⟨trivial,I,trivial⟩,_,rfl,h⟩
 ·refine xo [_,_,q_ (.str _)] (λJ j=>⟨trivial,j⟩) (zu false (λ_=>cs) nofun λ_=>zu true (λ_=>cs) (λ_=>?_) nofun);exact⟨_,rfl,λy=>(nomatch y.1),trivial,rfl,rfl,trivial,rfl,fns,most,ms,[e],brD _,rfl,rfl,Nat.le_of_ble_eq_true rfl,⟨p2,trivial⟩,⟨trivial,⟨trivial,M,p2,p3,trivial⟩,trivial⟩,hl1,_,rfl,h⟩
 ·refine xo [_,_,q_ (.str _)] (λJ j=>⟨trivial,j⟩) (zu false (λ_=>cs) nofun λ_=>zu false (λ_=>cs) nofun λ_=>zu true (λ_=>cs) (λ_=>?_) nofun);exact⟨_,rfl,λy=>(nomatch y.1),trivial,rfl,rfl,trivial,rfl,fns,most,ms,[e1,e2],chD _,rfl,rfl,Nat.le_of_ble_eq_true rfl,⟨M,p2,trivial⟩,⟨trivial,⟨trivial,M,p2,p3,p4,trivial⟩,trivial⟩,hl1,_,rfl,h⟩
 have hn:kd≠"give"/\kd≠"let"/\kd≠"less":=by rcases hk with rfl|rfl <;> decide
 refine xo [_,_,q_ (.str _)] (λJ j=>by walk_at "dl";exact j) (zu false (λ_=>cn hn.1) nofun λ_=>zu false (λ_=>cn hn.2.1) nofun λ_=>zu false (λ_=>cn hn.2.2) nofun λ_=>?_)
 walk_at "dl";refine⟨_,rfl,fns,most,ms,"open",fs,n,rows,rfl,rfl,a1,hf,?_⟩;by_cases q:most<=ms.steps.length
 ·have es:yx most n "open" ms=(false,{ms with cut:=true}):=by unfold yx;rw[if_pos q]
  rw[es]at h ⊢;exact⟨λy=>(nomatch y),λ_=>⟨_,rfl,h⟩⟩
 have es:yx most n "open" ms=(true,{ms with steps:=ms.steps++[.tup [.int n,.str "open"]]}):=by unfold yx;rw[if_neg q]
 rw[es]at h ⊢;refine⟨λ_=>?_,λy=>(nomatch y)⟩;refine⟨_,rfl,⟨_,rfl⟩,fns,most,{ms with steps:=ms.steps++[.tup [.int n,.str "open"]]},x,fs,n,rows,th,rfl,hf,hv,I,I,?_⟩;exact Yj h λd hd=>⟨_,rfl,hd⟩
def pmD(ps:List (Str×D)):D:=.tup (ps.map λp=>.tup [.str p.1,p.2])
def upD(fs:List (Int×List (Str×D))):D:=match fs.getLast? with
 |some p=>.int p.1
 |none=>.non
def u7(most:Int)(j:Str)(as:List D)(ps:List (Str×D))(b:D)(s:MS):MS:=if 20<=s.frames.length then {s with cut:=true} else match yx most s.calls.length "call" s with
 |(true,s')=>{s' with calls:=s.calls++[.tup [.str j,.tup as,upD s.frames,.bl false,.non]],frames:=s.frames++[((s.calls.length:Int),(ps.map Prod.fst).zip as)],tasks:=s.tasks++[.tup [.str "leave"]]++[bdD b]}
 |(false,s')=>s'
def cv(C:Addr):FTQ:=λd ds U=>∃fns most s,∃nm:Str,∃as:List D,∃n0 ps sz b,d=msD C fns most s/\ds=[.str nm,.tup as]/\rowG fns nm=some (.tup [n0,pmD ps,sz,b])/\zl n0/\zp (ps.map Prod.snd)/\zl sz/\zl b/\zp as/\ps.length=as.length/\as.length<=10/\(ps.map Prod.fst).Nodup/\s.steps.length<=10000/\s.calls.length<=10000/\s.tasks.length<=10000 /\
 U .non (msD C fns most (u7 most nm as ps b s))
def Q9(C:Addr)(R:Str->D->Int->Prop):FTQ:=λd ds U=>∃fns most s rs,d=msD C fns most s/\s.ready.length<=10000/\zp rs /\
 ((∃nm:Str,∃es us,ds=[.tup [.str "call",.str nm,.tup es]]/\s.ready=rs++us/\us.length=es.length/\us≠[]/\us.length<=10/\zp us/\cv C (msD C fns most {s with ready:=rs}) [.str nm,.tup us] U) \/
  (∃e1 e2 v r,ds=[.tup [.str "cons",e1,e2]]/\s.ready=rs++[v,.tup r]/\zl v/\zp r/\r.length<=10000/\Z11 C R (msD C fns most {s with ready:=rs}) [.str "list",.tup (v::r)] U) \/
  (∃e1 e2 e3 v1 v2 v3,ds=[.tup [.str "node",e1,e2,e3]]/\s.ready=rs++[v1,v2,v3]/\zl v1/\zl v2/\zl v3/\Z11 C R (msD C fns most {s with ready:=rs}) [.str "tree",.tup [v1,v2,v3]] U) \/
  (∃(kd:Str),∃e1 e2,∃x y:Int,∃fs n rows,ds=[.tup [.str kd,e1,e2]]/\(kd = "add"\/kd = "sub")/\s.frames=fs++[(n,rows)]/\s.steps.length<=10000/\s.ready=rs++[.int x,.int y] /\
    U .non (msD C fns most (match yx most n "sum" s with
   |(true,s')=>{s' with ready:=rs++[.int (if kd = "add" then x+y else x-y)]}
   | (false,s')=>s'))))
def Wk{d:D}{ds:List D}{U N:D->D->Prop}(h:cv C d ds U)(k:∀ d,U .non d->N .non d):cv C d ds N:=by
 obtain⟨fns,most,s,Z,as,n0,ps,sz,b,h1,h2,h3,h4,h5,h6,h7,h8,h9,M,I,B,q,j,h⟩:=h;exact⟨fns,most,s,Z,as,n0,ps,sz,b,h1,h2,h3,h4,h5,h6,h7,h8,h9,M,I,B,q,j,k _ h⟩
def cu{d:D}{ds:List D}{U N:D->D->Prop}(h:Z11 C R d ds U)(k:∀ d,U .non d->N .non d):Z11 C R d ds N:=by
 obtain⟨fns,most,s,fs,n,rows,j,v,sz,h1,h2,Z,M,I,B,q,h⟩:=h;exact⟨fns,most,s,fs,n,rows,j,v,sz,h1,h2,Z,M,I,B,q,k _ h⟩
def Lm(T:Tops mg)(Z:Con3 K mg)(O:CO K C zh)(B:FM P w K mg base 1 C zh "step" ["self","number","kind"] (Q31 C))(F:Fun K "enter" "Run.enter" (mth 16) f fd)(hm:Meth K C "enter" f):FM P w K mg base 2 C zh "enter" ["self","name","args"] (cv C):=by
 have S:zj ["self","name","args","number","up","function"] ["self","name","args"] (zb (mth 16)):=by walk_at "f"
 refine sj F S (F.binds λ_ _ _ _ _ _ us hl=>(by obtain⟨_,_,_,rfl⟩:=rf hl;rfl)) hm (by decide) λqZ A outer s H E d0 ds U hr hl hT=>?_
 have hu:=hr.units;refine⟨_,(yf (xg (qx 3 (by decide) S.nd (Xs (xt T.len (z9 (vf O (z0 0)) za)))))
   (zx (xg (vc (u1 (En (xt T.len (z9 (vf O (z0 0)) za)) (kg Z.c_MOST_CALLS))) (zx (xg (Uo O ya (yq uu)))) (zx (xg (vc (cz (yh O B (hr.e rfl) (zr (z0 3) (zr zf yr)))) (yf (xg (qx 4 (by decide) S.nd (Xs (qk (xr (vf O (z0 0))) (ze hu (ze hu (vf O (z0 0)) (ra zc)) zc) sy))))
     (yf (xg (qx 5 (by decide) S.nd (Xs (ze hu (vf O (z0 0)) (z0 1)))))
     (yf (xg (xh (yy O ya) (yq (zn (z9 (z0 1) (z9 (z0 2) (z9 (z0 4) (z9 uu (z9 sy za)))))))))
     (yf (xg (xh (yy O ya) (Au (Th (yq (z0 3)) (Th (yq (Ti T.dict T.zip (z9 (wb (T:=["param","shape"]) (F:=[]) (js:=[]) (wo (ze hu (z0 5) zc)) (show y8 (zb (mth 16)) _ ["param","shape"] [] from by walk_at "c") .nil (by decide) (by walk_at "t") (Xg (ub w8 (gz w8 sv) (yo (by decide)) (ub w8 sv (yo (by decide)) Xh))) (ut 0 1) (λcl C fp s H=>xp) (λcl C fp s H=>(z0 0))) (z9 (z0 2) za)))) Eo)))))
     (yf (xg (xh (yy O ya) (yq (zn (z9 zf za)))))
     (zx (xg (xh (yy O ya) (yq (zn (z9 zf (z9 (ze hu (z0 5) zc) za)))))))))))) kq))))))),?_⟩
 obtain⟨fns,most,ms,j,as,n0,ps,sz,b,rfl,rfl,hf,p1,p2,p3,p4,p5,hl,a4,nd,a1,a3,a2,h⟩:=hT;refine yw (λL=>L=[q_ (msD C fns most ms),q_ (.str j),q_ (.tup as),q_ (.int ms.calls.length),none,none]) ?_ ?_
 ·exact⟨rfl,rfl,trivial,rfl⟩
 rintro _ rfl;refine⟨λL=>∃d',slot L 0=q_ d'/\U .non d',?_,λ_ y=>y⟩;unfold msD;refine⟨rfl,rfl,λq=>⟨λL=>∃d',slot L 0=q_ d'/\U .non d',?_,λ_ y=>y⟩,λq=>⟨λL=>∃d',slot L 0=q_ d'/\U .non d',?_,λ_ y=>y⟩⟩
 ·unfold u7 at h;rw[if_pos (by have z:=of_decide_eq_true q;rw[zLm]at z;omega)]at h
  exact⟨trivial,_,_,rfl,rfl,by decide,_,rfl,h⟩
 unfold u7 at h;have q:¬ 20<=ms.frames.length:=by have z:=of_decide_eq_false q;rw[zLm]at z;omega
 rw[if_neg q]at h;refine⟨_,rfl,trivial,trivial,rfl,fns,most,ms,ms.calls.length,"call",rfl,rfl,a1,?_⟩;by_cases q2:most<=ms.steps.length
 ·have es:yx most ms.calls.length "call" ms=(false,{ms with cut:=true}):=by unfold yx;rw[if_pos q2]
  rw[es]at h ⊢;exact⟨λy=>(nomatch y),λ_=>⟨_,rfl,h⟩⟩
 have es:yx most ms.calls.length "call" ms=(true,{ms with steps:=ms.steps++[.tup [.int ms.calls.length,.str "call"]]}):=by unfold yx;rw[if_neg q2]
 rw[es]at h ⊢;refine⟨λ_=>?_,λy=>(nomatch y)⟩;generalize e1:({ms with steps:=ms.steps++[.tup [.int ms.calls.length,.str "call"]]}:MS)=s1 at h ⊢;have f1:s1.frames=ms.frames:=by rw[<- e1]
 have f2:s1.calls=ms.calls:=by rw[<- e1]
 have f3:s1.tasks=ms.tasks:=by rw[<- e1]
 refine yw (λL=>L=[q_ (msD C fns most s1),q_ (.str j),q_ (.tup as),q_ (.int ms.calls.length),q_ (upD ms.frames),none]) ?_ ?_
 ·unfold msD;rw[f1];rcases List.eq_nil_or_concat ms.frames with e|⟨fs,p,e⟩
  ·rw[e];exact⟨rfl,rfl,λz=>(nomatch z),λ_=>⟨trivial,rfl⟩⟩
  obtain⟨pn,pr⟩:=p;rw[e,List.concat_eq_append,zMa];have eu:upD (fs++[(pn,pr)])=.int pn:=by unfold upD;simp
  rw[eu];simp only[frD,List.map_cons,List.map_nil];walk_at "dl";exact λz=>absurd z (by simp)
 rintro _ rfl;have I:zl (pmD ps):=yg.mpr λx hx=>by
  obtain⟨y,hy,rfl⟩:=zah.mp hx;exact⟨trivial,yg.mp p2 _ (zah.mpr ⟨y,hy,rfl⟩),trivial⟩
 refine yw (λL=>L=[q_ (msD C fns most s1),q_ (.str j),q_ (.tup as),q_ (.int ms.calls.length),q_ (upD ms.frames),q_ (.tup [n0,pmD ps,sz,b])]) ?_ ?_
 ·unfold msD;walk_at "dl";unfold dkD;simp only[gl,hf];exact⟨⟨p1,I,p3,p4,trivial⟩,trivial⟩
 rintro _ rfl;have pu:zl (upD ms.frames):=by unfold upD;split <;> trivial
 refine yw (λL=>L=[q_ (msD C fns most {s1 with calls:=ms.calls++[.tup [.str j,.tup as,upD ms.frames,.bl false,.non]]}),q_ (.str j),q_ (.tup as),q_ (.int ms.calls.length),q_ (upD ms.frames),q_ (.tup [n0,pmD ps,sz,b])]) ?_ ?_
 ·unfold msD;exact⟨_,_,rfl,rfl,_,_,rfl,rfl,by show s1.calls.length<=100000;rw[f2];omega,rfl,rfl,⟨trivial,p5,pu,trivial,trivial,trivial⟩,by rw[f2];rfl⟩
 rintro _ rfl;refine yw (λL=>L=[q_ (msD C fns most {s1 with calls:=ms.calls++[.tup [.str j,.tup as,upD ms.frames,.bl false,.non]],frames:=ms.frames++[((ms.calls.length:Int),(ps.map Prod.fst).zip as)]}),q_ (.str j),q_ (.tup as),q_ (.int ms.calls.length),q_ (upD ms.frames),q_ (.tup [n0,pmD ps,sz,b])]) ?_ ?_
 ·unfold msD;walk_at "dl";refine⟨_,_,rfl,rfl,_,_,rfl,rfl,by show(s1.frames.map frD).length<=100000;rw[zLm,f1];omega,trivial,?_⟩
  refine yp (ps.map λp=>.tup [.str p.1,p.2]) ?_ (λd=>match d with|.tup [a,_]=>some a|_=>none) (by rw[zLm];omega) ?_ ?_
  ·intro N a0;unfold pmD;exact⟨trivial,a0⟩
  ·intro d hd;obtain⟨y,hy,rfl⟩:=zah.mp hd;unfold ρ0;walk_at "dl"
  have ef:(ps.map λp=>D.tup [.str p.1,p.2]).filterMap (λd=>match d with|.tup [a,_]=>some a|_=>none)=(ps.map Prod.fst).map D.str:=by
   rw[List.filterMap_map,List.map_map,<- List.filterMap_eq_map];rfl
  rw[ef];have M:(ps.map Prod.fst).length=as.length:=by rw[zLm];exact hl
  have e5:(ms.frames++[((ms.calls.length:Int),(ps.map Prod.fst).zip as)]).map frD=s1.frames.map frD++[D.tup [.int ms.calls.length,.dk ((ps.map Prod.fst).map Sum.inr) as]]:=by
   rw[zMa,f1];show _++[D.tup [.int ms.calls.length,dkD ((ps.map Prod.fst).zip as)]]=_;unfold dkD;rw[<- bw _ _ M,vj1 M]
  refine⟨ps.map Prod.fst,as,⟨.inl rfl,.inr rfl⟩,M,by omega,nd,p5,?_⟩
  rw[e5];rfl
 rintro _ rfl;refine yw (λL=>L=[q_ (msD C fns most {s1 with calls:=ms.calls++[.tup [.str j,.tup as,upD ms.frames,.bl false,.non]],frames:=ms.frames++[((ms.calls.length:Int),(ps.map Prod.fst).zip as)],tasks:=ms.tasks++[.tup [.str "leave"]]}),q_ (.str j),q_ (.tup as),q_ (.int ms.calls.length),q_ (upD ms.frames),q_ (.tup [n0,pmD ps,sz,b])]) ?_ ?_
 ·unfold msD;exact⟨_,_,rfl,rfl,_,_,rfl,rfl,by show s1.tasks.length<=100000;rw[f3];omega,rfl,rfl,⟨trivial,trivial⟩,by rw[f3];rfl⟩
 rintro _ rfl;refine⟨λL=>∃d',slot L 0=q_ d'/\U .non d',?_,λ_ y=>y⟩;have ea:atI [n0,pmD ps,sz,b] (3:Int)=some b:=da (by decide) rfl
 unfold msD;walk_at "dl";rw[ea];exact⟨_,_,rfl,rfl,_,_,rfl,rfl,by show(ms.tasks++[D.tup [D.str "leave"]]).length<=100000;rw[zLa];simp only[zLc,zLn];omega,⟨trivial,p4,trivial⟩,_,rfl,h⟩
def Lo(T:Tops mg)(O:CO K C zh)(a0:FM P w K mg base 2 C zh "enter" ["self","name","args"] (cv C))(B:FM P w K mg base 1 C zh "taken" ["self","many"] (U4 C))(Z:FM P w K mg base 6 C zh "make" ["self","shape","thing"] (Z11 C R))(a1:FM P w K mg base 2 C zh "own_step" ["self","kind"] (tOwn C))(F:Fun K "apply" "Run.apply" (mth 14) f fd)(hm:Meth K C "apply" f):FM P w K mg base 7 C zh "apply" ["self","expression"] (Q9 C R):=by
 have S:zj ["self","expression","kind","parts"] ["self","expression"] (zb (mth 14)):=by walk_at "f"
 refine sj F S (F.binds λ_ _ _ _ _ _ us hl=>(by obtain⟨_,_,rfl⟩:=ur hl;rfl)) hm (by decide) λqZ A outer s H E d0 ds U hr hl hT=>?_
 have hu:=hr.units;refine⟨_,(yf (Ul 2 (by decide) S.nd (ze hu (z0 1) zc))
   (zx (vc (u1 (wl hu (z0 2) zf)) (zx (x9 (yh O a0 (hr.e rfl) (zr (ze hu (z0 1) zc) (jw (yh O B (hr.e rfl) (zr (xt T.len (z9 (ze hu (z0 1) zc) za)) yr)) yr))))) (zx (vc (u1 (wl hu (z0 2) zf)) (yf (qx 3 (by decide) S.nd (yh O B (hr.e rfl) (zr zc yr)))
     (zx (x9 (yh O Z (hr.e rfl) (zr zf (zr (Ov (zn (z9 (ze hu (z0 3) zc) za)) (ze hu (z0 3) zc)) yr)))))) (zx (vc (u1 (wl hu (z0 2) zf)) (zx (x9 (yh O Z (hr.e rfl) (zr zf (jw (yh O B (hr.e rfl) (zr zc yr)) yr))))) (zx (vc (cz (yh O a1 (hr.e rfl) (zr zf yr))) (yf (qx 3 (by decide) S.nd (yh O B (hr.e rfl) (zr zc yr)))
       (zx (xh (yy O ya) (yq (qk (wl hu (z0 2) zf) (yz (ze hu (z0 3) zc) (ze hu (z0 3) zc)) (ul (ze hu (z0 3) zc) (ze hu (z0 3) zc))))))) kq))))))))),?_⟩
 obtain⟨fns,most,ms,rs,rfl,hl1,I,h⟩:=hT;unfold msD;rcases h with⟨nm,es,us,rfl,j,M,ne,a5,pu,h⟩|⟨e1,e2,v,r,rfl,j,pv,pr,M,h⟩|⟨e1,e2,e3,v1,v2,v3,rfl,j,a4,a3,a2,h⟩|⟨kd,e1,e2,x,y,fs,n,rows,rfl,hk,hf,M,j,h⟩
 ·refine xo [_,_,q_ (.str _),none] (λJ N=>⟨trivial,N⟩) (zu true (λ_=>cs) (λ_=>?_) nofun);exact⟨_,rfl,trivial,_,rfl,trivial,rfl,fns,most,ms,rs,us,rfl,by rw[M],j,ne,a5,pu,I,hl1,rfl,Wk h λd hd=>⟨_,rfl,hd⟩⟩
 ·refine xo [_,_,q_ (.str _),none] (λJ N=>⟨trivial,N⟩) (zu false (λ_=>cs) nofun λ_=>zu true (λ_=>cs) (λ_=>?_) nofun);refine⟨_,rfl,trivial,rfl,fns,most,ms,rs,[v,.tup r],rfl,rfl,j,nofun,Nat.le_of_ble_eq_true rfl,⟨pv,pr,trivial⟩,I,hl1,_,rfl,trivial,rfl,rfl,⟨pv,trivial⟩,pr,by rw[sizeLine_eq];show 1+r.length<=_;omega,trivial,rfl,cu h λd hd=>⟨_,rfl,hd⟩⟩
 ·refine xo [_,_,q_ (.str _),none] (λJ N=>⟨trivial,N⟩) (zu false (λ_=>cs) nofun λ_=>zu false (λ_=>cs) nofun λ_=>zu true (λ_=>cs) (λ_=>?_) nofun);exact⟨_,rfl,trivial,_,rfl,trivial,rfl,fns,most,ms,rs,[v1,v2,v3],rfl,rfl,j,nofun,Nat.le_of_ble_eq_true rfl,⟨a4,a3,a2,trivial⟩,I,hl1,rfl,cu h λd hd=>⟨_,rfl,hd⟩⟩
 have hn:kd≠"call"/\kd≠"cons"/\kd≠"node":=by rcases hk with rfl|rfl <;> decide
 refine xo [_,_,q_ (.str _),none] (λJ N=>⟨trivial,N⟩) (zu false (λ_=>cn hn.1) nofun λ_=>zu false (λ_=>cn hn.2.1) nofun λ_=>zu false (λ_=>cn hn.2.2) nofun λ_=>?_);refine⟨_,rfl,trivial,rfl,fns,most,ms,"sum",fs,n,rows,rfl,rfl,M,hf,?_⟩;by_cases q:most<=ms.steps.length
 ·have es:yx most n "sum" ms=(false,{ms with cut:=true}):=by unfold yx;rw[if_pos q]
  rw[es]at h ⊢;exact⟨λy=>(nomatch y),λ_=>⟨_,rfl,h⟩⟩
 have es:yx most n "sum" ms=(true,{ms with steps:=ms.steps++[.tup [.int n,.str "sum"]]}):=by unfold yx;rw[if_neg q]
 rw[es]at h ⊢;refine⟨λ_=>⟨_,rfl,trivial,rfl,fns,most,{ms with steps:=ms.steps++[.tup [.int n,.str "sum"]]},rs,[.int x,.int y],rfl,rfl,j,nofun,Nat.le_of_ble_eq_true rfl,⟨trivial,trivial,trivial⟩,I,hl1,?_⟩,λy=>(nomatch y)⟩;refine⟨_,_,rfl,rfl,_,_,rfl,rfl,by show rs.length<=100000;have:=congrArg List.length j;rw[zLa]at this;omega,?_⟩
 rcases hk with rfl|rfl
 ·exact cs ⟨λ_=>⟨trivial,_,rfl,h⟩,nofun⟩
 exact cs ⟨nofun,λ_=>⟨trivial,_,rfl,h⟩⟩
def Does(t:FTQ)(C:Addr)(fns:List (Str×D))(most:Int)(ds:List D)(s s1:MS):Prop:=∀U:D->D->Prop,U .non (msD C fns most s1)->t (msD C fns most s) ds U
def Mv(C:Addr)(R:Str->D->Int->Prop)(fns:List (Str×D))(most:Int)(s s1:MS):Prop:=∃ts,
 (∃b,s.tasks=ts++[bdD b]/\Does (Hk C) C fns most [b] {s with tasks:=ts} s1) \/
 (∃e,s.tasks=ts++[vlD e]/\Does (tVal C) C fns most [e] {s with tasks:=ts} s1) \/
 (∃e,s.tasks=ts++[apD e]/\Does (Q9 C R) C fns most [e] {s with tasks:=ts} s1) \/
 (∃b,s.tasks=ts++[brD b]/\Does (Q8 C) C fns most [b] {s with tasks:=ts} s1) \/
 (∃b,s.tasks=ts++[chD b]/\Does (Wm C) C fns most [b] {s with tasks:=ts} s1) \/
 (s.tasks=ts++[.tup [.str "leave"]]/\Does (Q6 C) C fns most [] {s with tasks:=ts} s1)
inductive RunN(C:Addr)(R:Str->D->Int->Prop)(fns:List (Str×D))(most:Int):Nat->MS->MS->Prop
 |done {s:MS}:(s.tasks=[]\/s.cut=true)->RunN C R fns most 0 s s
 |step {s s1 s2:MS} {n:Nat}:s.cut=false->Mv C R fns most s s1->RunN C R fns most n s1 s2->RunN C R fns most (n+1) s s2
def tGo(C:Addr)(R:Str->D->Int->Prop):FTQ:=λd ds U=>∃fns most s s1 n,d=msD C fns most s/\ds=[]/\RunN C R fns most n s s1/\U .non (msD C fns most s1)
def Xf(p:Nat->Prop)(h:∃ n,p n):∃n,p n/\∀m,p m->n<=m:=by
 obtain⟨n,B⟩:=h
 induction n using Nat.strongRecOn with
 |ind n ih =>
  by_cases q:∃m,m<n/\p m
  ·obtain⟨m,lt,j⟩:=q;exact ih m lt j
  exact⟨n,B,λm j=>Nat.le_of_not_lt λlt=>q ⟨m,lt,j⟩⟩
def gq(p:Nat->Prop):Nat:=by
 classical
 exact if h:∃n,p n then Classical.choose (Xf p h) else 0
def gp{p:Nat->Prop}(h:∃ n,p n):p (gq p)/\∀m,p m->gq p<=m:=by
 unfold gq;rw[dif_pos h];exact Classical.choose_spec (Xf p h)
def Hf{tc:TQb}{L:DE}{k:Bool->DE->Prop}(b:Bool)(h:∀ k:Bool->DE->Prop,k b L->tc L k)(j:k b L):tc L k:=h k j
def goP(C:Addr)(R:Str->D->Int->Prop)(fns:List (Str×D))(most:Int)(s1:MS)(L:DE)(n:Nat):Prop:=∃s t,L=[q_ (msD C fns most s),t]/\RunN C R fns most n s s1
def tl1{ts:List D}{x y:D}(h:ts++[x]=ts++[y]):x=y:=List.head_eq_of_cons_eq (List.append_cancel_left h)
def z1h(T:Tops mg)(O:CO K C zh)(a5:FM P w K mg base 3 C zh "begin_body" ["self","body"] (Hk C))(a6:FM P w K mg base 2 C zh "begin_value" ["self","expression"] (tVal C))(a3:FM P w K mg base 7 C zh "apply" ["self","expression"] (Q9 C R))(a2:FM P w K mg base 3 C zh "bring" ["self","body"] (Q8 C))(a4:FM P w K mg base 3 C zh "choose" ["self","body"] (Wm C))(a1:FM P w K mg base 1 C zh "leave" ["self"] (Q6 C))(F:Fun K "go" "Run.go" (mth 2) f fd)(I:Meth K C "go" f):FM P w K mg base 8 C zh "go" ["self"] (tGo C R):=by
 have S:zj ["self","task"] ["self"] (zb (mth 2)):=by walk_at "f"
 refine sj F S (F.binds λ_ _ _ _ _ _ us hl=>(by obtain⟨_,rfl⟩:=j8 hl;rfl)) I (by decide) λqZ A outer s H E d0 ds U hr hl hT=>?_
 have hu:=hr.units;refine⟨_,(zx (Mc (u1 (EW.et (Tf (xr (vf O (z0 0))) (Y3 (vd (xr (vf O (z0 0)))))))) (yf (xg (Yt 1 (by decide) S.nd (yy O ya)))
    (zx (vc (u1 (wl hu (ze hu (z0 1) zc) zf)) (zx (x9 (yh O a5 (hr.e rfl) (zr (ze hu (z0 1) zc) yr)))) (zx (vc (u1 (wl hu (ze hu (z0 1) zc) zf)) (zx (x9 (yh O a6 (hr.e rfl) (zr (ze hu (z0 1) zc) yr)))) (zx (vc (u1 (wl hu (ze hu (z0 1) zc) zf)) (zx (x9 (yh O a3 (hr.e rfl) (zr (ze hu (z0 1) zc) yr)))) (zx (vc (u1 (wl hu (ze hu (z0 1) zc) zf)) (zx (x9 (yh O a2 (hr.e rfl) (zr (ze hu (z0 1) zc) yr)))) (zx (vc (u1 (wl hu (ze hu (z0 1) zc) zf)) (zx (x9 (yh O a4 (hr.e rfl) (zr (ze hu (z0 1) zc) yr)))) (zx (x9 (Tg O a1 (hr.e rfl))))))))))))))))),?_⟩
 obtain⟨fns,most,ms,s1,n,rfl,rfl,hR,h⟩:=hT;refine⟨λL=>∃n,goP C R fns most s1 L n,λL=>gq (goP C R fns most s1 L),⟨n,ms,none,rfl,hR⟩,λa0 hP=>?_⟩;obtain⟨I,_⟩:=gp hP;obtain⟨m,em⟩:∃m,m=gq (goP C R fns most s1 a0):=⟨_,rfl⟩;rw[<- em]at I;obtain⟨s,t,rfl,I⟩:=I;refine Hf (!s.tasks.isEmpty&&!s.cut) (λk Z=>?_) ?_
 ·unfold msD at Z ⊢;walk_at "dl";refine⟨λz=>?_,λz=>?_⟩
  ·rw[z]at Z;exact Z
  rw[z]at Z;exact Z
 refine⟨λq=>?_,λq=>?_⟩
 ·have B:∀(s2:MS)(M:Option EV)(N:Nat),RunN C R fns most N s2 s1->N<m->(∃n,goP C R fns most s1 [q_ (msD C fns most s2),M] n)/\gq (goP C R fns most s1 [q_ (msD C fns most s2),M])<gq (goP C R fns most s1 [q_ (msD C fns most s),t]):=λs2 M N h2 lt=>⟨⟨N,s2,M,rfl,h2⟩,by rw[<- em];exact Nat.lt_of_le_of_lt ((gp ⟨N,s2,M,rfl,h2⟩).2 N ⟨s2,M,rfl,h2⟩) lt⟩
  cases I with
  |done hd =>
   rcases hd with hd|hd
   ·rw[hd]at q;cases q
   rw[hd]at q;simp at q
  |@step s s2 s3 m hc j hr2 =>
   obtain⟨ts,j⟩:=j;obtain⟨x,ex⟩:∃x,s.tasks=ts++[x]:=by rcases j with⟨b,et,j⟩|⟨b,et,j⟩|⟨b,et,j⟩|⟨b,et,j⟩|⟨b,et,j⟩|⟨et,j⟩ <;> exact⟨_,et⟩
   refine yw (λL=>L=[q_ (msD C fns most {s with tasks:=ts}),q_ x]) ?_ ?_
   ·unfold msD;rw[ex];refine⟨_,_,rfl,rfl,_,_,x,rfl,rfl,?_,?_⟩
    ·rw[zLa];show(ts++[x])[ts.length+1-1]?=_;rw[Nat.add_sub_cancel,List.getElem?_append_right (zaj _),Nat.sub_self];rfl
    rw[List.dropLast_concat];rfl
   rintro _ rfl;rw[ex]at j;rcases j with⟨b,et,j⟩|⟨b,et,j⟩|⟨b,et,j⟩|⟨b,et,j⟩|⟨b,et,j⟩|⟨et,j⟩ <;> cases tl1 et
   ·exact zu true (λ_=>cs) (λ_=>⟨_,rfl,trivial,rfl,j _ (B s2 _ _ hr2 (Nat.lt_succ_self _))⟩) nofun
   ·exact zu false (λ_=>cs) nofun λ_=>zu true (λ_=>cs) (λ_=>⟨_,rfl,trivial,rfl,j _ (B s2 _ _ hr2 (Nat.lt_succ_self _))⟩) nofun
   ·exact zu false (λ_=>cs) nofun λ_=>zu false (λ_=>cs) nofun λ_=>zu true (λ_=>cs) (λ_=>⟨_,rfl,trivial,rfl,j _ (B s2 _ _ hr2 (Nat.lt_succ_self _))⟩) nofun
   ·exact zu false (λ_=>cs) nofun λ_=>zu false (λ_=>cs) nofun λ_=>zu false (λ_=>cs) nofun λ_=>zu true (λ_=>cs) (λ_=>⟨_,rfl,trivial,rfl,j _ (B s2 _ _ hr2 (Nat.lt_succ_self _))⟩) nofun
   ·exact zu false (λ_=>cs) nofun λ_=>zu false (λ_=>cs) nofun λ_=>zu false (λ_=>cs) nofun λ_=>zu false (λ_=>cs) nofun λ_=>zu true (λ_=>cs) (λ_=>⟨_,rfl,trivial,rfl,j _ (B s2 _ _ hr2 (Nat.lt_succ_self _))⟩) nofun
   exact zu false (λ_=>cs) nofun λ_=>zu false (λ_=>cs) nofun λ_=>zu false (λ_=>cs) nofun λ_=>zu false (λ_=>cs) nofun λ_=>zu false (λ_=>cs) nofun λ_=>⟨_,rfl,rfl,j _ (B s2 _ _ hr2 (Nat.lt_succ_self _))⟩
 refine⟨_,rfl,?_⟩;cases I with
 |done hd=>exact h
 |@step s s2 s3 m hc j hr2 =>
  obtain⟨ts,j⟩:=j;have ne:s.tasks≠[]:=by
   rcases j with⟨b,et,j⟩|⟨b,et,j⟩|⟨b,et,j⟩|⟨b,et,j⟩|⟨b,et,j⟩|⟨et,j⟩
   all_goals
    rw[et];simp
  rw[hc]at q;cases e:s.tasks with
  |nil=>exact absurd e ne
  |cons x y=>rw[e]at q;cases q
def ms0:MS:={calls:=[],steps:=[],frames:=[],tasks:=[],ready:=[],cut:=false}
def Hi(C:Addr):FTQ:=λd ds U=>∃fns:List (Str×D),∃most,d=.ob C [] []/\ds=[.tup (fns.map Prod.snd),.int most]/\fns.length<=100/\(fns.map Prod.fst).Nodup/\zp (fns.map Prod.snd)/\(∀p∈fns,∃r,p.2=.tup (.str p.1::r))/\U .non (msD C fns most ms0)
def Hg(C:Addr):FTR:=λd ds U=>∃fns most s,d=msD C fns most s/\ds=[] /\
 ((s.cut=true/\U (.tup [.bl false,.non,.lst s.calls,.lst s.steps]))\/(s.cut=false/\∃v r,s.ready=v::r/\zl v/\U (.tup [.bl true,v,.lst s.calls,.lst s.steps])))
def Ei(T:Tops mg)(O:CO K C zh)(F:Fun K "__init__" "Run.__init__" (mth 0) f fd)(hm:Meth K C "__init__" f):FM P w K mg base 2 C zh "__init__" ["self","program","most"] (Hi C):=by
 have S:zj ["self","program","most"] ["self","program","most"] (zb (mth 0)):=by walk_at "f"
 refine sj F S (F.binds λ_ _ _ _ _ _ us hl=>(by obtain⟨_,_,_,rfl⟩:=rf hl;rfl)) hm (by decide) λqZ A outer s H E d0 ds U hr hl hT=>?_
 have hu:=hr.units;refine⟨_,(yf (xg (t7 O.cl (O.na _ (by decide)) ya (yq (K6 T.dict (z9 (wb (T:=["function"]) (F:=[]) (js:=[]) (wo (z0 1)) (show y8 (zb (mth 0)) _ ["function"] [] from by walk_at "c") .nil (by decide) (by walk_at "t") (yo (by decide)) (yj 0) (λcl C fp s H=>xp) (λcl C fp s H=>(zn (z9 (ze hu (z0 0) zc) (z9 (z0 0) za))))) za)))))
   (yf (xg (t7 O.cl (O.na _ (by decide)) ya (yq (z0 2))))
   (yf (xg (t7 O.cl (O.na _ (by decide)) ya (yq (yu za))))
   (yf (xg (t7 O.cl (O.na _ (by decide)) ya (yq (yu za))))
   (yf (xg (t7 O.cl (O.na _ (by decide)) ya (yq (yu za))))
   (yf (xg (t7 O.cl (O.na _ (by decide)) ya (yq (yu za))))
   (yf (xg (t7 O.cl (O.na _ (by decide)) ya (yq (yu za))))
   (zx (xg (t7 O.cl (O.na _ (by decide)) ya (yq uu))))))))))),?_⟩
 obtain⟨fns,most,rfl,rfl,hl1,nd,M,B,h⟩:=hT;refine yw (λL=>L=[q_ (.ob C ["functions"] [dkD fns]),q_ (.tup (fns.map Prod.snd)),q_ (.int most)]) ?_ ?_
 ·simp only[Gi,fE2,dCB,Kn,aNil];refine yp (fns.map Prod.snd) ?_ (λd=>match d with|.tup (.str z::r)=>some (.tup [.str z,.tup (.str z::r)])|_=>none) (by rw[zLm];omega) ?_ ?_
  ·intro N j;exact⟨trivial,j⟩
  ·intro d hd;obtain⟨y,Z,rfl⟩:=zah.mp hd;obtain⟨r,I⟩:=B y Z;rw[I];unfold ρ0;walk_at "dl"
  have ef:(fns.map Prod.snd).filterMap (λd=>match d with|.tup (.str z::r)=>some (D.tup [.str z,.tup (.str z::r)])|_=>none)=P4 (fns.map λp=>Sum.inr p.1) (fns.map Prod.snd):=by
   clear hl1 nd M h hl
   induction fns with
   |nil=>rfl
   |cons p fns ih =>
    obtain⟨r,I⟩:=B p zao;simp only[List.map_cons,List.filterMap_cons,I];rw[ih λq hq=>B q (zal _ hq)];rfl
  rw[ef];refine⟨_,_,rfl,by rw[zLm,zLm],?_,M,_,[],[],rfl,rfl,by simp,by simp,rfl⟩
  rw[show(fns.map λp=>(Sum.inr p.1:Key))=(fns.map Prod.fst).map Sum.inr from by rw[List.map_map];rfl]
  exact List.Pairwise.map _ (λa b h e=>h (Sum.inr.inj e)) nd
 rintro _ rfl;refine yw (λL=>L=[q_ (.ob C ["functions","most"] [dkD fns,.int most]),q_ (.tup (fns.map Prod.snd)),q_ (.int most)]) ?_ ?_
 ·exact⟨trivial,_,_,_,rfl,rfl,by decide,by decide,rfl⟩
 rintro _ rfl;refine yw (λL=>L=[q_ (.ob C ["functions","most","calls"] [dkD fns,.int most,.lst []]),q_ (.tup (fns.map Prod.snd)),q_ (.int most)]) ?_ ?_
 ·exact⟨rfl,rfl,trivial,_,_,_,rfl,rfl,by decide,by decide,rfl⟩
 rintro _ rfl;refine yw (λL=>L=[q_ (.ob C ["functions","most","calls","steps"] [dkD fns,.int most,.lst [],.lst []]),q_ (.tup (fns.map Prod.snd)),q_ (.int most)]) ?_ ?_
 ·exact⟨rfl,rfl,trivial,_,_,_,rfl,rfl,by decide,by decide,rfl⟩
 rintro _ rfl;refine yw (λL=>L=[q_ (.ob C ["functions","most","calls","steps","frames"] [dkD fns,.int most,.lst [],.lst [],.lst []]),q_ (.tup (fns.map Prod.snd)),q_ (.int most)]) ?_ ?_
 ·exact⟨rfl,rfl,trivial,_,_,_,rfl,rfl,by decide,by decide,rfl⟩
 rintro _ rfl;refine yw (λL=>L=[q_ (.ob C ["functions","most","calls","steps","frames","tasks"] [dkD fns,.int most,.lst [],.lst [],.lst [],.lst []]),q_ (.tup (fns.map Prod.snd)),q_ (.int most)]) ?_ ?_
 ·exact⟨rfl,rfl,trivial,_,_,_,rfl,rfl,by decide,by decide,rfl⟩
 rintro _ rfl;refine yw (λL=>L=[q_ (.ob C ["functions","most","calls","steps","frames","tasks","ready"] [dkD fns,.int most,.lst [],.lst [],.lst [],.lst [],.lst []]),q_ (.tup (fns.map Prod.snd)),q_ (.int most)]) ?_ ?_
 ·exact⟨rfl,rfl,trivial,_,_,_,rfl,rfl,by decide,by decide,rfl⟩
 rintro _ rfl;refine⟨λL=>∃d',slot L 0=q_ d'/\U .non d',?_,λ_ y=>y⟩;exact⟨trivial,_,_,_,rfl,rfl,by decide,by decide,_,rfl,h⟩
def Li(T:Tops mg)(O:CO K C zh)(F:Fun K "told" "Run.told" (mth 1) f fd)(B:Meth K C "told" f):FMR P w K mg base 1 C zh "told" ["self"] (Hg C):=by
 have S:zj ["self"] ["self"] (zb (mth 1)):=by walk_at "f"
 refine Am F S (F.binds λ_ _ _ _ _ _ us hl=>(by obtain⟨_,rfl⟩:=j8 hl;rfl)) B (by decide) λqZ A outer s H E M ds U hr hl hT=>?_
 have hu:=hr.units;refine⟨_,(Ga (z0n (u1 (xr (vf O (z0 0)))) (J7 (Qs (Jt (u6 (Ly uu) (u6 (Ly sy) (u6 (ji (yy O ya)) (u6 (ji (yy O ya)) Om))))))) Dw)
    (J7 (Qs (Jt (u6 (Ly uu) (u6 (Ly (ze hu (vf O (z0 0)) zc)) (u6 (ji (yy O ya)) (u6 (ji (yy O ya)) Om)))))))),?_⟩
 obtain⟨fns,most,ms,rfl,rfl,h⟩:=hT;unfold msD;walk_at "dl";rcases h with⟨j,h⟩|⟨j,v,r,I,q,h⟩
 ·exact⟨λ_=>⟨_,_,rfl,rfl,_,_,rfl,rfl,_,_,rfl,rfl,_,_,rfl,rfl,h⟩,λz=>absurd z (by rw[j];decide)⟩
 rw[I];simp only[at_0];exact⟨λz=>absurd z (by rw[j];decide),λ_=>⟨q,_,_,rfl,rfl,_,_,rfl,rfl,_,_,rfl,rfl,_,_,rfl,rfl,h⟩⟩
variable{fns:List (Str×D)}{most:Int}{P:MS->Prop}{n:Int}
def Fin(C:Addr)(R:Str->D->Int->Prop)(fns:List (Str×D))(most:Int)(P:MS->Prop)(s:MS):Prop:=∃n s1,RunN C R fns most n s s1/\P s1
def yc{s s1:MS}(j:s.cut=false)(m:Mv C R fns most s s1)(h:Fin C R fns most P s1):Fin C R fns most P s:=by
 obtain⟨n,s2,r,p⟩:=h;exact⟨n+1,s2,.step j m r,p⟩
def xk{s:MS}(h:s.tasks=[]\/s.cut=true)(p:P s):Fin C R fns most P s:=⟨0,s,.done h,p⟩
def stt(cl st:List D)(fs:List (Int×List (Str×D)))(ts rs:List D):MS:={calls:=cl,steps:=st,frames:=fs,tasks:=ts,ready:=rs,cut:=false}
def stp(n:Int)(k:Str):D:=.tup [.int n,.str k]
def Yh(most:Int)(P:MS->Prop)(cl X:List D):Prop:=most<=X.length->∀s1:MS,s1.cut=true->s1.calls=cl->s1.steps=X->P s1
def wj{s:MS}{k:Str}(q:most<=s.steps.length):yx most n k s=(false,{s with cut:=true}):=by unfold yx;rw[if_pos q]
def wy{s:MS}{k:Str}(q:¬ most<=s.steps.length):yx most n k s=(true,{s with steps:=s.steps++[.tup [.int n,.str k]]}):=by unfold yx;rw[if_neg q]
def Sm1(cl st ts rs:List D):Prop:=cl.length+st.length+ts.length+rs.length<=9000/\zp rs
def Si{a b:List D}:zp (a++b) ↔ zp a/\zp b:=by
 rw[yg,yg,yg];simp only[zas];exact⟨λh=>⟨λd x=>h d (.inl x),λd x=>h d (.inr x)⟩,λh d x=>x.elim (h.1 d) (h.2 d)⟩
def prs1{rs:List D}{a:D}(p:zp rs)(j:zl a):zp (rs++[a]):=Si.mpr ⟨p,j,trivial⟩
variable{cl st ts rs:List D}{fs:List (Int×List (Str×D))}{rows:List (Str×D)}{v e e1 e2 b1 b2:D}{z:Str}
def qb(q:zl e)(h:Fin C R fns most P (stt cl st fs (ts++[vlD e]) rs))(b:Sm1 cl st ts rs:=by walk_at "m"):Fin C R fns most P (stt cl st fs (ts++[bdD (.tup [.str "give",e])]) rs) :=
 yc rfl ⟨ts,.inl ⟨_,rfl,λU j=>⟨fns,most,_,rfl,by have:=b.1;show ts.length<=10000;omega,.inl ⟨e,rfl,q,j⟩⟩⟩⟩ h
def Lq(I:zl e1)(p2:zl e2)(B:zl b1)(q:zl b2)(h:Fin C R fns most P (stt cl st fs (ts++[chD (.tup [.str "less",e1,e2,b1,b2])]++[vlD e2]++[vlD e1]) rs))(b:Sm1 cl st ts rs:=by walk_at "m"):Fin C R fns most P (stt cl st fs (ts++[bdD (.tup [.str "less",e1,e2,b1,b2])]) rs) :=
 yc rfl ⟨ts,.inl ⟨_,rfl,λU j=>⟨fns,most,_,rfl,by have:=b.1;show ts.length<=10000;omega,.inr (.inr (.inl ⟨e1,e2,b1,b2,rfl,I,p2,B,q,j⟩))⟩⟩⟩ (by rw[List.append_assoc (ts++_)]at h;exact h)
def rg(B:rowG rows z=some v)(q:zl v)(h:Fin C R fns most P (stt cl st (fs++[(n,rows)]) ts (rs++[v])))(b:Sm1 cl st ts rs:=by walk_at "m"):Fin C R fns most P (stt cl st (fs++[(n,rows)]) (ts++[vlD (.tup [.str "var",.str z])]) rs) :=
 yc rfl ⟨ts,.inr (.inl ⟨_,rfl,λU j=>⟨fns,most,_,rfl,by have:=b.1;show ts.length<=10000;omega,by have:=b.1;show rs.length<=10000;omega,.inr (.inl ⟨fs,n,rows,z,v,rfl,rfl,B,q,j⟩)⟩⟩)⟩ h
def Ej(h:Fin C R fns most P (stt cl st fs ts (rs++[.tup []])))(b:Sm1 cl st ts rs:=by walk_at "m"):Fin C R fns most P (stt cl st fs (ts++[vlD (.tup [.str "nil"])]) rs) :=
 yc rfl ⟨ts,.inr (.inl ⟨_,rfl,λU j=>⟨fns,most,_,rfl,by have:=b.1;show ts.length<=10000;omega,by have:=b.1;show rs.length<=10000;omega,.inr (.inr (.inl ⟨rfl,j⟩))⟩⟩)⟩ h
def Ls{f:Str}{es:List D}(B:es.length<=100)(q:zp es)(h:Fin C R fns most P (stt cl st fs (ts++[apD (.tup [.str "call",.str f,.tup es])]++es.reverse.map vlD) rs))(b:Sm1 cl st ts rs:=by walk_at "m"):Fin C R fns most P (stt cl st fs (ts++[vlD (.tup [.str "call",.str f,.tup es])]) rs) :=
 yc rfl ⟨ts,.inr (.inl ⟨_,rfl,λU j=>⟨fns,most,_,rfl,by have:=b.1;show ts.length<=10000;omega,by have:=b.1;show rs.length<=10000;omega,.inr (.inr (.inr (.inr (.inl ⟨.str f,es,rfl,B,trivial,q,j⟩))))⟩⟩)⟩ h
def Ao{j:Str}{es:List D}(B:j = "cons"\/j = "node"\/j = "add"\/j = "sub")(M:es.length<=100)(I:zp es)(h:Fin C R fns most P (stt cl st fs (ts++[apD (.tup (.str j::es))]++es.reverse.map vlD) rs))(b:Sm1 cl st ts rs:=by walk_at "m"):Fin C R fns most P (stt cl st fs (ts++[vlD (.tup (.str j::es))]) rs) :=
 yc rfl ⟨ts,.inr (.inl ⟨_,rfl,λU q=>⟨fns,most,_,rfl,by have:=b.1;show ts.length<=10000;omega,by have:=b.1;show rs.length<=10000;omega,.inr (.inr (.inr (.inr (.inr ⟨j,es,rfl,B,M,I,q⟩))))⟩⟩)⟩ h
def Zv{j:Str}(q:j = "cons"\/j = "node"\/j = "add"\/j = "sub")(B:zl e1)(p2:zl e2)(h:Fin C R fns most P (stt cl st fs (ts++[apD (.tup [.str j,e1,e2])]++[vlD e2]++[vlD e1]) rs))(b:Sm1 cl st ts rs:=by walk_at "m"):Fin C R fns most P (stt cl st fs (ts++[vlD (.tup [.str j,e1,e2])]) rs) :=
 Ao q (by simp) ⟨B,p2,trivial⟩ (by rw[List.append_assoc (ts++_)]at h;exact h) b
def Te{x B tn:Str}{l:List D}(I:rowG rows x=some (.tup l))(pl:zp l)(ok:∀ d∈l,okD 39 d)(M:zl b1)(p2:zl b2)(N:rows.length<=900)(nd:(rows.map Prod.fst++[B,tn]).Nodup)(Z:Yh most P cl st)(h0:¬ most<=st.length->l=[]->Fin C R fns most P (stt cl (st++[stp n "open"]) (fs++[(n,rows)]) (ts++[bdD b1]) rs))(h1:¬ most<=st.length->∀ v r,l=v::r->Fin C R fns most P (stt cl (st++[stp n "open"]) (fs++[(n,rows++[(B,v),(tn,.tup r)])]) (ts++[bdD b2]) rs))(b:Sm1 cl st ts rs:=by walk_at "m") :
  Fin C R fns most P (stt cl st (fs++[(n,rows)]) (ts++[bdD (.tup [.str "list",.str x,b1,.str B,.str tn,b2])]) rs):=by
 have bb:=b.1;by_cases q:most<=st.length
 ·refine yc (s1:={calls:=cl,steps:=st,frames:=fs++[(n,rows)],tasks:=ts,ready:=rs,cut:=true}) rfl ⟨ts,.inl ⟨_,rfl,λU j=>⟨fns,most,_,rfl,by show ts.length<=10000;omega,.inr (.inr (.inr ⟨"list",x,_,fs,n,rows,.tup l,rfl,.inl rfl,rfl,by show st.length<=10000;omega,I,pl,?_⟩))⟩⟩⟩ (xk (.inr rfl) (Z q _ rfl rfl rfl))
  rw[wj q];exact j
 cases l with
 |nil =>
  refine yc rfl ⟨ts,.inl ⟨_,rfl,λU j=>⟨fns,most,_,rfl,by show ts.length<=10000;omega,.inr (.inr (.inr ⟨"list",x,_,fs,n,rows,.tup [],rfl,.inl rfl,rfl,by show st.length<=10000;omega,I,pl,?_⟩))⟩⟩⟩ (h0 q rfl)
  rw[wy q];exact⟨fns,most,_,fs,n,rows,"list",x,b1,b2,rfl,rfl,by show ts.length<=10000;omega,M,p2,N,.inl ⟨_,_,rfl,.inr rfl,j⟩⟩
 |cons v r =>
  refine yc rfl ⟨ts,.inl ⟨_,rfl,λU j=>⟨fns,most,_,rfl,by show ts.length<=10000;omega,.inr (.inr (.inr ⟨"list",x,_,fs,n,rows,.tup (v::r),rfl,.inl rfl,rfl,by show st.length<=10000;omega,I,pl,?_⟩))⟩⟩⟩ (h1 q v r rfl)
  rw[wy q];exact⟨fns,most,_,fs,n,rows,"list",x,b1,b2,rfl,rfl,by show ts.length<=10000;omega,M,p2,N,.inr (.inl ⟨B,tn,v,r,rfl,by rw[Fq (by decide)];exact ok,pl.1,pl.2,nd,j⟩)⟩
def Rf{x y:Int}(B:zl b1)(p2:zl b2)(M:Yh most P cl st)(h:¬ most<=st.length->Fin C R fns most P (stt cl (st++[stp n "less"]) (fs++[(n,rows)]) (ts++[bdD (if x<y then b1 else b2)]) rs))(b:Sm1 cl st ts rs:=by walk_at "m") :
  Fin C R fns most P (stt cl st (fs++[(n,rows)]) (ts++[chD (.tup [.str "less",e1,e2,b1,b2])]) (rs++[.int x]++[.int y])):=by
 have N:=b.1;have I:rs++[D.int x]++[D.int y]=rs++[.int x,.int y]:=by simp
 by_cases q:most<=st.length
 ·refine yc (s1:={calls:=cl,steps:=st,frames:=fs++[(n,rows)],tasks:=ts,ready:=rs++[D.int x]++[D.int y],cut:=true}) rfl ⟨ts,.inr (.inr (.inr (.inr (.inl ⟨_,rfl,λU j=>?_⟩))))⟩ (xk (.inr rfl) (M q _ rfl rfl rfl));refine⟨fns,most,_,fs,n,rows,e1,e2,b1,b2,rs,x,y,rfl,rfl,rfl,I,by show st.length<=10000;omega,by show(rs++[D.int x]++[D.int y]).length<=10000;simp;omega,by show ts.length<=10000;omega,B,p2,b.2,?_⟩
  rw[wj q];exact j
 refine yc rfl ⟨ts,.inr (.inr (.inr (.inr (.inl ⟨_,rfl,λU j=>?_⟩))))⟩ (h q);refine⟨fns,most,_,fs,n,rows,e1,e2,b1,b2,rs,x,y,rfl,rfl,rfl,I,by show st.length<=10000;omega,by show(rs++[D.int x]++[D.int y]).length<=10000;simp;omega,by show ts.length<=10000;omega,B,p2,b.2,?_⟩
 rw[wy q];exact j
def Lr{r:List D}{sz:Int}(B:zl v)(pr:zp r)(br:r.length<=1000)(N:R "list" (.tup (v::r)) sz)(M:Yh most P cl st)(I:100<sz->∀ s1:MS,s1.cut=true->s1.calls=cl->s1.steps=st->P s1)(h:¬ most<=st.length->¬ 100<sz->Fin C R fns most P (stt cl (st++[stp n "make"]) (fs++[(n,rows)]) ts (rs++[.tup (v::r)])))(b:Sm1 cl st ts rs:=by walk_at "m") :
  Fin C R fns most P (stt cl st (fs++[(n,rows)]) (ts++[apD (.tup [.str "cons",e1,e2])]) (rs++[v]++[.tup r])):=by
 have bb:=b.1;have Z:rs++[v]++[D.tup r]=rs++[v,.tup r]:=by simp
 have go:∀s1:MS,(∀U:D->D->Prop,U .non (msD C fns most s1)->U .non (msD C fns most (if 100<sz then {calls:=cl,steps:=st,frames:=fs++[(n,rows)],tasks:=ts,ready:=rs,cut:=true} else match yx most n "make" {calls:=cl,steps:=st,frames:=fs++[(n,rows)],tasks:=ts,ready:=rs,cut:=false} with
  |(true,s')=>{s' with ready:=rs++[.tup (v::r)]}
  | (false,s')=>s')))->Mv C R fns most (stt cl st (fs++[(n,rows)]) (ts++[apD (.tup [.str "cons",e1,e2])]) (rs++[v]++[.tup r])) s1:=λs1 hs=>by
  refine⟨ts,.inr (.inr (.inl ⟨_,rfl,λU j=>?_⟩))⟩;refine⟨fns,most,_,rs,rfl,by show(rs++[v]++[D.tup r]).length<=10000;simp;omega,b.2,.inr (.inl ⟨e1,e2,v,r,rfl,Z,B,pr,by omega,?_⟩)⟩
  exact⟨fns,most,_,fs,n,rows,"list",.tup (v::r),sz,rfl,rfl,rfl,by show st.length<=10000;omega,by show rs.length<=10000;omega,⟨B,pr⟩,N,hs U j⟩
 by_cases z:100<sz
 ·refine yc rfl (go {calls:=cl,steps:=st,frames:=fs++[(n,rows)],tasks:=ts,ready:=rs,cut:=true} λU j=>?_) (xk (.inr rfl) (I z _ rfl rfl rfl));rw[if_pos z];exact j
 by_cases q:most<=st.length
 ·refine yc rfl (go {calls:=cl,steps:=st,frames:=fs++[(n,rows)],tasks:=ts,ready:=rs,cut:=true} λU j=>?_) (xk (.inr rfl) (M q _ rfl rfl rfl));rw[if_neg z,wj q];exact j
 refine yc rfl (go _ λU j=>?_) (h q z);rw[if_neg z,wy q];exact j
def qe{f:Str}{es us:List D}{n0 sz I:D}{ps:List (Str×D)}(hf:rowG fns f=some (.tup [n0,pmD ps,sz,I]))(le:us.length=es.length)(ne:us≠[])(B:us.length<=10)(M:zp us)(p0:zl n0)(Z:zp (ps.map Prod.snd))(N:zl sz)(pb:zl I)(lp:ps.length=us.length)(nd:(ps.map Prod.fst).Nodup)(hd:20<=fs.length->∀ s1:MS,s1.cut=true->s1.calls=cl->s1.steps=st->P s1)(hc:Yh most P cl st)(h:¬ most<=st.length->¬ 20<=fs.length->Fin C R fns most P (stt (cl++[.tup [.str f,.tup us,upD fs,.bl false,.non]]) (st++[stp cl.length "call"]) (fs++[((cl.length:Int),(ps.map Prod.fst).zip us)]) (ts++[.tup [.str "leave"]]++[bdD I]) rs))(b:Sm1 cl st ts rs:=by walk_at "m") :
  Fin C R fns most P (stt cl st fs (ts++[apD (.tup [.str "call",.str f,.tup es])]) (rs++us)):=by
 have b1:=b.1;have go:∀s1:MS,(∀U:D->D->Prop,U .non (msD C fns most s1)->U .non (msD C fns most (u7 most f us ps I (stt cl st fs ts rs))))->Mv C R fns most (stt cl st fs (ts++[apD (.tup [.str "call",.str f,.tup es])]) (rs++us)) s1:=λs1 hs=>by
  refine⟨ts,.inr (.inr (.inl ⟨_,rfl,λU j=>?_⟩))⟩;refine⟨fns,most,_,rs,rfl,by show(rs++us).length<=10000;simp;omega,b.2,.inl ⟨f,es,us,rfl,rfl,le,ne,B,M,?_⟩⟩
  exact⟨fns,most,_,f,us,n0,ps,sz,I,rfl,rfl,hf,p0,Z,N,pb,M,lp,B,nd,by show st.length<=10000;omega,by show cl.length<=10000;omega,by show ts.length<=10000;omega,hs U j⟩
 by_cases z:20<=fs.length
 ·refine yc rfl (go {calls:=cl,steps:=st,frames:=fs,tasks:=ts,ready:=rs,cut:=true} λU j=>?_) (xk (.inr rfl) (hd z _ rfl rfl rfl));unfold u7;rw[if_pos (show 20<=(stt cl st fs ts rs).frames.length from z)];exact j
 by_cases q:most<=st.length
 ·refine yc rfl (go {calls:=cl,steps:=st,frames:=fs,tasks:=ts,ready:=rs,cut:=true} λU j=>?_) (xk (.inr rfl) (hc q _ rfl rfl rfl));unfold u7;rw[if_neg (show ¬ 20<=(stt cl st fs ts rs).frames.length from z),wj q];exact j
 refine yc rfl (go _ λU j=>?_) (h q z);unfold u7;rw[if_neg (show ¬ 20<=(stt cl st fs ts rs).frames.length from z),wy q];exact j
def Oi{m:Nat}{M j I:D}{q B:List D}(lc:q.length=m)(p1:zl M)(p2:zl j)(p3:zl I)(Z:zl v)(h:Fin C R fns most P (stt (q++[.tup [M,j,I,.bl true,v]]++B) st fs ts (rs++[v]))) :
  Fin C R fns most P (stt (q++[.tup [M,j,I,.bl false,.non]]++B) st (fs++[((m:Int),rows)]) (ts++[.tup [.str "leave"]]) (rs++[v])) :=
 yc rfl ⟨ts,.inr (.inr (.inr (.inr (.inr ⟨rfl,λU N=>⟨fns,most,_,fs,m,rows,M,j,I,rs,v,q,B,rfl,rfl,rfl,rfl,Z,rfl,lc,p1,p2,p3,N⟩⟩))))⟩ h
def Zw{i:Int}(h:Fin C R fns most P (stt cl st fs ts (rs++[.int i])))(b:Sm1 cl st ts rs:=by walk_at "m"):Fin C R fns most P (stt cl st fs (ts++[vlD (.tup [.str "num",.int i])]) rs) :=
 yc rfl ⟨ts,.inr (.inl ⟨_,rfl,λU j=>⟨fns,most,_,rfl,by have:=b.1;show ts.length<=10000;omega,by have:=b.1;show rs.length<=10000;omega,.inl ⟨_,rfl,trivial,j⟩⟩⟩)⟩ h
def Lu{z:Str}(q:zl e)(B:zl b1)(h:Fin C R fns most P (stt cl st fs (ts++[brD (.tup [.str "let",.str z,e,b1])]++[vlD e]) rs))(b:Sm1 cl st ts rs:=by walk_at "m"):Fin C R fns most P (stt cl st fs (ts++[bdD (.tup [.str "let",.str z,e,b1])]) rs) :=
 yc rfl ⟨ts,.inl ⟨_,rfl,λU j=>⟨fns,most,_,rfl,by have:=b.1;show ts.length<=10000;omega,.inr (.inl ⟨.str z,e,b1,rfl,trivial,q,B,j⟩)⟩⟩⟩ h
def Vj{k:Str}{x y:Int}(I:k = "add"\/k = "sub")(N:Yh most P cl st)(h:¬ most<=st.length->Fin C R fns most P (stt cl (st++[stp n "sum"]) (fs++[(n,rows)]) ts (rs++[.int (if k = "add" then x+y else x-y)])))(b:Sm1 cl st ts rs:=by walk_at "m") :
  Fin C R fns most P (stt cl st (fs++[(n,rows)]) (ts++[apD (.tup [.str k,e1,e2])]) (rs++[.int x]++[.int y])):=by
 have Z:=b.1;have M:rs++[D.int x]++[D.int y]=rs++[.int x,.int y]:=by simp
 have B:(rs++[D.int x]++[D.int y]).length<=10000:=by simp;omega
 by_cases q:most<=st.length
 ·refine yc (s1:={calls:=cl,steps:=st,frames:=fs++[(n,rows)],tasks:=ts,ready:=rs++[.int x]++[.int y],cut:=true}) rfl ⟨ts,.inr (.inr (.inl ⟨_,rfl,λU j=>⟨fns,most,_,rs,rfl,B,b.2,.inr (.inr (.inr ⟨k,e1,e2,x,y,fs,n,rows,rfl,I,rfl,by show st.length<=10000;omega,M,?_⟩))⟩⟩))⟩ (xk (.inr rfl) (N q _ rfl rfl rfl))
  rw[wj q];exact j
 refine yc rfl ⟨ts,.inr (.inr (.inl ⟨_,rfl,λU j=>⟨fns,most,_,rs,rfl,B,b.2,.inr (.inr (.inr ⟨k,e1,e2,x,y,fs,n,rows,rfl,I,rfl,by show st.length<=10000;omega,M,?_⟩))⟩⟩))⟩ (h q)
 rw[wy q];exact j
def Oj{z:Str}(I:zl e)(M:zl b1)(B:zl v)(Z:rows.length<=900)(nd:(rows.map Prod.fst++[z]).Nodup)(hc:Yh most P cl st)(h:¬ most<=st.length->Fin C R fns most P (stt cl (st++[stp n "let"]) (fs++[(n,rows++[(z,v)])]) (ts++[bdD b1]) rs))(b:Sm1 cl st ts rs:=by walk_at "m") :
  Fin C R fns most P (stt cl st (fs++[(n,rows)]) (ts++[brD (.tup [.str "let",.str z,e,b1])]) (rs++[v])):=by
 have bb:=b.1;have N:(rs++[v]).length<=10000:=by simp;omega
 by_cases q:most<=st.length
 ·refine yc (s1:={calls:=cl,steps:=st,frames:=fs++[(n,rows)],tasks:=ts,ready:=rs++[v],cut:=true}) rfl ⟨ts,.inr (.inr (.inr (.inl ⟨_,rfl,λU j=>⟨fns,most,_,fs,n,rows,z,e,b1,rs,v,rfl,rfl,rfl,rfl,by show st.length<=10000;omega,N,by show ts.length<=10000;omega,I,M,B,b.2,Z,nd,?_⟩⟩)))⟩ (xk (.inr rfl) (hc q _ rfl rfl rfl))
  rw[wj q];exact j
 refine yc rfl ⟨ts,.inr (.inr (.inr (.inl ⟨_,rfl,λU j=>⟨fns,most,_,fs,n,rows,z,e,b1,rs,v,rfl,rfl,rfl,rfl,by show st.length<=10000;omega,N,by show ts.length<=10000;omega,I,M,B,b.2,Z,nd,?_⟩⟩)))⟩ (h q)
 rw[wy q];exact j
def qf{f:Str}(j:zl e1)(h:Fin C R fns most P (stt cl st fs (ts++[apD (.tup [.str "call",.str f,.tup [e1]])]++[vlD e1]) rs))(b:Sm1 cl st ts rs:=by walk_at "m"):Fin C R fns most P (stt cl st fs (ts++[vlD (.tup [.str "call",.str f,.tup [e1]])]) rs) :=
 Ls (by simp) ⟨j,trivial⟩ h b
def Oh{x l m r:Str}(B:rowG rows x=some .non)(I:zl b1)(p2:zl b2)(N:rows.length<=900)(M:Yh most P cl st)(h0:¬ most<=st.length->Fin C R fns most P (stt cl (st++[stp n "open"]) (fs++[(n,rows)]) (ts++[bdD b1]) rs))(b:Sm1 cl st ts rs:=by walk_at "m") :
  Fin C R fns most P (stt cl st (fs++[(n,rows)]) (ts++[bdD (.tup [.str "tree",.str x,b1,.str l,.str m,.str r,b2])]) rs):=by
 have Z:=b.1;by_cases q:most<=st.length
 ·refine yc (s1:={calls:=cl,steps:=st,frames:=fs++[(n,rows)],tasks:=ts,ready:=rs,cut:=true}) rfl ⟨ts,.inl ⟨_,rfl,λU j=>⟨fns,most,_,rfl,by show ts.length<=10000;omega,.inr (.inr (.inr ⟨"tree",x,_,fs,n,rows,.non,rfl,.inr rfl,rfl,by show st.length<=10000;omega,B,trivial,?_⟩))⟩⟩⟩ (xk (.inr rfl) (M q _ rfl rfl rfl))
  rw[wj q];exact j
 refine yc rfl ⟨ts,.inl ⟨_,rfl,λU j=>⟨fns,most,_,rfl,by show ts.length<=10000;omega,.inr (.inr (.inr ⟨"tree",x,_,fs,n,rows,.non,rfl,.inr rfl,rfl,by show st.length<=10000;omega,B,trivial,?_⟩))⟩⟩⟩ (h0 q)
 rw[wy q];exact⟨fns,most,_,fs,n,rows,"tree",x,b1,b2,rfl,rfl,by show ts.length<=10000;omega,I,p2,N,.inl ⟨_,_,rfl,.inl rfl,j⟩⟩
def Og{x l m r:Str}{v1 v2 v3:D}(B:rowG rows x=some (.tup [v1,v2,v3]))(pl:zp [v1,v2,v3])(ok:okD 40 (.tup [v1,v2,v3]))(I:zl b1)(p2:zl b2)(N:rows.length<=900)(nd:(rows.map Prod.fst++[l,m,r]).Nodup)(M:Yh most P cl st)(h1:¬ most<=st.length->Fin C R fns most P (stt cl (st++[stp n "open"]) (fs++[(n,rows++[(l,v1),(m,v2),(r,v3)])]) (ts++[bdD b2]) rs))(b:Sm1 cl st ts rs:=by walk_at "m") :
  Fin C R fns most P (stt cl st (fs++[(n,rows)]) (ts++[bdD (.tup [.str "tree",.str x,b1,.str l,.str m,.str r,b2])]) rs):=by
 have Z:=b.1;by_cases q:most<=st.length
 ·refine yc (s1:={calls:=cl,steps:=st,frames:=fs++[(n,rows)],tasks:=ts,ready:=rs,cut:=true}) rfl ⟨ts,.inl ⟨_,rfl,λU j=>⟨fns,most,_,rfl,by show ts.length<=10000;omega,.inr (.inr (.inr ⟨"tree",x,_,fs,n,rows,.tup [v1,v2,v3],rfl,.inr rfl,rfl,by show st.length<=10000;omega,B,pl,?_⟩))⟩⟩⟩ (xk (.inr rfl) (M q _ rfl rfl rfl))
  rw[wj q];exact j
 refine yc rfl ⟨ts,.inl ⟨_,rfl,λU j=>⟨fns,most,_,rfl,by show ts.length<=10000;omega,.inr (.inr (.inr ⟨"tree",x,_,fs,n,rows,.tup [v1,v2,v3],rfl,.inr rfl,rfl,by show st.length<=10000;omega,B,pl,?_⟩))⟩⟩⟩ (h1 q)
 rw[wy q];exact⟨fns,most,_,fs,n,rows,"tree",x,b1,b2,rfl,rfl,by show ts.length<=10000;omega,I,p2,N,.inr (.inr ⟨l,m,r,v1,v2,v3,rfl,ok,pl.1,pl.2.1,pl.2.2.1,nd,j⟩)⟩
variable{P:Program}
def yn{t u:TDS}{L:DE}{Z:DZ}(h:t L {Z with nx:=λρ'=>u ρ' Z}):sSeq t u L Z:=h
def wk{t u:TDS}{L ρ':DE}{Z:DZ}(e:L=ρ')(h:sSeq t u ρ' Z):sSeq t u L Z:=e▸h
def yb{i:Nat}{te:TD}{u:TDS}{L:DE}{Z:DZ}(h:te L λr=>(match r.k with|.own=>False|_=>True)/\u (setS L i r.sto) Z):sSeq (sSet i te) u L Z:=h
def jf{i:Nat}{te:TD}{L:DE}{Z:DZ}(ds:List D)(e:slot L i=Q_ (.lst ds))(h:te L λr=>∃ gs,r=df (.lst gs)/\gs.length<=1000/\ds.length<=100000/\Z.nx (setS L i (dO (.lst (ds++gs))))):Qj i te L Z:=by
 unfold Qj;rw[e];exact h
def dq{i:Nat}{d:D}{L:DE}{N:DE->Prop}(h:N (setS L i (dv d))):gN i d L N:=h
def Y9{te:TD}{L:DE}{U:EV->Prop}(h:te L λr=>sSum [r.d] U):dCB sSum (Kn te aNil) L U:=h
def Ht{tc:TDb}{q j:TDS}{L:DE}{Z:DZ}(b:Bool)(h:∀ N:Bool->Prop,N b->tc L N)(h1:b=true->q L Z)(h2:b=false->j L Z):sIf tc q j L Z:=h _ ⟨h1,h2⟩
def qv{L:DE}{Z:DZ}(h:Z.nx L):sNil L Z:=h
def z0c{tc:TDb}{ta tb:TD}{L:DE}{U:EV->Prop}(b:Bool)(r:EV)(h:∀ N:Bool->Prop,N b->tc L N)(h1:b=true->∀ N:EV->Prop,N r->ta L N)(h2:b=false->∀ N:EV->Prop,N r->tb L N)(k:U r):vIf tc ta tb L U:=h _ ⟨λz=>h1 z _ k,λz=>h2 z _ k⟩
theorem rz{α j:Type}(f:α->j):∀l:List α,l.filterMap (λx=>some (f x))=l.map f
 |[]=>rfl
 |a::l=>by rw[List.filterMap_cons];show f a::l.filterMap _=_;rw[rz f l];rfl
theorem wa{α j:Type}{f:α->List j}{n:Nat}:∀l:List α,(∀a∈l,(f a).length<=n)->(l.flatMap f).length<=n*l.length
 |[],_=>by simp
 |a::l,h=>by
  rw[List.flatMap_cons,zLa,zLc,Nat.mul_succ];have h1:=wa l λb q=>h b (zal _ q);have h2:=h a zao;omega
def xm(j:List D)(ns:List Int)(rs:List D):List D:=j.flatMap λl=>ns.flatMap λn=>rs.map λr=>.tup [l,.int n,r]
def Sg{q rs:List D}{ns:List Int}(pl:zp q)(pr:zp rs):zp (xm q ns rs):=yg.mpr λd j=>by
 unfold xm at j;obtain⟨l,hl,j⟩:=List.mem_flatMap.mp j;obtain⟨n,_,j⟩:=List.mem_flatMap.mp j;obtain⟨r,hr,rfl⟩:=zah.mp j;exact⟨yg.mp pl l hl,trivial,yg.mp pr r hr,trivial⟩
def Kx:FT:=λds U=>∃(ls rs:List D)(ns:List Int),ds=[.lst ls,.lst (ns.map D.int),.lst rs]/\zp ls/\zp rs/\ls.length<=20/\rs.length<=20/\ns.length<=3/\U (df (.lst (xm ls ns rs)))
def fm1:List Int:=[1,1,2,5]
def Kz:FT:=λds U=>∃n:Nat,ds=[.int n]/\n<=3/\U (dv (.int (fm1.getD n 0)))
def J2:FT:=λds U=>∃(s:Str)(n m:Nat),ds=[.str s,.int n,.int m]/\n<=3/\m<=3/\U (dv (.int (if s = "num" then m else(if s = "tree" then fm1.getD n 0 else 1)*(m:Int) ^ n)))
def Zx(T:Tops mg)(F:Fun K "nodes_over" "nodes_over" (top 35) f fd)(m:mg "nodes_over" = some (.ref f)):FD P w K mg base 1 "nodes_over" ["lefts","numbers","rights"] Kx:=by
 have S:zj ["lefts","numbers","rights","told","left","number"] ["lefts","numbers","rights"] (zb (top 35)):=by walk_at "f"
 walk_at "b";refine⟨_,(zd (y9 3 S.nd (yu za))
   (zd (vm (wo (z0 0)) (zm (i:=4) S.nd rfl (by walk_at "o")) (yj 4) (zk (vm (wo (z0 1)) (zm (i:=5) S.nd rfl (by walk_at "o")) (yj 5) (zk (Z6 3 (wb (T:=["right"]) (F:=["left","number"]) (js:=[4,5]) (wo (z0 2)) (show y8 (zb (top 35)) _ _ _ from by walk_at "c") (.cons rfl (.cons rfl .nil)) (by decide) (by walk_at "t") (yo (by decide)) (yj 0) (λcl C fp s H=>xp) (λcl C fp s H=>(zn (z9 (z0 1) (z9 (z0 2) (z9 (z0 0) za)))))))))))
   (zk (yd (z0 3))))),?_⟩
 obtain⟨q,rs,ns,rfl,pl,pr,l1,l2,l3,h⟩:=hT;refine yb ⟨rfl,rfl,trivial,?_⟩;refine wk (ρ':=[q_ (.lst q),q_ (.lst (ns.map D.int)),q_ (.lst rs),Q_ (.lst (xm (q.take 0) ns rs)),none,none]) (by rfl) (yn ?_)
 refine wq q (λN j=>⟨trivial,j⟩) (λi L=>∃a b,L=[q_ (.lst q),q_ (.lst (ns.map D.int)),q_ (.lst rs),Q_ (.lst (xm (q.take i) ns rs)),a,b]) ⟨none,none,rfl⟩ ?_ ?_
 ·rintro i l _ I ⟨a,b,rfl⟩;refine dq ?_;have hi:=(zag.mp I).1;have lt:(xm (q.take i) ns rs).length<=60*20:=by
   unfold xm;refine zak (wa (n:=60) _ λl _=>?_) (Nat.mul_le_mul_left _ (by rw[List.length_take];omega))
   refine zak (wa (n:=20) _ λn _=>?_) (Nat.mul_le_mul_left 20 l3);rw[zLm];exact l2
  have Z:∀m,((ns.take m).flatMap λn=>rs.map λr=>D.tup [l,.int n,r]).length<=60:=λm=>by
   refine zak (wa (n:=20) (ns.take m) λn _=>?_) (show 20*(ns.take m).length<=60 by rw[List.length_take];omega)
   rw[zLm];exact l2
  refine(show sFor _ _ _ [q_ (.lst q),q_ (.lst (ns.map D.int)),q_ (.lst rs),Q_ (.lst (xm (q.take i) ns rs)),q_ l,b] _ from ?_);refine wq (ns.map D.int) (λN j=>⟨trivial,j⟩) (λm L=>∃b,L=[q_ (.lst q),q_ (.lst (ns.map D.int)),q_ (.lst rs),Q_ (.lst (xm (q.take i) ns rs++(ns.take m).flatMap λn=>rs.map λr=>.tup [l,.int n,r])),q_ l,b]) ⟨b,by simp⟩ ?_ ?_
  ·rintro m d _ B ⟨b,rfl⟩;rw[zai]at B;obtain⟨n,en,rfl⟩:=zar.mp B;refine dq ?_;refine jf _ rfl ?_;have M:zl l:=yg.mp pl l (zan I);refine yp rs (λN j=>⟨trivial,j⟩) (λr=>some (.tup [l,.int n,r])) (by omega) (λr hr=>?_) ⟨rs.map λr=>.tup [l,.int n,r],by rw[rz],by rw[zLm];omega,by rw[zLa];have:=Z m;omega,q_ (.int n),?_⟩
   ·refine⟨λ_=>?_,λz=>(by cases z)⟩
    exact⟨rfl,rfl,trivial,rfl⟩
   rw[List.take_add_one,en,List.flatMap_append,List.append_assoc];simp;rfl
  rintro _ ⟨b,rfl⟩;rw[zLm,List.take_length];refine⟨q_ l,b,?_⟩;unfold xm;rw[List.take_add_one,I,List.flatMap_append];simp
 rintro _ ⟨a,b,rfl⟩;rw[List.take_length];exact⟨Sg pl pr,h⟩
def Vn(T:Tops mg)(F:Fun K "forms_of" "forms_of" (top 31) f fd)(m:mg "forms_of" = some (.ref f)):FD P w K mg base 1 "forms_of" ["size"] Kz:=by
 have S:zj ["size","forms","nodes"] ["size"] (zb (top 31)):=by walk_at "f"
 walk_at "b";refine⟨_,(zd (y9 1 S.nd (yu (z9 zc za)))
   (zd (vm (Xv T.range (z9 zc (z9 (yz (z0 0) zc) za))) (zm (i:=2) S.nd rfl (by walk_at "o")) (yj 2) (zk (jr 1 (Vp T.sum (z9 (wb (T:=["left"]) (F:=["forms","nodes"]) (js:=[1,2]) (uk T.range (z9 (z0 2) za)) (show y8 (zb (top 31)) _ _ _ from by walk_at "c") (.cons rfl (.cons rfl .nil)) (by decide) (by walk_at "t") (yo (by decide)) (yj 0) (λcl C fp s H=>xp) (λcl C fp s H=>(uy (ze hu (z0 1) (z0 0)) (ze hu (z0 1) (ul (ul (z0 2) zc) (z0 0)))))) za)))))
   (zk (yd (ze hu (z0 1) (z0 0)))))),?_⟩
 obtain⟨n,rfl,n3,h⟩:=hT;refine yb ⟨rfl,rfl,trivial,?_⟩;refine wk (ρ':=[q_ (.int n),Q_ (.lst ((fm1.take 1).map D.int)),none]) (by rfl) (yn ?_)
 refine wq (rngD 1 n) (λN j=>?_) (λi L=>∃a,L=[q_ (.int n),Q_ (.lst ((fm1.take (i+1)).map D.int)),a]) ⟨none,rfl⟩ ?_ ?_
 ·walk_at "dl";refine⟨⟨by omega,by omega,by omega,by omega⟩,?_⟩
  rw[show((n:Int)+1-1).toNat=n by omega]
  exact j
 ·rintro i d _ I ⟨a,rfl⟩;obtain⟨hi,rfl⟩:=t6 I;refine dq ?_;refine Ql (ds:=(fm1.take (i+1)).map D.int) rfl ?_;refine Y9 (yp (rngD 0 (i+1)) (λN j=>?_) (λd=>match d with|.int t=>some (.int (fm1.getD t.toNat 0*fm1.getD (i-t.toNat) 0))|_=>none) (by rw[t5];omega) (λd q=>?_) ?_)
  ·walk_at "dl";refine⟨by omega,by omega,?_⟩
   rw[show(1+(i:Int)).toNat=i+1 by omega]
   exact j
  ·obtain⟨t,et⟩:=List.getElem?_of_mem q;obtain⟨M,rfl⟩:=t6 et;have c:(i=0/\t=0)\/(i=1/\t=0)\/(i=1/\t=1)\/(i=2/\t=0)\/(i=2/\t=1)\/(i=2/\t=2):=by omega
   walk_at "p";simp only[zLc,zLn];rcases c with⟨rfl,rfl⟩|⟨rfl,rfl⟩|⟨rfl,rfl⟩|⟨rfl,rfl⟩|⟨rfl,rfl⟩|⟨rfl,rfl⟩ <;> walk_at "dl" <;> simp[atI,ZZ.ixN,fm1]
   all_goals exact IntMulOk.of_left (by decide)
  have B:i=0\/i=1\/i=2:=by omega
  rcases B with rfl|rfl|rfl
  ·exact(show _/\_/\_ from⟨trivial,by decide,_,rfl⟩)
  ·exact(show _/\_/\_ from⟨trivial,by decide,_,rfl⟩)
  exact(show _/\_/\_ from⟨trivial,by decide,_,rfl⟩)
 rintro _ ⟨a,rfl⟩;rw[t5];have e:atI (fm1.take (n+1)) (n:Int)=some (fm1.getD n 0):=by
  have:n=0\/n=1\/n=2\/n=3:=by omega
  rcases this with rfl|rfl|rfl|rfl <;> rfl
 walk_at "dl";rw[e];exact⟨trivial,h⟩
def Vo(T:Tops mg)(q:FD P w K mg base 1 "forms_of" ["size"] Kz)(F:Fun K "count_of" "count_of" (top 30) f fd)(m:mg "count_of" = some (.ref f)):FD P w K mg base 2 "count_of" ["shape","size","many"] J2:=by
 have S:zj ["shape","size","many","counted","place"] ["shape","size","many"] (zb (top 30)):=by walk_at "f"
 walk_at "b";refine⟨_,(zd (xy (wl hu (z0 0) zf) (zk (yd (z0 2))) ym)
   (zd (y9 3 S.nd (qk (wl hu (z0 0) zf) (zy q (hr.e rfl) (z9 (z0 1) za)) zc))
   (zd (vm (uk T.range (z9 (z0 1) za)) (zm (i:=4) S.nd rfl (by walk_at "o")) (yj 4) (zk (Qg 3 S.nd (z0 2))))
   (zk (yd (z0 3)))))),?_⟩
 obtain⟨s,n,m,rfl,n3,m3,h⟩:=hT;refine yn (Ht (s=="num") (λN j=>⟨by simp[okD],by simp[okD],j⟩) (λI=>?_) (λI=>?_))
 ·rw[if_pos (eq_of_beq I)]at h;exact⟨trivial,h⟩
 rw[if_neg (by simpa using I)]at h
 obtain⟨b,eb,hb1⟩:∃b:Int,b=(if s = "tree" then fm1.getD n 0 else 1)/\0<=b/\b<=5:=⟨_,rfl,by
  split
  ·have:n=0\/n=1\/n=2\/n=3:=by omega
   rcases this with rfl|rfl|rfl|rfl <;> decide
  decide⟩
 rw[<- eb]at h;have Z:∀i,i<=3->0<=b*(m:Int) ^ i/\b*(m:Int) ^ i<=5*27:=λi hi=>by
  have e1:(m:Int) ^ i<=27:=by
   have:(m:Nat) ^ i<=3 ^ 3:=zak (Nat.pow_le_pow_left m3 i) (Nat.pow_le_pow_right (by decide) hi)
   exact_mod_cast this
  have M:(0:Int)<=(m:Int) ^ i:=Int.pow_nonneg (Int.natCast_nonneg m);exact⟨Int.mul_nonneg hb1.1 M,Int.mul_le_mul hb1.2 e1 M (by decide)⟩
 refine qv ?_
 dsimp only
 refine yb (z0c (s=="tree") (dv (.int b)) (λN j=>⟨by simp[okD],by simp[okD],j⟩) (λB N j=>?_) (λB N j=>?_) ⟨trivial,?_⟩)
 ·rw[if_pos (eq_of_beq B)]at eb;rw[eb]at j;exact⟨rfl,n,rfl,n3,j⟩
 ·rw[if_neg (by simpa using B)]at eb
  rw[eb]at j;exact j
 refine wk (ρ':=[q_ (.str s),q_ (.int n),q_ (.int m),q_ (.int (b*(m:Int) ^ 0)),none]) (by rw[Int.pow_zero,Int.mul_one];rfl) (yn ?_)
 refine wq (rngD 0 n) (λN j=>⟨by omega,by omega,j⟩) (λi L=>∃a,L=[q_ (.str s),q_ (.int n),q_ (.int m),q_ (.int (b*(m:Int) ^ i)),a]) ⟨none,rfl⟩ ?_ ?_
 ·rintro i d _ hd ⟨a,rfl⟩;obtain⟨hi,rfl⟩:=t6 hd;refine dq ?_;have p:=Z i (by omega)
  have ok:IntMulOk (b*(m:Int) ^ i) m:=z0w (Tu (by omega)) (Tu (by omega))
  have e1:b*(m:Int) ^ i*m=b*(m:Int) ^ (i+1):=by rw[Int.pow_succ,Int.mul_assoc]
  walk_at "dl";rw[e1];exact⟨ok,_,rfl⟩
 rintro _ ⟨a,rfl⟩;rw[t5];exact⟨trivial,h⟩
variable{Fz:D->D->Prop}
inductive Tr where
 |lf:Tr
 |nd:Tr->Int->Tr->Tr
def Tr.d:Tr->D
 |.lf=>.non
 |.nd l v r=>.tup [l.d,.int v,r.d]
def Tr.nodes:Tr->Nat
 |.lf=>0
 |.nd l _ r=>l.nodes+r.nodes+1
theorem Tr.pure:∀t:Tr,zl t.d
 |.lf=>trivial
 |.nd l _ r=>⟨l.pure,trivial,r.pure,trivial⟩
def RT:Str->D->Int->Prop:=λj d n=>(j = "list"/\∃l:List Int,d=.tup (l.map D.int)/\n=l.length)
def Gb{fns:List (Str×D)}{j:Str}{i:Nat}{d:D}(h:∀ p∈fns.take i,p.1≠j)(e:fns[i]?=some (j,d)):rowG fns j=some d:=by
 induction fns generalizing i with
 |nil=>simp at e
 |cons p fns ih =>
  cases i with
  |zero =>
   simp only[List.getElem?_cons_zero,Option.some.injEq]at e;subst e;unfold rowG;simp
  |succ i =>
   have:=h p (by simp)
   have:=ih (i:=i) (λq B=>h q (by simp[B])) (by simpa using e)
   unfold rowG
   simp_all
def M9{fns:List (Str×D)}{nm:Str}{d:D}(e:rowG fns nm=some d):∃p∈fns,p.1=nm:=by
 induction fns with
 |nil=>cases e
 |cons p fns ih =>
  unfold rowG at e;split at e
  ·rename_i q;exact⟨p,by simp,by simp_all⟩
  obtain⟨q,j,e2⟩:=ih e;exact⟨q,by simp[j],e2⟩
def Q7:FT:=λds U=>∃fns:List (Str×D),∃nm fn,ds=[.tup (fns.map Prod.snd),.str nm]/\fns.length<=100/\(∀p∈fns,∃r,p.2=.tup (.str p.1::r))/\rowG fns nm=some fn/\zl fn/\U (dv fn)
def J1(Fz:D->D->Prop):FT:=λds U=>∃s d,ds=[s,d]/\Fz s d/\U (dv (.bl true))
def J3(Fz:D->D->Prop):FT:=λds U=>∃n0 ps sz b as,ds=[.tup [n0,pmD ps,sz,b],.lst as]/\ps.length=as.length/\ps.length<=100/\(∀p∈(ps.map Prod.snd).zip as,Fz p.1 p.2)/\U (dv .non)
def FzT:D->D->Prop:=λs d=>(s=.str "list"/\∃l:List Int,d=.tup (l.map D.int)/\l.length<=1000)\/(s=.str "tree"/\∃t:Tr,d=t.d/\t.nodes<=201)
def Kt:FT:=g1 λd U=>∃t:Tr,d=t.d/\t.nodes<=201/\U (dv (.bl true))
def szD:D->Nat
 |.tup [l,_,r]=>1+szD l+szD r
 |_=>1
def Wo(d:D):1<=szD d:=by
 unfold szD;split <;> omega
def sumZ(ds:List D):Nat:=(ds.map szD).sum
def tm(ds es:List D):sumZ (ds++es)=sumZ ds+sumZ es:=by
 unfold sumZ;simp
theorem Zf:∀(ds:List D),ds.length<=sumZ ds
 |[]=>Nat.zero_le _
 |d::ds=>by
  have:=Zf ds;have:=Wo d;unfold sumZ at *;simp;omega
theorem Tr.sz:∀t:Tr,szD t.d=2*t.nodes+1
 |.lf=>by simp[Tr.d,Tr.nodes,szD]
 |.nd l v r=>by
  have h1:=l.sz;have h2:=r.sz;simp only[Tr.d,Tr.nodes,szD,h1,h2];omega
def Yi:FT:=λds U=>∃n,ds=[.int n]/\U (dv (.bl true))
def cf(T:Tops mg)(F:Fun K "function_of" "function_of" (top 8) f fd)(m:mg "function_of" = some (.ref f)):FD P w K mg base 1 "function_of" pB Q7:=by
 have S:zj ["program","name","function"] pB (zb (top 8)):=by walk_at "f"
 walk_at "b";refine⟨_,(zd (vm (wo (z0 0)) (zm (i:=2) S.nd rfl (by walk_at "o")) (yj 2) (zk (xy (wl hu (ze hu (z0 2) zc) (z0 1)) (zk (yd (z0 2))) ym)))
   (zk tw)),?_⟩
 obtain⟨fns,nm,fn,rfl,hl1,hn,hf,pf,h⟩:=hT;show sFor _ _ _ _ _;refine wq (fns.map Prod.snd) ?_ (λi L=>(∃t,L=[q_ (.tup (fns.map Prod.snd)),q_ (.str nm),t])/\∀p∈fns.take i,p.1≠nm) ⟨⟨none,rfl⟩,by simp⟩ ?_ ?_
 ·intro N M;exact⟨trivial,M⟩
 ·rintro i d _ I ⟨⟨t,rfl⟩,B⟩;rw[zai]at I;cases ep:fns[i]? with
  |none=>rw[ep]at I;cases I
  |some p =>
   rw[ep]at I;cases I;have Z:p∈fns:=zan ep;obtain⟨r,er⟩:=hn p Z;have tk:fns.take (i+1)=fns.take i++[p]:=by rw[List.take_add_one,ep];rfl
   obtain⟨z,d⟩:=p;simp only at er;subst er;walk_at "dl";refine⟨λe=>?_,λe=>⟨⟨_,rfl⟩,?_⟩⟩
   ·subst e;have e2:=Gb B ep;rw[e2]at hf;cases hf;exact⟨pf.2,h⟩
   rw[tk];intro q j;rcases zas.mp j with j|j
   ·exact B q j
   rw[List.mem_singleton.mp j];exact e
 rintro _ ⟨⟨t,rfl⟩,B⟩;obtain⟨p,Z,e⟩:=M9 hf;rw[zLm,List.take_length]at B;exact B p Z e
def Y2(T:Tops mg)(I:FD P w K mg base 3 "fits" ["shape","thing"] (J1 Fz))(F:Fun K "check_args" "check_args" (top 18) f fd)(m:mg "check_args" = some (.ref f)):FD P w K mg base 4 "check_args" ["function","args"] (J3 Fz):=by
 have S:zj ["function","args","shapes"] ["function","args"] (zb (top 18)):=by walk_at "f"
 walk_at "b";refine⟨_,(zd (qu (T:=["param","shape"]) (F:=[]) (js:=[]) 2 S.nd (wo (ze hu (z0 0) zc)) (show y8 (zb (top 18)) _ _ _ from by walk_at "c") .nil (by decide) (by walk_at "t") (Xg (ub w8 (gz w8 sv) (yo (by decide)) (ub w8 sv (yo (by decide)) Xh))) (ut 0 1) (λcl C fp s H=>xp) (λcl C fp s H=>(z0 1)))
   (zd (xy (Y4 hu (xt T.len (z9 (z0 1) za)) (xt T.len (z9 (z0 2) za))) (zk tw) ym)
   (zk (t4 2 (xy (vd (xr (Y8 T.all (z9 (wb (T:=["shape","arg"]) (F:=[]) (js:=[]) (Ot T.zip (z9 (z0 2) (z9 (z0 1) za))) (show y8 (zb (top 18)) _ _ _ from by walk_at "c") .nil (by decide) (by walk_at "t") (Xg (ub w8 (gz w8 sv) (yo (by decide)) (ub w8 sv (yo (by decide)) Xh))) (ut 0 1) (λcl C fp s H=>xp) (λcl C fp s H=>(zy I (hr.e rfl) (z9 (z0 0) (z9 (z0 1) za))))) za)))) (zk tw) ym))))),?_⟩
 obtain⟨n0,ps,sz,b,as,rfl,hl1,a0,Z,h⟩:=hT;walk_at "dl";refine yp (ps.map λp=>.tup [.str p.1,p.2]) ?_ (λd=>match d with|.tup [_,a]=>some a|_=>none) (by rw[zLm];omega) ?_ ?_
 ·intro N j;unfold pmD;exact⟨trivial,j⟩
 ·intro d B;obtain⟨y,hy,rfl⟩:=zah.mp B;exact⟨λ_=>⟨trivial,rfl⟩,nofun⟩
 have ef:(ps.map λp=>D.tup [.str p.1,p.2]).filterMap (λd=>match d with|.tup [_,a]=>some a|_=>none)=ps.map Prod.snd:=by
  rw[List.filterMap_map,<- List.filterMap_eq_map];rfl
 rw[ef];have M:as.length=(ps.map Prod.snd).length:=by rw[zLm];exact hl1.symm
 refine⟨trivial,λq=>absurd (congrArg Int.ofNat M) q,λ_=>?_⟩;refine yp (zipD (ps.map Prod.snd) as) ?_ (λ_=>some (.bl true)) ?_ ?_ ?_
 ·intro N j;walk_at "dl";exact j
 ·unfold zipD;rw[List.length_zipWith];omega
 ·intro d B;unfold zipD at B;have ez:∀(xs ys:List D),List.zipWith (λx y=>D.tup [x,y]) xs ys=(xs.zip ys).map λq=>D.tup [q.1,q.2]:=λxs=>by
   induction xs with
   |nil=>intro ys;simp
   |cons x xs ih=>intro ys;cases ys with
    |nil=>simp
    |cons y ys=>simp[ih]
  rw[ez]at B;obtain⟨q,hq,rfl⟩:=zah.mp B;exact⟨λ_=>⟨rfl,_,_,rfl,Z q hq,trivial,rfl⟩,nofun⟩
 have e3:∀l:List D,l.filterMap (λ_=>some (D.bl true))=(List.replicate l.length true).map D.bl:=λl=>by
  induction l with
  |nil=>rfl
  |cons x l ih=>simp only[List.filterMap_cons,zLc,List.replicate_succ,List.map_cons,ih]
 rw[e3];show match blsD _ with|some bs=>_|none=>False
 rw[Yd];refine⟨λz=>?_,λ_=>h⟩;rw[show(List.replicate _ true).all id=true from by simp]at z
 cases z
def Vl(T:Tops mg)(F:Fun K "is_whole" "is_whole" (top 7) f fd)(m:mg "is_whole" = some (.ref f)):FD P w K mg base 1 "is_whole" pA Yi:=by
 have S:zj ["thing"] pA (zb (top 7)):=by walk_at "f"
 walk_at "b";refine⟨_,(zk (yd (W0 (xu T.isinstance (z9 (z0 0) (z9 (ck T.int d8) za))) (Xy (Jv (xu T.isinstance (z9 (z0 0) (z9 (ck T.bool bv) za)))))))),?_⟩;obtain⟨n,rfl,h⟩:=hT;exact⟨λ_=>⟨trivial,h⟩,nofun⟩
def Uu{l i:Nat}{ds:List D}{d:D}{u:TDS}{L:DE}{Z:DZ}(h:slot L l=Q_ (.lst (ds++[d])))(k:u (setS (setS L l (dO (.lst ds))) i (dv d)) Z):sSeq (sPop l i) u L Z:=by
 unfold sSeq sPop;rw[h]
 dsimp only [dO]
 rw[Uv];exact k
def Rh(T:Tops mg)(j:FD P w K mg base 1 "is_whole" pA Yi)(F:Fun K "is_tree" "is_tree" (top 11) f fd)(m:mg "is_tree" = some (.ref f)):FD P w K mg base 2 "is_tree" pA Kt:=by
 have S:zj ["thing","waiting","part"] pA (zb (top 11)):=by walk_at "f"
 walk_at "b";refine⟨_,(zd (y9 1 S.nd (yu (z9 (z0 0) za)))
   (zd (U8 (xr (z0 1)) (zd (J5 1 2 S.nd)
    (zd (xy (Em (z0 2) sy) (zk Wq) ym)
    (zd (xy (EW.et (qh (vd (xr (xu T.isinstance (z9 (z0 2) (z9 (ck T.tuple wx) za))))) (qh (Y4 hu (xt T.len (z9 (z0 2) za)) zc) (qg (vd (xr (zy j (hr.e rfl) (z9 (ze hu (z0 2) zc) za)))))))) (zk (yd uu)) ym)
    (zk (Qf 1 (z9 (ze hu (z0 2) zc) (z9 (ze hu (z0 2) zc) za))))))))
   (zk (yd uu)))),?_⟩
 obtain⟨d0,rfl,t,rfl,hn,h⟩:=z1j hT;refine⟨rfl,rfl,trivial,λL=>∃(ts:List Tr)(M:Option EV),L=[q_ t.d,Q_ (.lst (ts.map Tr.d)),M]/\sumZ (ts.map Tr.d)<=500,λL=>match L with
  |[_,some ⟨_,.lst ds⟩,_]=>sumZ ds
  | _=>0,⟨[t],none,rfl,by simp[sumZ,Tr.sz];omega⟩,?_⟩
 rintro L ⟨ts,M,rfl,I⟩;refine D9 (ds:=ts.map Tr.d) rfl ⟨λz=>?_,λz=>?_⟩
 ·rcases List.eq_nil_or_concat ts with rfl|⟨ts,q,rfl⟩
  ·cases z
  rw[List.concat_eq_append,zMa]at I ⊢;rw[tm]at I;have hl:=Zf (ts.map Tr.d);have B:sumZ (ts.map Tr.d++[q].map Tr.d)=sumZ (ts.map Tr.d)+szD q.d:=by rw[tm];simp[sumZ]
  have e4:sumZ ([q].map Tr.d)=szD q.d:=by simp[sumZ]
  have N:=Wo q.d;cases q with
  |lf =>
   refine Uu (ds:=ts.map Tr.d) rfl ⟨λ_=>⟨⟨ts,_,rfl,by omega⟩,?_⟩,nofun⟩
   exact Nat.lt_of_lt_of_eq (Nat.lt_add_of_pos_right N) B.symm
  |nd l v r =>
   have e7:szD (Tr.nd l v r).d=1+szD l.d+szD r.d:=by simp[Tr.d,szD]
   rw[e7]at B e4;have Z:sumZ (ts.map Tr.d++[l.d,r.d])=sumZ (ts.map Tr.d)+szD l.d+szD r.d:=by rw[tm];simp[sumZ];omega
   refine Uu (ds:=ts.map Tr.d) rfl ⟨nofun,λ_=>⟨nofun,λ_=>⟨of_eq_true (wt ..),of_eq_true (wt ..),nofun,λ_=>⟨rfl,v,rfl,nofun,λ_=>⟨rfl,rfl,by simp at hl ⊢;omega,⟨ts++[l,r],q_ (.tup [l.d,.int v,r.d]),by rw[zMa];rfl,by simp only[zMa,List.map_cons,List.map_nil];omega⟩,?_⟩⟩⟩⟩⟩
   refine(show sumZ (ts.map Tr.d++[l.d,r.d])<sumZ (ts.map Tr.d++[Tr.nd l v r].map Tr.d) from ?_);rw[Z,B];omega
 have e0:ts=[]:=by cases ts with|nil=>rfl|cons=>cases z
 subst e0;exact⟨trivial,h⟩
def Ek(T:Tops mg)(j:FD P w K mg base 1 "is_whole" pA Yi)(q:FD P w K mg base 2 "is_tree" pA Kt)(F:Fun K "fits" "fits" (top 10) f fd)(m:mg "fits" = some (.ref f)):FD P w K mg base 3 "fits" ["shape","thing"] (J1 FzT):=by
 have S:zj ["shape","thing"] ["shape","thing"] (zb (top 10)):=by walk_at "f"
 walk_at "b";refine⟨_,(zd (xy (wl hu (z0 0) zf) (zk (yd (zy j (hr.e rfl) (z9 (z0 1) za)))) ym)
   (zd (xy (wl hu (z0 0) zf) (zk (yd (W0 (xu T.isinstance (z9 (z0 1) (z9 (ck T.tuple wx) za))) (Xy (Y8 T.all (z9 (wb (T:=["number"]) (F:=[]) (js:=[]) (wo (z0 1)) (show y8 (zb (top 10)) _ _ _ from by walk_at "c") .nil (by decide) (by walk_at "t") (yo (by decide)) (yj 0) (λcl C fp s H=>xp) (λcl C fp s H=>(zy j (hr.e rfl) (z9 (z0 0) za)))) za)))))) ym)
   (zk (yd (zy q (hr.e rfl) (z9 (z0 1) za)))))),?_⟩
 obtain⟨s,d,rfl,⟨rfl,l,rfl,M⟩|⟨rfl,t,rfl,I⟩,h⟩:=hT
 rotate_left
 ·exact cs ⟨nofun,λ_=>cs ⟨nofun,λ_=>⟨rfl,t,rfl,I,trivial,h⟩⟩⟩
 refine cs ⟨nofun,λ_=>cs ⟨λ_=>?_,nofun⟩⟩;walk_at "dl";refine yp (l.map D.int) ?_ (λ_=>some (.bl true)) (by rw[zLm];omega) ?_ ?_
 ·intro N B;exact⟨trivial,B⟩
 ·intro d Z;obtain⟨y,hy,rfl⟩:=zah.mp Z;exact⟨λ_=>⟨rfl,y,rfl,trivial,rfl⟩,nofun⟩
 have e3:∀l:List D,l.filterMap (λ_=>some (D.bl true))=(List.replicate l.length true).map D.bl:=λl=>by
  induction l with
  |nil=>rfl
  |cons x l ih=>simp only[List.filterMap_cons,zLc,List.replicate_succ,List.map_cons,ih]
 rw[e3];show match blsD _ with|some bs=>U (dv (.bl (bs.all id)))|none=>False
 rw[Yd]
 dsimp only
 rw[show(List.replicate _ true).all id=true from by simp]
 exact h
def Rg(T:Tops mg)(F:Fun K "size_of" "size_of" (top 12) f fd)(m:mg "size_of" = some (.ref f)):FD P w K mg base 5 "size_of" ["shape","value"] (Q5 RT):=by
 have S:zj ["shape","value"] ["shape","value"] (zb (top 12)):=by walk_at "f"
 walk_at "b";refine⟨_,(zd (xy (wl hu (z0 0) zf) (zk (yd zc)) ym)
   (zd (xy (wl hu (z0 0) zf) (zk (yd (xt T.len (z9 (z0 1) za)))) ym)
   (zk (yd K2)))),?_⟩
 unfold Q5 g2 at hT;split at hT
 ·obtain⟨j,v,n,rfl,rfl,⟨rfl,l,rfl,rfl⟩,h⟩:=hT;exact cs ⟨nofun,λ_=>cs ⟨λ_=>⟨trivial,by rw[zLm];exact h⟩,nofun⟩⟩
 exact hT.elim
def z0b(U:EV->Prop)(s1:MS):Prop:=(s1.cut=true/\U ⟨.new,.tup [.bl false,.non,.lst s1.calls,.lst s1.steps]⟩)\/(s1.cut=false/\∃v r,s1.ready=v::r/\zl v/\U ⟨.new,.tup [.bl true,v,.lst s1.calls,.lst s1.steps]⟩)
def Q2(C:Addr)(R:Str->D->Int->Prop)(Fz:D->D->Prop):FT:=λds U=>∃fns:List (Str×D),∃nm as most n0 ps sz b,ds=[.tup (fns.map Prod.snd),.str nm,.lst as,.int most]/\fns.length<=100/\(fns.map Prod.fst).Nodup/\zp (fns.map Prod.snd)/\(∀p∈fns,∃r,p.2=.tup (.str p.1::r)) /\
 rowG fns nm=some (.tup [n0,pmD ps,sz,b])/\zl n0/\zp (ps.map Prod.snd)/\zl sz/\zl b/\zp as/\ps.length=as.length/\as.length<=10/\(ps.map Prod.fst).Nodup/\(∀p∈(ps.map Prod.snd).zip as,Fz p.1 p.2) /\
 Fin C R fns most (z0b U) (u7 most nm as ps b ms0)
def Ki:Stmt->List Expr
 |.Assign _ (.Call _ as _ _) _=>as
 |_=>[]
def Lh{v:Value}(T:Tops mg)(O:CO K C zh)(M:FD P w K mg base 4 "check_args" ["function","args"] (J3 Fz))(a0:FD P w K mg base 1 "function_of" pB Q7)(I:FM P w K mg base 2 C zh "__init__" ["self","program","most"] (Hi C))(Z:FM P w K mg base 2 C zh "enter" ["self","name","args"] (cv C))(q:FM P w K mg base 8 C zh "go" ["self"] (tGo C R))(B:FMR P w K mg base 1 C zh "told" ["self"] (Hg C))(mk:W.makesIn K C=true)(kC:W.keepIn K (.ref C)=true)(mR:mg "Run" = some (.ref C))(F:FunV K "trace" "trace" (top 17) f v fd):FnOk P w K mg base CX0 10 f fd ["program","name","args","most"] (spD K 4 (Q2 C R Fz)):=by
 have S:zj ["program","name","args","most","run"] ["program","name","args","most"] (zb (top 17)):=by walk_at "f"
 obtain⟨fI,a9,a3,bI,hI⟩:=I.ex;obtain⟨fT,a8,a2,bT,a7⟩:=B.ex;refine Aj (N:=["program","name","args","most","run"]) (C:=C) (ns:=zh) (m:="told") (l:=4) (nI:=3) (nM:=1) (TI:=Hi C) (TM:=Hg C) (as1:=Ki ((yi (top 17)).getD 1 (.Pass ⟨0,0,0,0⟩))) (λa5 hb=>F.ok S a5 hb) (by decide) rfl rfl λqZ A outer s H E ds U hr hl hT=>?_
 have hu:=hr.units;refine⟨_,_,_,_,(Z7 (zy M (hr.e rfl) (z9 (zy a0 (hr.e rfl) (z9 (z0 0) (z9 (z0 1) za))) (z9 (z0 2) za)))),(z9 (z0 0) (z9 (z0 3) za)),?_,(x9 (yh O Z (hr.e rfl) (zr (z0 1) (zr (Xx T.tuple (z9 (z0 2) za)) yr)))),(x9 (Tg O q (hr.e rfl))),?_,?_⟩
 ·intro t ht;exact Ut (Fc ⟨mk,hI.at_,hI.fn,kC⟩ a3 (hr.e rfl) rfl mR bI .nil Ww ht) (zm (i:=4) S.nd rfl (by walk_at "o")) rfl rfl rfl
 ·exact Us (Uw (uw rfl (by walk_at "o") (by decide) (by decide)) O.cl a7 a2 (hr.e rfl) bT .nil Ww rfl)
 obtain⟨fns,nm,as,most,n0,ps,sz,b,rfl,hl1,nd,pf,hn,hf,p1,p2,p3,p4,p5,j,a6,a4,hz,n,s1,hR,h⟩:=hT;have a1:zl (pmD ps):=yg.mpr λx hx=>by
  obtain⟨y,hy,rfl⟩:=zah.mp hx;exact⟨trivial,yg.mp p2 _ (zah.mpr ⟨y,hy,rfl⟩),trivial⟩
 refine⟨rfl,fns,nm,_,rfl,hl1,hn,hf,⟨p1,a1,p3,p4,trivial⟩,rfl,n0,ps,sz,b,as,rfl,j,by omega,hz,?_⟩
 refine⟨zaj 5,nofun,rfl,fns,most,rfl,rfl,hl1,nd,pf,hn,rfl,?_⟩;refine⟨_,rfl,trivial,trivial,rfl,fns,most,ms0,nm,as,n0,ps,sz,b,rfl,rfl,hf,p1,p2,p3,p4,p5,j,a6,a4,Nat.zero_le _,Nat.zero_le _,Nat.zero_le _,?_⟩;exact⟨_,rfl,rfl,fns,most,_,s1,n,rfl,rfl,hR,_,rfl,fns,most,s1,rfl,rfl,h⟩
def tlA(c:Int):List D:=xm [.non] [c] [.non]
def tlB(c:Int):List D:=xm [.non] [c] (tlA c)++xm (tlA c) [c] [.non]
def tlC(c:Int):List D:=xm [.non] [c] (tlB c)++xm (tlA c) [c] (tlA c)++xm (tlB c) [c] [.non]
def tl(c:Int):Nat->List D
 |0=>[.non]
 |1=>tlA c
 |2=>tlB c
 |_=>tlC c
def Tr.all(c:Int):Tr->Prop
 |.lf=>True
 |.nd l v r=>l.all c/\v=c/\r.all c
theorem Tr.pln:∀t:Tr,plnD t.d
 |.lf=>trivial
 |.nd l _ r=>⟨l.pln,trivial,r.pln,trivial⟩
theorem rb:∀{ds:List D},(∀d∈ds,plnD d)->plnD.plnDs ds
 |[],_=>trivial
 |d::ds,h=>⟨h d zao,rb λe j=>h e (zal _ j)⟩
def TK1(c:Int)(k:Nat)(ds:List D):Prop:=∀d∈ds,∃t:Tr,d=t.d/\t.nodes=k/\t.all c
theorem TK1.nd{c:Int}{i j:Nat}{B rs:List D}(hl:TK1 c i B)(hr:TK1 c j rs):TK1 c (i+j+1) (xm B [c] rs):=λd q=>by
 unfold xm at q;obtain⟨l,N,q⟩:=List.mem_flatMap.mp q;obtain⟨n,M,q⟩:=List.mem_flatMap.mp q;obtain⟨r,I,rfl⟩:=zah.mp q;cases List.mem_singleton.mp M;obtain⟨t,rfl,e1,a1⟩:=hl l N;obtain⟨u,rfl,e2,Z⟩:=hr r I;exact⟨.nd t c u,rfl,by rw[<- e1,<- e2];rfl,a1,rfl,Z⟩
def TK1.app{c:Int}{i:Nat}{xs ys:List D}(h:TK1 c i xs)(k:TK1 c i ys):TK1 c i (xs++ys):=λd j=>(zas.mp j).elim (h d) (k d)
def tl_0(c:Int):TK1 c 0 [.non]:=λd j=>⟨.lf,List.mem_singleton.mp j,rfl,trivial⟩
def tl_1(c:Int):TK1 c 1 (tlA c):=(tl_0 c).nd (tl_0 c)
def tl_2(c:Int):TK1 c 2 (tlB c):=((tl_0 c).nd (tl_1 c)).app ((tl_1 c).nd (tl_0 c))
def Nt(c:Int):∀k,k<=3->TK1 c k (tl c k)
 |0,_=>tl_0 c
 |1,_=>tl_1 c
 |2,_=>tl_2 c
 |3,_=>(((tl_0 c).nd (tl_2 c)).app ((tl_1 c).nd (tl_1 c))).app ((tl_2 c).nd (tl_0 c))
def Rz(c:Int){k:Nat}(h:k<=3):zp (tl c k):=yg.mpr λd j=>let ⟨t,e,_⟩:=Nt c k h d j;e▸t.pure
def Kr(c:Int){k:Nat}(h:k<=3):plnD (.lst (tl c k)):=rb λd j=>let ⟨t,e,_⟩:=Nt c k h d j;e▸t.pln
def jo(c:Int):∀k,(tl c k).length<=5
 |0=>Nat.le_of_ble_eq_true rfl
 |1=>Nat.le_of_ble_eq_true rfl
 |2=>Nat.le_of_ble_eq_true rfl
 |_+3=>Nat.le_of_ble_eq_true rfl
def hs(c:Int)(i m:Nat):List D:=(List.range m).flatMap λl=>xm (tl c l) [c] (tl c (i-l))
def z1f(c:Int):∀i,i<3->hs c i (i+1)=tl c (i+1)
 |0,_=>rfl
 |1,_=>rfl
 |2,_=>rfl
def O1(c:Int)(i m:Nat):hs c i (m+1)=hs c i m++xm (tl c m) [c] (tl c (i-m)):=by
 unfold hs;rw[List.range_succ,List.flatMap_append];simp
def Yx{j rs:List D}{c:Int}(h1:j.length<=5)(h2:rs.length<=5):(xm j [c] rs).length<=25:=by
 unfold xm;refine zak (wa (n:=5) _ λl _=>?_) (by omega)
 simp;exact h2
theorem Jr(c:Int)(i:Nat):∀m,m<=3->(hs c i m).length<=25*m
 |0,_=>zaj _
 |m+1,h=>by
  rw[O1,zLa];have h1:=Jr c i m (by omega)
  have h2:=Yx (c:=c) (jo c m) (jo c (i-m));omega
def tsL(c:Int)(i:Nat):List D:=(List.range i).map λk=>.lst (tl c k)
def He(c:Int){i k:Nat}(h:k<i):atI (tsL c i) (k:Int)=some (.lst (tl c k)):=da (Int.natCast_nonneg k) (by
 unfold tsL;rw[Int.toNat_natCast,zai,List.getElem?_range h];rfl)
def uo{i:Nat}{t:TDS}{L ρ':DE}{Z:DZ}(e:frzS L i=ρ')(h:t ρ' Z):sFrz i t L Z:=by
 subst e;exact h
def Ks:FT:=λds U=>∃(n:Nat)(c:Int),ds=[.int n,.lst [.int c]]/\n<=3/\U (dv (.lst (tl c n)))
def Vh(T:Tops mg)(q:FD P w K mg base 1 "nodes_over" ["lefts","numbers","rights"] Kx)(F:Fun K "trees_of" "trees_of" (top 34) f fd)(m:mg "trees_of" = some (.ref f)):FO P w K mg base 2 "trees_of" ["size","numbers"] Ks:=by
 have S:zj ["size","numbers","trees","nodes","here","left"] ["size","numbers"] (zb (top 34)):=by walk_at "f"
 refine Oa F S (F.binds λ_ _ _ _ _ _ us hl=>(by obtain⟨_,_,rfl⟩:=ur hl;rfl)) m λqZ A outer s H E ds U hr hl hT=>?_
 have hu:=hr.units;refine⟨_,(zd (y9 2 S.nd (yu (z9 (yu (z9 sy za)) za)))
   (zd (vm (Xv T.range (z9 zc (z9 (yz (z0 0) zc) za))) (zm (i:=3) S.nd rfl (by walk_at "o")) (yj 3) (zd (y9 4 S.nd (yu za))
    (zd (vm (uk T.range (z9 (z0 3) za)) (zm (i:=5) S.nd rfl (by walk_at "o")) (yj 5) (zk (Z6 4 (zy q (hr.e rfl) (z9 (ze hu (z0 2) (z0 5)) (z9 (z0 1) (z9 (ze hu (z0 2) (ul (ul (z0 3) zc) (z0 5))) za)))))))
    (zk (t4 4 (jr 2 (z0 4)))))))
   (zk (yd (ze hu (z0 2) (z0 0)))))),?_⟩
 obtain⟨n,c,rfl,n3,h⟩:=hT;refine yb ⟨rfl,rfl,rfl,rfl,trivial,?_⟩;refine wk (ρ':=[q_ (.int n),q_ (.lst [.int c]),Q_ (.lst (tsL c 1)),none,none,none]) (by rfl) (yn ?_)
 refine wq (rngD 1 n) (λN j=>?_) (λi L=>∃a b d,L=[q_ (.int n),q_ (.lst [.int c]),Q_ (.lst (tsL c (i+1))),a,b,d]) ⟨none,none,none,rfl⟩ ?_ ?_
 ·walk_at "dl";refine⟨⟨by omega,by omega,by omega,by omega⟩,?_⟩
  rw[show((n:Int)+1-1).toNat=n by omega]
  exact j
 ·rintro i d _ M ⟨a,b,e,rfl⟩;obtain⟨hi,rfl⟩:=t6 M;refine dq (yb ⟨rfl,rfl,trivial,?_⟩);refine wk (ρ':=[q_ (.int n),q_ (.lst [.int c]),Q_ (.lst (tsL c (i+1))),q_ (.int (1+(i:Int))),Q_ (.lst (hs c i 0)),e]) (by rfl) (yn ?_)
  refine wq (rngD 0 (i+1)) (λN j=>?_) (λm L=>∃e,L=[q_ (.int n),q_ (.lst [.int c]),Q_ (.lst (tsL c (i+1))),q_ (.int (1+(i:Int))),Q_ (.lst (hs c i m)),e]) ⟨e,rfl⟩ ?_ ?_
  ·walk_at "dl";refine⟨by omega,by omega,?_⟩
   rw[show(1+(i:Int)).toNat=i+1 by omega]
   exact j
  ·rintro m d _ B ⟨e,rfl⟩;obtain⟨I,rfl⟩:=t6 B;refine dq (jf _ rfl ?_);have e1:(1+(i:Int)-1-(m:Int))=((i-m:Nat):Int):=by omega
   walk_at "dl";rw[He c I,e1,He c (by omega:i-m<i+1)]
   have l1:=Yx (c:=c) (jo c m) (jo c (i-m));have l2:=Jr c i m (by omega)
   have Z:=jo c m;have l4:=jo c (i-m);exact⟨_,_,[c],rfl,Rz c (by omega),Rz c (by omega),by omega,by omega,Nat.le_of_ble_eq_true rfl,_,rfl,by omega,by omega,_,by rw[O1]⟩
  rintro _ ⟨e,rfl⟩;rw[t5]
  dsimp only
  refine uo (ρ':=[q_ (.int n),q_ (.lst [.int c]),Q_ (.lst (tsL c (i+1))),q_ (.int (1+(i:Int))),q_ (.lst (hs c i (i+1))),e]) rfl (Ql (ds:=tsL c (i+1)) rfl ⟨trivial,?_,q_ (.int (1+(i:Int))),q_ (.lst (hs c i (i+1))),e,?_⟩)
  ·unfold tsL;rw[zLm,List.length_range];omega
  have:tsL c (i+1+1)=tsL c (i+1)++[.lst (hs c i (i+1))]:=by
   unfold tsL;rw[List.range_succ (n:=i+1),zMa,z1f c i (by omega)]
   rfl
  rw[this];rfl
 rintro _ ⟨a,b,e,rfl⟩;rw[t5];walk_at "dl";rw[He c (by omega:n<n+1)]
 exact h
def ud(ms:List Int):Nat->List (List Int)
 |0=>[[]]
 |k+1=>ms.flatMap λn=>(ud ms k).map λr=>n::r
def rwD(l:List Int):D:=.tup (l.map D.int)
theorem Z8{ms:List Int}(h:ms.length<=3):∀k,(ud ms k).length<=3 ^ k
 |0=>zaj _
 |k+1=>by
  unfold ud;refine zak (wa (n:=3 ^ k) _ λn _=>?_) (by rw[Nat.pow_succ];exact Nat.mul_le_mul_left _ h)
  rw[zLm];exact Z8 h k
theorem jg{ms:List Int}:∀(k:Nat)(l:List Int),l∈ud ms k->l.length=k/\∀x∈l,x∈ms
 |0,l,h=>by
  cases List.mem_singleton.mp h
  exact⟨rfl,nofun⟩
 |k+1,l,h=>by
  obtain⟨n,q,h⟩:=List.mem_flatMap.mp h;obtain⟨r,j,rfl⟩:=zah.mp h;obtain⟨e,a⟩:=jg k r j;exact⟨congrArg Nat.succ e,λx B=>(zam.mp B).elim (λe=>e▸q) (a x)⟩
def jx(l:List Int):zp (l.map D.int):=yg.mpr λd j=>by
 obtain⟨i,_,rfl⟩:=zah.mp j;exact trivial
inductive Vls:Str->Nat->List Int->List D->Prop
 |list {n:Nat} {ms:List Int}:ms.length<=3->Vls "list" n ms ((ud ms n).map rwD)
 |tree {n:Nat} {c:Int}:Vls "tree" n [c] (tl c n)
def Dg:FT:=λds U=>∃(s:Str)(n:Nat)(ms:List Int)(vs:List D),ds=[.str s,.int n,.lst (ms.map D.int)]/\n<=3/\Vls s n ms vs/\∀k,U ⟨k,.lst vs⟩
def Xj(T:Tops mg)(j:FW P w K mg base 2 "trees_of" ["size","numbers"] [] Ks)(F:Fun K "values_of" "values_of" (top 33) f fd)(m:mg "values_of" = some (.ref f)):FO P w K mg base 3 "values_of" ["shape","size","numbers"] Dg:=by
 have S:zj ["shape","size","numbers","lists","place","longer","number"] ["shape","size","numbers"] (zb (top 33)):=by walk_at "f"
 refine Oa F S (F.binds λ_ _ _ _ _ _ us hl=>(by obtain⟨_,_,_,rfl⟩:=rf hl;rfl)) m λqZ A outer s H E ds U hr hl hT=>?_
 have hu:=hr.units;refine⟨_,(zd (xy (wl hu (z0 0) zf) (zk (yd (z0 2))) ym)
   (zd (xy (wl hu (z0 0) zf) (zk (yd (va j (hr.e rfl) (z9 (z0 1) (z9 (z0 2) za))))) ym)
   (zd (y9 3 S.nd (yu (z9 (zn za) za)))
   (zd (t4 3 (vm (uk T.range (z9 (z0 1) za)) (zm (i:=4) S.nd rfl (by walk_at "o")) (yj 4) (zd (y9 5 S.nd (yu za))
    (zd (vm (wo (z0 2)) (zm (i:=6) S.nd rfl (by walk_at "o")) (yj 6) (zk (Z6 5 (wb (T:=["ahead"]) (F:=["number"]) (js:=[6]) (wo (z0 3)) (show y8 (zb (top 33)) _ _ _ from by walk_at "c") (.cons rfl .nil) (by decide) (by walk_at "t") (yo (by decide)) (yj 0) (λcl C fp s H=>xp) (λcl C fp s H=>(Ov (zn (z9 (z0 1) za)) (z0 0)))))))
    (zk (t4 5 (y9 3 S.nd (z0 5))))))))
   (zk (yd (z0 3))))))),?_⟩
 obtain⟨s,n,ms,vs,rfl,n3,hv,h⟩:=hT;cases hv with
 |@tree _ c =>
  exact cs ⟨nofun,λ_=>cs ⟨λ_=>⟨⟨trivial,trivial,trivial⟩,rfl,n,c,rfl,n3,Kr c n3,h _⟩,nofun⟩⟩
 |list m3 =>
  refine cs ⟨nofun,λ_=>cs ⟨nofun,λ_=>qv ?_⟩⟩
  dsimp only
  refine yb ⟨rfl,rfl,rfl,rfl,trivial,?_⟩;refine yn (uo (ρ':=[q_ (.str "list"),q_ (.int n),q_ (.lst (ms.map D.int)),q_ (.lst ((ud ms 0).map rwD)),none,none,none]) rfl ?_);refine wq (rngD 0 n) (λN q=>⟨by omega,by omega,q⟩) (λi L=>∃a b e,L=[q_ (.str "list"),q_ (.int n),q_ (.lst (ms.map D.int)),q_ (.lst ((ud ms i).map rwD)),a,b,e]) ⟨none,none,none,rfl⟩ ?_ ?_
  ·rintro i d _ hd ⟨a,b,e,rfl⟩;obtain⟨hi,rfl⟩:=t6 hd;have ri:=Z8 m3 i;have r3:3 ^ i<=3 ^ 3:=Nat.pow_le_pow_right (by decide) (by omega)
   have I:(3:Nat) ^ 3=27:=rfl;refine dq (yb ⟨rfl,rfl,trivial,?_⟩);refine wk (ρ':=[q_ (.str "list"),q_ (.int n),q_ (.lst (ms.map D.int)),q_ (.lst ((ud ms i).map rwD)),q_ (.int (0+(i:Int))),Q_ (.lst (((ms.take 0).flatMap λn=>(ud ms i).map λr=>n::r).map rwD)),e]) (by rfl) (yn ?_)
   refine wq (ms.map D.int) (λN q=>⟨trivial,q⟩) (λm L=>∃e,L=[q_ (.str "list"),q_ (.int n),q_ (.lst (ms.map D.int)),q_ (.lst ((ud ms i).map rwD)),q_ (.int (0+(i:Int))),Q_ (.lst (((ms.take m).flatMap λn=>(ud ms i).map λr=>n::r).map rwD)),e]) ⟨e,rfl⟩ ?_ ?_
   ·rintro m d _ B ⟨e,rfl⟩;rw[zai]at B;obtain⟨x,en,rfl⟩:=zar.mp B;refine dq (jf _ rfl ?_);have lm:(((ms.take m).flatMap λn=>(ud ms i).map λr=>n::r).map rwD).length<=27*3:=by
     rw[zLm];refine zak (wa (n:=27) _ λn _=>?_) (Nat.mul_le_mul_left 27 (by rw[List.length_take];omega))
     rw[zLm];omega
    refine yp ((ud ms i).map rwD) (λN q=>⟨trivial,q⟩) (λd=>match d with|.tup l=>some (.tup (.int x::l))|_=>none) (by rw[zLm];omega) (λr hr=>?_) ⟨((ud ms i).map λr=>x::r).map rwD,?_,by rw[zLm,zLm];omega,by omega,q_ (.int x),?_⟩
    ·obtain⟨l,M,rfl⟩:=zah.mp hr;refine⟨λ_=>?_,nofun⟩;have Z:=(jg _ _ M).1;refine⟨rfl,rfl,⟨trivial,trivial⟩,jx l,?_,trivial,?_⟩
     ·rw[zLm D.int,Z,sizeLine_eq];show 1+i<=_;omega
     rfl
    ·rw[List.filterMap_map,List.map_map,<- List.filterMap_eq_map];rfl
    rw[List.take_add_one,en,List.flatMap_append,zMa];simp;rfl
   rintro _ ⟨e,rfl⟩;rw[zLm,List.take_length]
   dsimp only
   exact uo (ρ':=[q_ (.str "list"),q_ (.int n),q_ (.lst (ms.map D.int)),q_ (.lst ((ud ms i).map rwD)),q_ (.int (0+(i:Int))),q_ (.lst ((ud ms (i+1)).map rwD)),e]) rfl ⟨trivial,q_ (.int (0+(i:Int))),q_ (.lst ((ud ms (i+1)).map rwD)),e,rfl⟩
  rintro _ ⟨a,b,e,rfl⟩;rw[t5];exact h _
def tInp:FT:=λds U=>∃(s:Str)(n:Nat)(ns:List Int),ds=[.lst [.str s],.lst [.int n],.lst (ns.map D.int)]/\n<=3/\ns.length<=3 /\
 ∀ms:List Int,(∀k,k∈ms ↔ k∈ns)->ms.length<=ns.length->∃vs,Vls s n ms vs/\U (dv (.lst (vs.map λv=>.lst [v])))
def Vls.pln{s:Str}{n:Nat}{ms:List Int}{vs:List D}(h:Vls s n ms vs)(n3:n<=3):plnD (.lst vs)/\vs.length<=27:=by
 cases h with
 |tree=>exact⟨Kr _ n3,zak (jo _ _) (by decide)⟩
 |list m3 =>
  refine⟨rb λd j=>?_,?_⟩
  ·obtain⟨l,_,rfl⟩:=zah.mp j;exact rb (ds:=l.map D.int) λd j=>by
    obtain⟨i,_,rfl⟩:=zah.mp j;exact trivial
  rw[zLm];exact zak (Z8 m3 n) (show 3 ^ n<=3 ^ 3 from Nat.pow_le_pow_right (by decide) n3)
def Xl(T:Tops mg)(j:FW P w K mg base 3 "values_of" ["shape","size","numbers"] [] Dg)(F:Fun K "inputs_of" "inputs_of" (top 32) f fd)(m:mg "inputs_of" = some (.ref f)):FO P w K mg base 4 "inputs_of" pD tInp:=by
 have S:zj ["shapes","sizes","numbers","inputs","shape","size","longer","value"] pD (zb (top 32)):=by walk_at "f"
 refine Oa F S (F.binds λ_ _ _ _ _ _ us hl=>(by obtain⟨_,_,_,rfl⟩:=rf hl;rfl)) m λqZ A outer s H E ds U hr hl hT=>?_
 have hu:=hr.units;refine⟨_,(zd (y9 3 S.nd (yu (z9 (yu za) za)))
   (zd (t4 3 (vm (Ot T.zip (z9 (z0 0) (z9 (z0 1) za))) (uq (K0:=K) (n:=2) (by rfl) (by rfl) (ye (zm (i:=4) S.nd rfl (by walk_at "o")) (ye (zm (i:=5) S.nd rfl (by walk_at "o")) vn))) (ut 4 5) (zd (y9 6 S.nd (yu za))
    (zd (vm (wo (va j (hr.e rfl) (z9 (z0 4) (z9 (z0 5) (z9 (Rj T.sorted T.set (z0 2)) za))))) (zm (i:=7) S.nd rfl (by walk_at "o")) (yj 7) (zk (Z6 6 (wb (T:=["args"]) (F:=["value"]) (js:=[7]) (wo (z0 3)) (show y8 (zb (top 32)) _ _ _ from by walk_at "c") (.cons rfl .nil) (by decide) (by walk_at "t") (yo (by decide)) (yj 0) (λcl C fp s H=>xp) (λcl C fp s H=>(yz (z0 0) (yu (z9 (z0 1) za))))))))
    (zk (t4 6 (y9 3 S.nd (z0 6))))))))
   (zk (yd (z0 3))))),?_⟩
 obtain⟨s,n,ns,rfl,n3,m3,h⟩:=hT;refine yb ⟨rfl,rfl,rfl,rfl,trivial,?_⟩;refine yn (uo (ρ':=[q_ (.lst [.str s]),q_ (.lst [.int n]),q_ (.lst (ns.map D.int)),q_ (.lst [.lst []]),none,none,none,none]) rfl ?_);refine wq [.tup [.str s,.int n]] (λN q=>⟨trivial,trivial,q⟩) (λi L=>(i=0/\L=[q_ (.lst [.str s]),q_ (.lst [.int n]),q_ (.lst (ns.map D.int)),q_ (.lst [.lst []]),none,none,none,none])\/(i=1/\∃vs a b c d,U (dv (.lst vs))/\L=[q_ (.lst [.str s]),q_ (.lst [.int n]),q_ (.lst (ns.map D.int)),q_ (.lst vs),a,b,c,d])) (.inl ⟨rfl,rfl⟩) ?_ ?_
 ·rintro i d L I (⟨rfl,rfl⟩|⟨rfl,_⟩)
  ·cases I
   refine yb ⟨rfl,rfl,trivial,?_⟩;refine wk (ρ':=[q_ (.lst [.str s]),q_ (.lst [.int n]),q_ (.lst (ns.map D.int)),q_ (.lst [.lst []]),q_ (.str s),q_ (.int n),Q_ (.lst []),none]) (by rfl) (yn ?_)
   refine⟨ns,rfl,by omega,λms hm M=>?_⟩
   obtain⟨vs,Z,B⟩:=h ms hm M;obtain⟨pl,a0⟩:=Z.pln n3;refine⟨⟨trivial,trivial,trivial,trivial⟩,rfl,s,n,ms,vs,rfl,n3,Z,λk=>⟨pl,trivial,λi L=>∃e,L=[q_ (.lst [.str s]),q_ (.lst [.int n]),q_ (.lst (ns.map D.int)),q_ (.lst [.lst []]),q_ (.str s),q_ (.int n),Q_ (.lst ((vs.take i).map λv=>.lst [v])),e],⟨none,rfl⟩,?_,?_⟩⟩
   ·rintro i d _ I ⟨e,rfl⟩;refine dq (jf _ rfl ?_);refine yp [.lst []] (λN q=>⟨trivial,q⟩) (λ_=>some (.lst [d])) (by decide) (λr hr=>?_) ⟨_,rfl,Nat.le_of_ble_eq_true rfl,by rw[zLm,List.length_take];omega,q_ d,?_⟩
    ·cases List.mem_singleton.mp hr
     exact⟨λ_=>⟨rfl,rfl,Nat.le_of_ble_eq_true rfl,trivial,rfl⟩,nofun⟩
    rw[List.take_add_one,I,zMa];rfl
   rintro _ ⟨e,rfl⟩;rw[List.take_length]
   dsimp only
   exact uo (ρ':=[q_ (.lst [.str s]),q_ (.lst [.int n]),q_ (.lst (ns.map D.int)),q_ (.lst [.lst []]),q_ (.str s),q_ (.int n),q_ (.lst (vs.map λv=>.lst [v])),e]) rfl ⟨trivial,.inr ⟨rfl,_,q_ (.str s),q_ (.int n),q_ (.lst (vs.map λv=>.lst [v])),e,B,rfl⟩⟩
  cases I
 rintro _ (⟨z,_⟩|⟨_,vs,a,b,c,d,B,rfl⟩)
 ·cases z
 exact B
def wn:List Str:=["call","make","sum","let","less","open","hold"]
structure Con2(K:W.Frag)(mg:Str->Option Value):Prop where
 c_WORDS:GC K mg "WORDS" (.cn (.tup (wn.map Cst.str)))
 c_MOST_INPUTS:GC K mg "MOST_INPUTS" (.int 243)
def tabD(pr:Str->Int):D:=.dk (wn.map Sum.inr) (wn.map λw=>.int (pr w))
def cq(pr:Str->Int):Prop:=∀w∈wn,0<=pr w
def Kw:FT:=λds U=>∃n:Int,ds=[.int n]/\0<=n/\U (dv (.bl true))
def tChT:FT:=λds U=>∃pr,ds=[tabD pr]/\cq pr/\U (dv .non)
def Kg{s:Str}{n m:Nat}(n3:n<=3)(B:m<=3):0<=(if s = "num" then(m:Int) else(if s = "tree" then fm1.getD n 0 else 1)*(m:Int) ^ n)/\(if s = "num" then(m:Int) else(if s = "tree" then fm1.getD n 0 else 1)*(m:Int) ^ n)<=243:=by
 have j:n=0\/n=1\/n=2\/n=3:=by omega
 have q:m=0\/m=1\/m=2\/m=3:=by omega
 rcases j with rfl|rfl|rfl|rfl <;> rcases q with rfl|rfl|rfl|rfl <;> (split;decide;split <;> decide)
def T3{pr:Str->Int}{w:Str}(h:w∈wn):ua (wn.map Sum.inr) (wn.map λw=>.int (pr w)) (Sum.inr w)=some (D.int (pr w)):=by
 unfold wn at h ⊢;simp only[zam,List.not_mem_nil,or_false]at h;rcases h with rfl|rfl|rfl|rfl|rfl|rfl|rfl <;> rfl
def Jl{ks:List Key}{ds:List D}{k:Key}{d:D}{U:D->Prop}(e:ua ks ds k=some d)(h:U d):match ua ks ds k with|some d=>U d|none=>False:=by
 rw[e];exact h
def tShp:FT:=λds U=>∃fns:List (Str×D),∃nm n0 ps sz b,ds=[.tup (fns.map Prod.snd),.str nm]/\fns.length<=100/\(∀p∈fns,∃r,p.2=.tup (.str p.1::r))/\rowG fns nm=some (.tup [n0,pmD ps,sz,b])/\zl (.tup [n0,pmD ps,sz,b])/\ps.length<=100/\U (df (.lst (ps.map Prod.snd)))
def tChI:FT:=λds U=>∃(s:Str)(n:Nat)(ns:List Int),ds=[.lst [.str s],.lst [.int n],.lst (ns.map D.int)]/\n<=3/\ns.length<=3/\U (dv .non)
def Vm(T:Tops mg)(j:FD P w K mg base 1 "is_whole" pA Yi)(F:Fun K "is_price" "is_price" (top 22) f fd)(m:mg "is_price" = some (.ref f)):FD P w K mg base 2 "is_price" pA Kw:=by
 have S:zj ["thing"] pA (zb (top 22)):=by walk_at "f"
 walk_at "b";refine⟨_,(zk (yd (W0 (zy j (hr.e rfl) (z9 (z0 0) za)) (Xy (z1m (z0 0) zc))))),?_⟩;obtain⟨n,rfl,h0,h⟩:=hT;have e:decide (n ≥ 0)=true:=decide_eq_true h0;exact⟨rfl,n,rfl,λ_=>⟨trivial,by rw[<- e]at h;exact h⟩,nofun⟩
def cg(T:Tops mg)(Z:Con2 K mg)(I:FD P w K mg base 2 "is_price" pA Kw)(F:Fun K "check_table" "check_table" (top 23) f fd)(m:mg "check_table" = some (.ref f)):FD P w K mg base 3 "check_table" ["table"] tChT:=by
 have S:zj ["table"] ["table"] (zb (top 23)):=by walk_at "f"
 walk_at "b";refine⟨_,(zd (xy (EW.et (qh (Y4 hu (Eu T.len (z9 (z0 0) za)) (Ew T.len (z9 (kg Z.c_WORDS) za))) (qg (vd (xr (Y8 T.all (z9 (wb (T:=["word"]) (F:=["table"]) (js:=[0]) (As (kg Z.c_WORDS)) (show y8 (zb (top 23)) _ _ _ from by walk_at "c") (.cons rfl .nil) (by decide) (by walk_at "t") (yo (by decide)) (yj 0) (λcl C fp s H=>xp) (λcl C fp s H=>(z1k hu (z0 0) (z0 1)))) za))))))) (zk tw) ym)
   (zk (xy (vd (xr (Y8 T.all (z9 (wb (T:=["word"]) (F:=["table"]) (js:=[0]) (As (kg Z.c_WORDS)) (show y8 (zb (top 23)) _ _ _ from by walk_at "c") (.cons rfl .nil) (by decide) (by walk_at "t") (yo (by decide)) (yj 0) (λcl C fp s H=>xp) (λcl C fp s H=>(zy I (hr.e rfl) (z9 (ze hu (z0 1) (z0 0)) za)))) za)))) (zk tw) ym))),?_⟩
 obtain⟨pr,rfl,ok,h⟩:=hT;have hl:(wn.map D.str).length<=100000:=by decide
 unfold tabD;walk_at "dl";refine yp (wn.map D.str) (λN j=>j) (λ_=>some (.bl true)) hl (λd M=>?_) ⟨nofun,λ_=>?_⟩
 ·obtain⟨w,B,rfl⟩:=zah.mp M;have q:(Sum.inr w:Key)∈wn.map Sum.inr:=zah.mpr ⟨w,B,rfl⟩;refine⟨λ_=>⟨trivial,?_⟩,nofun⟩;show some (D.bl true)=some (D.bl (decide _));rw[decide_eq_true q]
 refine yp (wn.map D.str) (λN j=>j) (λ_=>some (.bl true)) hl (λd M=>?_) ⟨nofun,λ_=>h⟩;obtain⟨w,B,rfl⟩:=zah.mp M;exact⟨λ_=>Jl (T3 B) ⟨rfl,_,rfl,ok w B,trivial,rfl⟩,nofun⟩
def Xk(T:Tops mg)(j:FD P w K mg base 1 "function_of" pB Q7)(F:Fun K "shapes_of" "shapes_of" (top 28) f fd)(m:mg "shapes_of" = some (.ref f)):FO P w K mg base 2 "shapes_of" pB tShp:=by
 have S:zj ["program","name"] pB (zb (top 28)):=by walk_at "f"
 refine Oa F S (F.binds λ_ _ _ _ _ _ us hl=>(by obtain⟨_,_,rfl⟩:=ur hl;rfl)) m λqZ A outer s H E ds U hr hl hT=>?_
 have hu:=hr.units;refine⟨_,(zk (yd (wb (T:=["param","shape"]) (F:=[]) (js:=[]) (wo (ze hu (zy j (hr.e rfl) (z9 (z0 0) (z9 (z0 1) za))) zc)) (show y8 (zb (top 28)) _ _ _ from by walk_at "c") .nil (by decide) (by walk_at "t") (Xg (ub w8 (gz w8 sv) (yo (by decide)) (ub w8 sv (yo (by decide)) Xh))) (ut 0 1) (λcl C fp s H=>xp) (λcl C fp s H=>(z0 1))))),?_⟩
 obtain⟨fns,I,n0,ps,sz,b,rfl,l1,M,Z,B,l2,h⟩:=hT;refine yp (ps.map λp=>.tup [.str p.1,p.2]) (λN q=>?_) (λd=>match d with|.tup [_,a]=>some a|_=>none) (by rw[zLm];omega) (λd hd=>?_) ?_
 ·exact⟨rfl,fns,I,_,rfl,l1,M,Z,B,trivial,q⟩
 ·obtain⟨y,hy,rfl⟩:=zah.mp hd;exact⟨λ_=>⟨trivial,rfl⟩,nofun⟩
 rw[List.filterMap_map,show((λd=>match d with|.tup [_,a]=>some a|_=>none) ∘ λp:Str×D=>D.tup [.str p.1,p.2])=λp=>some p.2 from rfl,rz]
 exact h
def fk(T:Tops mg)(Z:Con2 K mg)(j:FD P w K mg base 2 "count_of" ["shape","size","many"] J2)(F:Fun K "check_inputs" "check_inputs" (top 29) f fd)(m:mg "check_inputs" = some (.ref f)):FD P w K mg base 3 "check_inputs" pD tChI:=by
 have S:zj ["shapes","sizes","numbers","many","shape","size"] pD (zb (top 29)):=by walk_at "f"
 walk_at "b";refine⟨_,(zd (y9 3 S.nd zc)
   (zd (vm (Ot T.zip (z9 (z0 0) (z9 (z0 1) za))) (uq (K0:=K) (n:=2) (by rfl) (by rfl) (ye (zm (i:=4) S.nd rfl (by walk_at "o")) (ye (zm (i:=5) S.nd rfl (by walk_at "o")) vn))) (ut 4 5) (zk (Qg 3 S.nd (zy j (hr.e rfl) (z9 (z0 4) (z9 (z0 5) (z9 (Rk T.len T.set (z0 2)) za)))))))
   (zk (xy (Y5 (z0 3) (kg Z.c_MOST_INPUTS)) (zk tw) ym)))),?_⟩
 obtain⟨s,n,ns,rfl,n3,m3,h⟩:=hT;refine yb ⟨trivial,yn ?_⟩;refine wq [.tup [.str s,.int n]] (λN B=>⟨trivial,trivial,B⟩) (λi L=>∃k:Int,0<=k/\k<=243/\(i=0->k=1)/\∃a b,L=[q_ (.lst [.str s]),q_ (.lst [.int n]),q_ (.lst (ns.map D.int)),q_ (.int k),a,b]) ⟨1,by decide,by decide,λ_=>rfl,none,none,rfl⟩ ?_ ?_
 ·rintro i d L I ⟨k,k0,k1,M,a,b,rfl⟩;cases i with
  |zero =>
   cases I
   cases M rfl
   refine⟨ns,rfl,by omega,λm hm=>⟨rfl,s,n,m,rfl,n3,by omega,?_⟩⟩
   obtain⟨c0,c1⟩:=Kg (s:=s) (n:=n) (m:=m) n3 (by omega)
   generalize (if s = "num" then(m:Int) else(if s = "tree" then fm1.getD n 0 else 1)*(m:Int) ^ n)=q at c0 c1 ⊢
   exact⟨IntMulOk.of_left (by decide),1*q,by omega,by omega,nofun,q_ (.str s),q_ (.int n),rfl⟩
  |succ i=>cases I
 rintro _ ⟨k,k0,k1,_,a,b,rfl⟩;exact⟨λz=>absurd (of_decide_eq_true z) (by omega),λ_=>h⟩
abbrev sts(ss:List (Int×Str)):List D:=ss.map λp=>stp p.1 p.2
def Wp(ss:List (Int×Str)):(sts ss).length=ss.length:=zLm _
def wg(ss:List (Int×Str))(n:Int)(k:Str):sts ss++[stp n k]=sts (ss++[(n,k)]):=by
 unfold sts;rw[zMa];rfl
def PK1(most:Int)(full:List Str)(s:MS):Prop:=∃ss,s.steps=sts ss/\ss.map Prod.snd=full.take most.toNat/\(s.cut=true\/(s.cut=false/\∃v r,s.ready=v::r/\zl v))
def Pre(most:Int)(full:List Str)(ss:List (Int×Str))(rest:List Str):Prop:=full=ss.map Prod.snd++rest/\(ss.length:Int)<=most
section
variable{full rest:List Str}{ss:List (Int×Str)}
def Pre.cut(h:Pre most full ss rest):Yh most (PK1 most full) cl (sts ss):=λq s c _ e=>⟨ss,e,by
 rw[Wp]at q;rw[h.1,show most.toNat=(ss.map Prod.snd).length by rw[zLm];have:=h.2;omega,List.take_left],.inl c⟩
def Pre.go{n:Int}{k:Str}(h:Pre most full ss (k::rest))(q:¬ most<=(sts ss).length):Pre most full (ss++[(n,k)]) rest:=by
 rw[Wp]at q;refine⟨by rw[h.1,zMa,List.append_assoc];rfl,?_⟩
 rw[zLa];show((ss.length+1:Nat):Int)<=most;omega
end
def varD(z:Str):D:=.tup [.str "var",.str z]
def calD(f z:Str):D:=.tup [.str "call",.str f,.tup [varD z]]
def cntB(f:Str)(b:Int)(x h t z:Str):D:=.tup [.str "list",.str x,.tup [.str "give",.tup [.str "num",.int 0]],.str h,.str t,.tup [.str "less",varD h,.tup [.str "num",.int b],
 .tup [.str "let",.str z,.tup [.str "cons",varD h,.tup [.str "nil"]],.tup [.str "give",.tup [.str "add",.tup [.str "num",.int 1],calD f t]]],.tup [.str "give",calD f t]]]
def kdC(b:Int):List Int->List Str
 |[]=>["call","open"]
 |h::t=>if h<b then "call"::"open"::"less"::"make"::"let"::(kdC b t++[("sum" : Str)]) else "call"::"open"::"less"::kdC b t
def sf(b h:Int)(t:List Int):kdC b (h::t)=if h<b then("call" : Str)::("open" : Str)::("less" : Str)::("make" : Str)::("let" : Str)::(kdC b t++[("sum" : Str)]) else("call" : Str)::("open" : Str)::("less" : Str)::kdC b t:=rfl
def Gn(fs:List (Int×List (Str×D))):zl (upD fs):=by
 unfold upD;split <;> trivial
def xc(f z:Str):zl (calD f z):=⟨trivial,trivial,⟨⟨trivial,trivial,trivial⟩,trivial⟩,trivial⟩
def xi(z:Str):zl (varD z):=⟨trivial,trivial,trivial⟩
def w6{e:D}(h:zl e):zl (.tup [.str "give",e]):=⟨trivial,h,trivial⟩
def Zd(f t h z:Str):zl (.tup [.str "let",.str z,.tup [.str "cons",varD h,.tup [.str "nil"]],.tup [.str "give",.tup [.str "add",.tup [.str "num",.int 1],calD f t]]]):=⟨trivial,trivial,⟨trivial,xi h,⟨trivial,trivial⟩,trivial⟩,w6 ⟨trivial,⟨trivial,trivial,trivial⟩,xc f t,trivial⟩,trivial⟩
def Ze(f:Str)(b:Int)(h t z:Str):zl (.tup [.str "less",varD h,.tup [.str "num",.int b],.tup [.str "let",.str z,.tup [.str "cons",varD h,.tup [.str "nil"]],.tup [.str "give",.tup [.str "add",.tup [.str "num",.int 1],calD f t]]],.tup [.str "give",calD f t]]):=⟨trivial,xi h,⟨trivial,trivial,trivial⟩,Zd f t h z,w6 (xc f t),trivial⟩
def qo(f:Str)(b:Int)(x h t z:Str):zl (cntB f b x h t z):=⟨trivial,trivial,w6 ⟨trivial,trivial,trivial⟩,trivial,trivial,Ze f b h t z,trivial⟩
variable{full:List Str}
def ue{x:Str}{v:D}{r:List (Str×D)}:rowG ((x,v)::r) x=some v:=by
 unfold rowG;simp
def uv{x y:Str}{v:D}{r:List (Str×D)}(h:y≠x):rowG ((y,v)::r) x=rowG r x:=by
 conv=>lhs;unfold rowG
 simp[h]
def oki(l:List Int):∀d∈l.map D.int,okD 39 d:=λd j=>by
 obtain⟨i,_,rfl⟩:=zah.mp j;exact wt▸trivial
def Xn{q cl more st ts rs:List D}{fs:List (Int×List (Str×D))}{rows:List (Str×D)}{P:MS->Prop}{R:Str->D->Int->Prop}{j:Str}{as:List D}{v:D}(e:q=cl++[.tup [.str j,.tup as,upD fs,.bl false,.non]]++more)(I:zp as)(B:zl v)(h:Fin C R fns most P (stt (cl++.tup [.str j,.tup as,upD fs,.bl true,v]::more) st fs ts (rs++[v]))):Fin C R fns most P (stt q st (fs++[((cl.length:Int),rows)]) (ts++[.tup [.str "leave"]]) (rs++[v])):=by
 subst e;refine Oi rfl trivial I (Gn fs) B ?_;rw[List.append_assoc];exact h
def Pw(b:Int):∀l,kdC b l=("call" : Str)::(kdC b l).tail
 |[]=>rfl
 |h::t=>by
  rw[sf];split <;> rfl
def Hw{f x h t z:Str}{b:Int}(nd:[x,h,t,z].Nodup)(n3:[x,h,t].Nodup)(hf:rowG fns f=some (.tup [.str f,pmD [(x,.str "list")],.tup [.str "num",.tup [.int 0,.int 0]],cntB f b x h t z])) :
  ∀(l:List Int)(cl:List D)(ss:List (Int×Str))(fs:List (Int×List (Str×D)))(ts rs:List D)(rest:List Str),zp rs->fs.length+l.length<=10->cl.length+ss.length+ts.length+rs.length+20*l.length<=5000->Pre most full ss ((kdC b l).tail++rest) ->
  (∀more j (v:Int),more.length<=l.length+1->j.length<=ss.length+6*l.length+2->Pre most full j rest->Fin C RT fns most (PK1 most full) (stt (cl++more) (sts j) fs ts (rs++[.int v]))) ->
  Fin C RT fns most (PK1 most full) (stt (cl++[.tup [.str f,.tup [.tup (l.map D.int)],upD fs,.bl false,.non]]) (sts ss) (fs++[((cl.length:Int),[(x,.tup (l.map D.int))])]) (ts++[.tup [.str "leave"]]++[bdD (cntB f b x h t z)]) rs):=by
 have N:x≠h:=λz=>by simp[z]at n3
 have M:x≠t:=λz=>by simp[z]at n3
 have Z:h≠t:=λz=>by simp[z]at n3
 intro l
 induction l with
 |nil =>
  intro cl ss fs ts rs rest pr lf lb B k;refine Te (l:=[]) ue trivial nofun (w6 ⟨trivial,trivial,trivial⟩) (Ze ..) (by simp) n3 B.cut (λq _=>?_) (λ_ v r z=>nomatch z)
  have p2:=B.go (n:=cl.length) q;rw[wg];exact qb ⟨trivial,trivial,trivial⟩ (Zw (Xn (cl:=cl) (more:=[]) (as:=[.tup []]) (by rw[List.append_nil];rfl) ⟨trivial,trivial⟩ trivial (k _ _ 0 (zaj _) (by simp) p2)))
 |cons a l ih =>
  intro cl ss fs ts rs rest pr lf lb B k;rw[zLc]at lf lb;have pl:=jx l;have hk:∃r:List Str,(kdC b (a::l)).tail++rest=("open" : Str)::("less" : Str)::r/\r=if a<b then("make" : Str)::("let" : Str)::(kdC b l++(("sum" : Str)::rest)) else kdC b l++rest:=by
   rw[sf];by_cases hab:a<b
   ·rw[if_pos hab,if_pos hab];exact⟨_,by simp,rfl⟩
   rw[if_neg hab,if_neg hab];exact⟨_,rfl,rfl⟩
  obtain⟨r,ek,er⟩:=hk;rw[ek]at B;refine Te (l:=.int a::l.map D.int) ue ⟨trivial,pl⟩ (oki (a::l)) (w6 ⟨trivial,trivial,trivial⟩) (Ze ..) (by simp) n3 B.cut (λ_ z=>nomatch z) (λq v w z=>?_)
  cases z
  have p2:=B.go (n:=cl.length) q;rw[wg];refine Lq (xi h) ⟨trivial,trivial,trivial⟩ (Zd ..) (w6 (xc ..)) (rg ((uv N).trans ue) trivial (Zw (Rf (Zd ..) (w6 (xc ..)) p2.cut (λq=>?_))));have I:=p2.go (n:=cl.length) q;rw[wg];have rt:rowG ([(x,D.tup (D.int a::l.map D.int))]++[(h,D.int a),(t,.tup (l.map D.int))]) t=some (.tup (l.map D.int)):=(uv M).trans ((uv Z).trans ue);by_cases hab:a<b
  ·rw[if_pos hab]at er ⊢;subst er;rw[Pw b l]at I;refine Lu ⟨trivial,xi h,⟨trivial,trivial⟩,trivial⟩ (w6 ⟨trivial,⟨trivial,trivial,trivial⟩,xc ..,trivial⟩) (Zv (.inl rfl) (xi h) ⟨trivial,trivial⟩ (rg ((uv N).trans ue) trivial (Ej (Lr (r:=[]) (sz:=1) trivial trivial (by simp) ⟨rfl,[a],rfl,rfl⟩ I.cut (λz=>by omega) (λq _=>?_)))))
   have p4:=I.go (n:=cl.length) q;rw[wg];refine Oj ⟨trivial,xi h,⟨trivial,trivial⟩,trivial⟩ (w6 ⟨trivial,⟨trivial,trivial,trivial⟩,xc ..,trivial⟩) ⟨trivial,trivial⟩ (by simp) nd p4.cut (λq=>?_)
   have p5:=p4.go (n:=cl.length) q;rw[wg];refine qb ⟨trivial,⟨trivial,trivial,trivial⟩,xc ..,trivial⟩ (Zv (.inr (.inr (.inl rfl))) ⟨trivial,trivial,trivial⟩ (xc ..) (Zw (qf (xi t) (rg ((uv M).trans ((uv Z).trans ue)) pl ?_))));refine qe (us:=[.tup (l.map D.int)]) hf rfl (by simp) (by simp) ⟨pl,trivial⟩ trivial ⟨trivial,trivial⟩ ⟨trivial,⟨trivial,trivial,trivial⟩,trivial⟩ (qo ..) rfl (by simp) (λz=>by simp at z;omega) p5.cut (λq _=>?_)
   have pe:=p5.go (n:=(cl++[D.tup [.str f,.tup [.tup (.int a::l.map D.int)],upD fs,.bl false,.non]]).length) q;rw[wg];refine ih _ _ _ _ _ _ (prs1 pr trivial) (by simp;omega) (by simp;omega) pe λmore j v hm hs hp=>?_
   have a0:j.length<=ss.length+6*l.length+7:=by simp at hs;omega
   refine Vj (.inl rfl) hp.cut (λq=>?_);have p6:=hp.go (n:=cl.length) q;rw[wg];exact Xn (cl:=cl) (as:=[.tup (.int a::l.map D.int)]) rfl ⟨⟨trivial,pl⟩,trivial⟩ trivial (k _ _ _ (by simp;omega) (by simp;omega) p6)
  rw[if_neg hab]at er ⊢;subst er;rw[Pw b l]at I;refine qb (xc ..) (qf (xi t) (rg rt pl ?_));refine qe (us:=[.tup (l.map D.int)]) hf rfl (by simp) (by simp) ⟨pl,trivial⟩ trivial ⟨trivial,trivial⟩ ⟨trivial,⟨trivial,trivial,trivial⟩,trivial⟩ (qo ..) rfl (by simp) (λz=>by simp at z;omega) I.cut (λq _=>?_)
  have pe:=I.go (n:=(cl++[D.tup [.str f,.tup [.tup (.int a::l.map D.int)],upD fs,.bl false,.non]]).length) q;rw[wg];refine ih _ _ _ _ _ _ pr (by simp;omega) (by simp;omega) pe λmore j v hm hs hp=>?_
  exact Xn (cl:=cl) (as:=[.tup (.int a::l.map D.int)]) rfl ⟨⟨trivial,pl⟩,trivial⟩ trivial (k _ _ _ (by simp;omega) (by simp at hs ⊢;omega) hp)
def addE(f l v r:Str):D:=.tup [.str "add",.tup [.str "add",calD f l,varD v],calD f r]
def addB(f x l v r:Str):D:=.tup [.str "tree",.str x,.tup [.str "give",.tup [.str "num",.int 0]],.str l,.str v,.str r,.tup [.str "give",addE f l v r]]
def kdT:Tr->List Str
 |.lf=>["call","open"]
 |.nd l _ r=>"call"::"open"::(kdT l++("sum" : Str)::(kdT r++[("sum" : Str)]))
def jk(f l v r:Str):zl (addE f l v r):=⟨trivial,⟨trivial,xc f l,xi v,trivial⟩,xc f r,trivial⟩
def qq(f x l v r:Str):zl (addB f x l v r):=⟨trivial,trivial,w6 ⟨trivial,trivial,trivial⟩,trivial,trivial,trivial,w6 (jk f l v r),trivial⟩
theorem Tr.ok:∀(t:Tr)(n:Nat),t.nodes<=n->okD n t.d
 |.lf,n,_=>by cases n <;> trivial
 |.nd l v r,0,h=>absurd h (Nat.not_succ_le_zero _)
 |.nd l v r,n+1,h=>by
  have h:l.nodes+r.nodes+1<=n+1:=h;intro d j;simp only[zam,List.not_mem_nil,or_false]at j;rcases j with rfl|rfl|rfl
  ·exact l.ok n (by omega)
  ·exact wt▸trivial
  exact r.ok n (by omega)
def Ps:∀t,kdT t=("call" : Str)::(kdT t).tail
 |.lf=>rfl
 |.nd _ _ _=>rfl
def Hx{f x l v r:Str}(nd:[x,l,v,r].Nodup)(hf:rowG fns f=some (.tup [.str f,pmD [(x,.str "tree")],.tup [.str "num",.tup [.int 0,.int 0]],addB f x l v r])) :
  ∀(t:Tr)(cl:List D)(ss:List (Int×Str))(fs:List (Int×List (Str×D)))(ts rs:List D)(rest:List Str),zp rs->fs.length+t.nodes<=10->cl.length+ss.length+ts.length+rs.length+20*t.nodes<=5000->Pre most full ss ((kdT t).tail++rest) ->
  (∀more B (u:Int),more.length<=2*t.nodes+1->B.length<=ss.length+6*t.nodes+1->Pre most full B rest->Fin C RT fns most (PK1 most full) (stt (cl++more) (sts B) fs ts (rs++[.int u]))) ->
  Fin C RT fns most (PK1 most full) (stt (cl++[.tup [.str f,.tup [t.d],upD fs,.bl false,.non]]) (sts ss) (fs++[((cl.length:Int),[(x,t.d)])]) (ts++[.tup [.str "leave"]]++[bdD (addB f x l v r)]) rs):=by
 have a2:x≠l:=λz=>by simp[z]at nd
 have a0:x≠v:=λz=>by simp[z]at nd
 have a1:x≠r:=λz=>by simp[z]at nd
 have a4:l≠v:=λz=>by simp[z]at nd
 have a5:l≠r:=λz=>by simp[z]at nd
 have a3:v≠r:=λz=>by simp[z]at nd
 intro t
 induction t with
 |lf =>
  intro cl ss fs ts rs rest pr lf lb j k;refine Oh ue (w6 ⟨trivial,trivial,trivial⟩) (w6 (jk ..)) (by simp) j.cut (λq=>?_)
  have p2:=j.go (n:=cl.length) q;rw[wg];exact qb ⟨trivial,trivial,trivial⟩ (Zw (Xn (cl:=cl) (more:=[]) (as:=[.non]) (by rw[List.append_nil];rfl) ⟨trivial,trivial⟩ trivial (k _ _ 0 (by simp) (by simp) p2)))
 |nd a i c iha ihc =>
  intro cl ss fs ts rs rest pr lf lb j k;have N:(Tr.nd a i c).nodes=a.nodes+c.nodes+1:=rfl;rw[N]at lf lb;have pt:zp [(Tr.nd a i c).d]:=⟨(Tr.nd a i c).pure,trivial⟩;have ek:(kdT (.nd a i c)).tail++rest=("open" : Str)::(kdT a++("sum" : Str)::(kdT c++("sum" : Str)::rest)):=by
   show("open" : Str)::((kdT a++("sum" : Str)::(kdT c++[("sum" : Str)]))++rest)=_;simp
  rw[ek]at j;refine Og (v1:=a.d) (v2:=.int i) (v3:=c.d) ue ⟨a.pure,trivial,c.pure,trivial⟩ ((Tr.nd a i c).ok 40 (by rw[N];omega)) (w6 ⟨trivial,trivial,trivial⟩) (w6 (jk ..)) (by simp) nd j.cut (λq=>?_)
  have p2:=j.go (n:=cl.length) q;rw[wg];refine qb (jk ..) (Zv (.inr (.inr (.inl rfl))) ⟨trivial,xc ..,xi v,trivial⟩ (xc ..) (Zv (.inr (.inr (.inl rfl))) (xc ..) (xi v) (qf (xi l) (rg ((uv a2).trans ue) a.pure ?_))));rw[Ps a]at p2;refine qe (us:=[a.d]) hf rfl (by simp) (by simp) ⟨a.pure,trivial⟩ trivial ⟨trivial,trivial⟩ ⟨trivial,⟨trivial,trivial,trivial⟩,trivial⟩ (qq ..) rfl (by simp) (λz=>by simp at z;omega) p2.cut (λq _=>?_)
  have pe:=p2.go (n:=(cl++[D.tup [.str f,.tup [(Tr.nd a i c).d],upD fs,.bl false,.non]]).length) q;rw[wg];refine iha _ _ _ _ _ _ pr (by simp;omega) (by simp;omega) pe λmore B u hm hs hp=>?_
  have a8:B.length<=ss.length+6*a.nodes+3:=by simp at hs;omega
  refine rg ((uv a0).trans ((uv a4).trans ue)) trivial (Vj (.inl rfl) hp.cut (λq=>?_));have p3:=hp.go (n:=cl.length) q;rw[wg];refine qf (xi r) (rg ((uv a1).trans ((uv a5).trans ((uv a3).trans ue))) c.pure ?_);rw[Ps c]at p3;refine qe (us:=[c.d]) hf rfl (by simp) (by simp) ⟨c.pure,trivial⟩ trivial ⟨trivial,trivial⟩ ⟨trivial,⟨trivial,trivial,trivial⟩,trivial⟩ (qq ..) rfl (by simp) (λz=>by simp at z;omega) p3.cut (λq _=>?_)
  have pe:=p3.go (n:=(cl++[D.tup [.str f,.tup [(Tr.nd a i c).d],upD fs,.bl false,.non]]++more).length) q;rw[wg];refine ihc _ _ _ _ _ _ (prs1 pr trivial) (by simp;omega) (by simp;omega) pe λI Z u2 a9 a6 M=>?_
  have a7:Z.length<=ss.length+6*a.nodes+6*c.nodes+6:=by simp at a6;omega
  refine Vj (.inl rfl) M.cut (λq=>?_);have p4:=M.go (n:=cl.length) q;rw[wg];exact Xn (cl:=cl) (more:=more++I) (as:=[(Tr.nd a i c).d]) (List.append_assoc _ _ _) pt trivial (k _ _ _ (by simp[N];omega) (by simp[N];omega) p4)
def Nd{cl:List D}{ss:List (Int×Str)}{v:Int}(h:Pre most full ss []):PK1 most full (stt cl (sts ss) [] [] [.int v]):=⟨ss,rfl,by
 rw[h.1,List.append_nil,List.take_of_length_le];rw[zLm];have:=h.2;omega,.inr ⟨rfl,_,_,rfl,trivial⟩⟩
def Rx{j:Str}{as:List D}{ps:List (Str×D)}{B:D}(I:full=("call" : Str)::full.tail)(h:Pre most full [(0,"call")] full.tail->Fin C RT fns most (PK1 most full) (stt ([]++[.tup [.str j,.tup as,upD [],.bl false,.non]]) (sts [(0,"call")]) ([]++[(0,(ps.map Prod.fst).zip as)]) ([]++[.tup [.str "leave"]]++[bdD B]) [])) :
  Fin C RT fns most (PK1 most full) (u7 most j as ps B ms0):=by
 by_cases q:most<=0
 ·have e:u7 most j as ps B ms0={ms0 with cut:=true}:=by
   unfold u7;rw[if_neg (by decide),wj (s:=ms0) q]
  rw[e];exact xk (.inr rfl) ⟨[],rfl,by rw[show most.toNat=0 by omega];rfl,.inl rfl⟩
 have e:u7 most j as ps B ms0=stt ([]++[.tup [.str j,.tup as,upD [],.bl false,.non]]) (sts [(0,"call")]) ([]++[(0,(ps.map Prod.fst).zip as)]) ([]++[.tup [.str "leave"]]++[bdD B]) []:=by
  unfold u7;rw[if_neg (by decide),wy (s:=ms0) q]
  rfl
 rw[e];exact h ⟨I,by show(1:Int)<=most;omega⟩
def tot(pr:Str->Int)(ks:List Str):Int:=(ks.map pr).sum
def tPrO:FT:=λds U=>∃(ss:List (Int×Str))(pr:Str->Int),ds=[.lst (sts ss),tabD pr]/\ss.length<=10000/\(∀p∈ss,p.2∈wn)/\cq pr/\U (dv (.int (tot pr (ss.map Prod.snd))))
structure Fn1(C:Addr)(fns:List (Str×D))(nm s:Str)(most:Int)(p:Str)(b:D)(kd:D->List Str)(vs:List D):Prop where
 len:fns.length<=100
 nd:(fns.map Prod.fst).Nodup
 pf:zp (fns.map Prod.snd)
 hn:∀q∈fns,∃r,q.2=.tup (.str q.1::r)
 row:rowG fns nm=some (.tup [.str nm,pmD [(p,.str s)],.tup [.str "num",.tup [.int 0,.int 0]],b])
 pb:zl b
 ne:vs≠[]
 run:∀v∈vs,FzT (.str s) v/\zl v/\(kd v).length<=1000/\(∀k∈kd v,k∈wn)/\Fin C RT fns most (PK1 most (kd v)) (u7 most nm [v] [(p,.str s)] b ms0)
theorem Qw:∀{ds:List D},plnD.plnDs ds->∀d∈ds,plnD d
 |d::ds,h,e,he=>(zam.mp he).elim (λz=>z▸h.1) (Qw h.2 e)
def Hr{te:TD}{L:DE}{Z:DZ}(h:te L λr=>Z.rt r.ret):sRet te L Z:=h
def Wr{te:TD}{u:TDS}{L:DE}{Z:DZ}(h:te L λ_=>u L Z):sSeq (Hu te) u L Z:=h
def Lp{C:Addr}{R:Str->D->Int->Prop}{fns:List (Str×D)}{most:Int}{P Q:MS->Prop}{s:MS}(h:Fin C R fns most P s)(k:∀ s,P s->Q s):Fin C R fns most Q s:=let ⟨n,s1,r,p⟩:=h;⟨n,s1,r,k s1 p⟩
def Ry{U:EV->Prop}{s:MS}(h:s.cut=true\/(s.cut=false/\∃ v r,s.ready=v::r/\zl v))(k:∀ b w,U ⟨.new,.tup [.bl b,w,.lst s.calls,.lst s.steps]⟩):z0b U s:=h.imp (λc=>⟨c,k _ _⟩) λ⟨c,v,r,e,p⟩=>⟨c,v,r,e,p,k _ _⟩
def pc(pr:Str->Int)(most:Int)(j:D->List Str)(v:D):Int:=tot pr ((j v).take most.toNat)
def dh(C:Addr):FT:=λds U=>∃(fns:List (Str×D))(nm s:Str)(n:Nat)(ns:List Int)(most:Int)(pr:Str->Int)(p:Str)(b:D)(kd:D->List Str),ds=[.tup (fns.map Prod.snd),tabD pr,.str nm,.lst [.int n],.lst (ns.map D.int),.int most]/\n<=3/\ns.length<=3/\cq pr /\
 ∀ms:List Int,(∀k,k∈ms ↔ k∈ns)->ms.length<=ns.length->∃vs,Vls s n ms vs/\Fn1 C fns nm s most p b kd vs/\∀v∈vs,(∀u∈vs,pc pr most kd u<=pc pr most kd v)->U (dv (.tup [.int (pc pr most kd v),.lst [v]]))
def Vk(T:Tops mg)(j:FD P w K mg base 3 "check_table" ["table"] tChT)(F:Fun K "price_of" "price_of" (top 24) f fd)(m:mg "price_of" = some (.ref f)):FD P w K mg base 4 "price_of" ["steps","table"] tPrO:=by
 have S:zj ["steps","table"] ["steps","table"] (zb (top 24)):=by walk_at "f"
 walk_at "b";refine⟨_,(zd (Z7 (zy j (hr.e rfl) (z9 (z0 1) za)))
   (zk (yd (Vp T.sum (z9 (wb (T:=["number","kind"]) (F:=["table"]) (js:=[1]) (wo (z0 0)) (show y8 (zb (top 24)) _ _ _ from by walk_at "c") (.cons rfl .nil) (by decide) (by walk_at "t") (Xg (ub w8 (gz w8 sv) (yo (by decide)) (ub w8 sv (yo (by decide)) Xh))) (ut 0 1) (λcl C fp s H=>xp) (λcl C fp s H=>(ze hu (z0 2) (z0 1)))) za))))),?_⟩
 obtain⟨ss,pr,rfl,l1,I,ok,h⟩:=hT;refine Wr ⟨rfl,pr,rfl,ok,?_⟩;refine Hr (Y9 (yp (sts ss) (λN q=>⟨trivial,q⟩) (λd=>match d with|.tup [_,.str w]=>some (.int (pr w))|_=>none) (by rw[Wp];omega) (λd M=>?_) ?_))
 ·obtain⟨p,B,rfl⟩:=zah.mp M;exact⟨λ_=>Jl (T3 (I p B)) ⟨trivial,rfl⟩,nofun⟩
 have e:(sts ss).filterMap (λd=>match d with|.tup [_,.str w]=>some (D.int (pr w))|_=>none)=((ss.map Prod.snd).map pr).map D.int:=by
  rw[List.filterMap_map,List.map_map,List.map_map];exact rz (λp:Int×Str=>D.int (pr p.2)) ss
 show match j9 ((sts ss).filterMap _) with|some ns=>_|none=>False
 rw[e,t9];exact⟨trivial,h⟩
def Re{v0:Value}(T:Tops mg)(a3:FD P w K mg base 3 "check_table" ["table"] tChT)(j:FW P w K mg base 2 "shapes_of" pB [] tShp)(a2:FD P w K mg base 3 "check_inputs" pD tChI)(B:FW P w K mg base 4 "inputs_of" pD [] tInp)(a0:FD P w K mg base 10 "trace" ["program","name","args","most"] (Q2 C RT FzT))(a1:FD P w K mg base 4 "price_of" ["steps","table"] tPrO)(F:FunV K "dearest" "dearest" (top 27) f v0 fd):FnOk P w K mg base CX0 11 f fd ["program","table","name","sizes","numbers","most"] (spO K 6 (dh C)):=by
 have S:zj ["program","table","name","sizes","numbers","most","shapes","found","args","price"] pJ (zb (top 27)):=by walk_at "f"
 refine Ak F S λqZ A outer s H E ds U hr hl hT=>?_;have hu:=hr.units;refine⟨_,(zd (Z7 (zy a3 (hr.e rfl) (z9 (z0 1) za)))
   (zd (y9 6 S.nd (va j (hr.e rfl) (z9 (z0 0) (z9 (z0 2) za))))
   (zd (Z7 (zy a2 (hr.e rfl) (z9 (z0 6) (z9 (z0 3) (z9 (z0 4) za)))))
   (zd (y9 7 S.nd sy)
   (zd (vm (wo (va B (hr.e rfl) (z9 (z0 6) (z9 (z0 3) (z9 (z0 4) za))))) (zm (i:=8) S.nd rfl (by walk_at "o")) (yj 8) (zd (y9 9 S.nd (zy a1 (hr.e rfl) (z9 (ze hu (zy a0 (hr.e rfl) (z9 (z0 0) (z9 (z0 2) (z9 (z0 8) (z9 (z0 5) za))))) zc) (z9 (z0 1) za))))
    (zk (xy (EW.et (qh (Em (z0 7) sy) (qg (Y5 (z0 9) (ze hu (z0 7) zc))))) (zk (y9 7 S.nd (zn (z9 (z0 9) (z9 (z0 8) za))))) ym))))
   (zk (yd (z0 7)))))))),?_⟩
 obtain⟨fns,nm,s,n,ns,most,pr,p,b,I,rfl,n3,m3,ok,h⟩:=hT;have hS:∃vs,Fn1 C fns nm s most p b I vs:=by
  obtain⟨vs,_,M,_⟩:=h ns (λ_=>Iff.rfl) (zaj _);exact⟨vs,M⟩
 obtain⟨_,f0⟩:=hS;refine Wr ⟨rfl,pr,rfl,ok,?_⟩;refine yb ⟨⟨trivial,trivial,trivial⟩,rfl,fns,nm,_,_,_,_,rfl,f0.len,f0.hn,f0.row,⟨trivial,⟨⟨trivial,trivial,trivial⟩,trivial⟩,⟨trivial,⟨trivial,trivial,trivial⟩,trivial⟩,f0.pb,trivial⟩,Nat.le_of_ble_eq_true rfl,⟨trivial,trivial⟩,trivial,?_⟩;refine wk (ρ':=[q_ (.tup (fns.map Prod.snd)),q_ (tabD pr),q_ (.str nm),q_ (.lst [.int n]),q_ (.lst (ns.map D.int)),q_ (.int most),q_ (.lst [.str s]),none,none,none]) (by rfl) (Wr ⟨rfl,s,n,ns,rfl,n3,m3,?_⟩)
 refine yb ⟨trivial,yn ?_⟩;refine⟨⟨trivial,trivial,trivial,trivial⟩,rfl,s,n,ns,rfl,n3,m3,λms hm a7=>?_⟩;obtain⟨vs,hv,M,a6⟩:=h ms hm a7;have pl:plnD (.lst (vs.map λv=>.lst [v])):=rb (ds:=vs.map λv=>.lst [v]) λd hd=>by
  obtain⟨v,mv,rfl⟩:=zah.mp hd;exact⟨Qw (hv.pln n3).1 v mv,trivial⟩
 refine⟨vs,hv,pl,trivial,λi L=>∃fo a c,L=[q_ (.tup (fns.map Prod.snd)),q_ (tabD pr),q_ (.str nm),q_ (.lst [.int n]),q_ (.lst (ns.map D.int)),q_ (.int most),q_ (.lst [.str s]),q_ fo,a,c]/\((i=0/\fo=.non)\/∃v∈vs,fo=.tup [.int (pc pr most I v),.lst [v]]/\∀u∈vs.take i,pc pr most I u<=pc pr most I v),⟨.non,none,none,rfl,.inl ⟨rfl,rfl⟩⟩,?_,?_⟩
 ·rintro i d _ hd ⟨fo,a,c,rfl,Z⟩;rw[zai]at hd;obtain⟨v,ev,rfl⟩:=zar.mp hd;have mv:=zan ev;obtain⟨r1,r2,r3,r4,r5⟩:=M.run v mv;have tk:∀w:D,(∀u∈vs.take i,pc pr most I u<=pc pr most I w)->pc pr most I v<=pc pr most I w->∀u∈vs.take (i+1),pc pr most I u<=pc pr most I w:=λw h1 h2 u hu=>by
   rw[List.take_add_one,ev]at hu;rcases zas.mp hu with hu|hu
   ·exact h1 u hu
   cases List.mem_singleton.mp hu
   exact h2
  have a4:∀ss:List (Int×Str),ss.map Prod.snd=(I v).take most.toNat->∀N:EV->Prop,N (dv (.int (pc pr most I v)))->tPrO [.lst (sts ss),tabD pr] N:=λss es N a5=>by
   have hl:ss.length<=1000:=by
    have:=congrArg List.length es;rw[zLm,List.length_take]at this;omega
   refine⟨ss,pr,rfl,by omega,λq hq=>?_,ok,by rw[es];exact a5⟩
   have:q.2∈(I v).take most.toNat:=by
    rw[<- es];exact List.mem_map_of_mem hq
   exact r4 _ (List.mem_of_mem_take this)
  refine dq (yb ⟨rfl,fns,nm,[v],most,_,_,_,_,rfl,M.len,M.nd,M.pf,M.hn,M.row,trivial,⟨trivial,trivial⟩,⟨trivial,⟨trivial,trivial,trivial⟩,trivial⟩,M.pb,⟨r2,trivial⟩,rfl,Nat.le_of_ble_eq_true rfl,List.nodup_cons.mpr ⟨nofun,List.nodup_nil⟩,λq hq=>?_,Lp r5 λs1 ⟨ss,e1,e2,hc⟩=>Ry hc λbb ww=>?_⟩)
  ·cases List.mem_singleton.mp hq
   exact r1
  rw[e1];refine⟨rfl,a4 ss e2 _ ⟨trivial,?_⟩⟩;rcases Z with⟨rfl,rfl⟩|⟨u,mu,rfl,hu⟩
  ·exact⟨λ_=>⟨λ_=>⟨rfl,rfl,trivial,_,_,_,rfl,.inr ⟨v,mv,rfl,tk v nofun (Int.le_refl _)⟩⟩,nofun⟩,nofun⟩
  refine⟨nofun,λ_=>?_⟩;by_cases q:pc pr most I u<pc pr most I v
  ·exact⟨λ_=>⟨rfl,rfl,trivial,_,_,_,rfl,.inr ⟨v,mv,rfl,tk v (λz hz=>Int.le_trans (hu z hz) (Int.le_of_lt q)) (Int.le_refl _)⟩⟩,λz=>absurd q (of_decide_eq_false z)⟩
  exact⟨λz=>absurd (of_decide_eq_true z) q,λ_=>⟨_,_,_,rfl,.inr ⟨u,mu,rfl,tk u hu (Int.not_lt.mp q)⟩⟩⟩
 rintro _ ⟨fo,a,c,rfl,Z⟩;rw[zLm,List.take_length]at Z;rcases Z with⟨z,_⟩|⟨v,mv,rfl,hm⟩
 ·exact absurd (List.length_eq_zero_iff.mp z) M.ne
 exact a6 v mv hm
def letC(w:Int):Nat:=(("abcdfghjkmnopqrstuvwxyz" : Str).cps.toList).getD w.toNat 0
def one(c:Nat):Str:=⟨#[c]⟩
def Su(ws:List Int)(a:Nat)(k:Nat):Str:=Str.join "" ((ws.set a ((ws.getD a 0+(k:Int)).fmod 23)).map λw=>one (letC w))
theorem T7:∀cs:List Nat,(Str.join "" (cs.map one)).cps.toList=cs
 |[]=>rfl
 |[c]=>rfl
 |c::c2::cs=>by
  have j:=T7 (c2::cs);have e:Str.join "" ((c::c2::cs).map one)=one c++("" : Str)++Str.join "" ((c2::cs).map one):=rfl;rw[e];show((#[c]++#[])++(Str.join "" ((c2::cs).map one)).cps:Array Nat).toList=_;rw[Array.toList_append,j];rfl
def L4:∀i j:_root_.Fin 23,letC (i.val:Int)=letC (j.val:Int)->i=j:=by decide +kernel
def Wx(ws:List Int)(a:Nat)(ha:a<ws.length)(m:Nat)(hm:m<=20):((List.range m).map (Su ws a)).Nodup:=by
 refine List.pairwise_map.mpr (List.Pairwise.imp_of_mem ?_ List.nodup_range);intro k B I j N e;refine N ?_;have I:=List.mem_range.mp I;have j:=List.mem_range.mp j;have ee:∀k,(Su ws a k).cps.toList=(ws.set a ((ws.getD a 0+(k:Int)).fmod 23)).map letC:=λk=>by
  unfold Su;rw[show((ws.set a ((ws.getD a 0+(k:Int)).fmod 23)).map λw=>one (letC w))=((ws.set a ((ws.getD a 0+(k:Int)).fmod 23)).map letC).map one from by rw[List.map_map];rfl]
  exact T7 _
 have e2:=congrArg (λs:Str=>s.cps.toList[a]?) e;simp only[ee,zai,List.getElem?_set_self ha,Option.map_some,Option.some.injEq]at e2;have m1:=gi (ws.getD a 0+(k:Int)) 23 (by decide)
 have Z:=gi (ws.getD a 0+(B:Int)) 23 (by decide)
 have q:=L4 ⟨((ws.getD a 0+(k:Int)).fmod 23).toNat,by omega⟩ ⟨((ws.getD a 0+(B:Int)).fmod 23).toNat,by omega⟩ (by
  simp only;rw[Int.toNat_of_nonneg m1.1,Int.toNat_of_nonneg Z.1];exact e2)
 have M:(ws.getD a 0+(k:Int)).fmod 23=(ws.getD a 0+(B:Int)).fmod 23:=by
  have:=congrArg _root_.Fin.val q;simp only at this;omega
 rw[Int.fmod_eq_emod_of_nonneg _ (by decide),Int.fmod_eq_emod_of_nonneg _ (by decide)]at M
 omega
def Dh:FT:=λds U=>∃c,ds=[.int c]/\∀n,U (dv (.int n))
def Ky:FT:=λds U=>∃c:Int,∃m:Nat,ds=[.int c,.int m]/\m<=20/\∀zs:List Str,zs.length=m->zs.Nodup->U (df (.lst (zs.map D.str)))
def Xq(T:Tops mg)(F:Fun K "_law_names" "_law_names" (top 39) f fd)(m:mg "_law_names" = some (.ref f)):FD P w K mg base 1 "_law_names" ["_law_cell","_law_many"] Ky:=by
 have S:zj ["_law_cell","_law_many","_law_letters","_law_word","_law_at","_law_names_here","_law_k","_law_turned"] ["_law_cell","_law_many"] (zb (top 39)):=by walk_at "f"
 walk_at "b";refine⟨_,(zd (uc (y9 2 S.nd zf))
   (zd (uc (y9 0 S.nd (ve (z0 0) (fq zc zc))))
   (zd (uc (qu (T:=["_law_k"]) (F:=["_law_cell"]) (js:=[0]) 3 S.nd (uk T.range (z9 (yz zc (ve (z0 0) zc)) za)) (show y8 (zb (top 39)) _ _ _ from by walk_at "c") (.cons rfl .nil) (by decide) (by walk_at "t") (yo (by decide)) (yj 0) (λcl C fp s H=>xp) (λcl C fp s H=>(ve (yz (Xz (z0 1) (yz (z0 0) zc)) (uy (z0 0) (z0 0))) zc))))
   (zd (uc (y9 4 S.nd (ve (Xz (z0 0) zc) (xt T.len (z9 (z0 3) za)))))
   (zd (uc (y9 5 S.nd (yu za)))
   (zd (uc (vm (uk T.range (z9 (z0 1) za)) (zm (i:=6) S.nd rfl (by walk_at "o")) (yj 6) (zd (y9 7 S.nd (K3 T.list (z9 (z0 3) za)))
    (zd (Ho 7 hu (z0 4) (ve (yz (ze hu (z0 3) (z0 4)) (z0 6)) zc))
    (zk (t4 7 (jr 5 (K4 zf (wb (T:=["_law_part"]) (F:=["_law_letters"]) (js:=[2]) (wo (z0 7)) (show y8 (zb (top 39)) _ _ _ from by walk_at "c") (.cons rfl .nil) (by decide) (by walk_at "t") (yo (by decide)) (yj 0) (λcl C fp s H=>xp) (λcl C fp s H=>(ze hu (z0 1) (z0 0))))))))))))
   (zk (yd (z0 5))))))))),?_⟩
 obtain⟨c0,m,rfl,hl1,h⟩:=hT;have f9:∀(x:Int)(y:Int),y≠0->y.natAbs<=100->FdOk x y:=λx y a b=>of_eq_true (fh a (by omega))
 refine z_g [q_ (.int c0),q_ (.int m),q_ (.str "abcdfghjkmnopqrstuvwxyz"),none,none,none,none,none] ?_ ?_
 ·walk_at "dl"
 have cb:=gi c0 (10 ^ 9) (by decide)
 obtain⟨c,ec⟩:∃c,c0.fmod (10 ^ 9)=c:=⟨_,rfl⟩;rw[ec]at cb;refine z_g [q_ (.int c),q_ (.int m),q_ (.str "abcdfghjkmnopqrstuvwxyz"),none,none,none,none,none] ?_ ?_
 ·walk_at "dl";rw[ec]
 have c8:=gi c 8 (by decide)
 refine wv (λL=>∃ws:List Int,(∀w∈ws,0<=w/\w<23)/\1<=ws.length/\ws.length<=8/\L=[q_ (.int c),q_ (.int m),q_ (.str "abcdfghjkmnopqrstuvwxyz"),Q_ (.lst (ws.map D.int)),none,none,none,none]) ?_ ?_
 ·walk_at "dl";refine yp (rngD 0 (1+c.fmod 8).toNat) (λN j=>?_) (λd=>match d with|.int k=>some (.int ((c.fdiv (k+1)+k*k).fmod 23))|_=>none) (by rw[t5];omega) ?_ ?_
  ·walk_at "dl";exact⟨by omega,by omega,j⟩
  ·intro d M;obtain⟨i,hi⟩:=List.getElem?_of_mem M;obtain⟨a0,rfl⟩:=t6 hi;unfold ρ0;walk_at "dl";exact⟨fdOk (m:=64) (by omega) (Tu (by omega)),IntMulOk.of_left (Tu (m:=64) (by omega))⟩
  refine⟨trivial,(List.range (1+c.fmod 8).toNat).map λk:Nat=>(c.fdiv ((k:Int)+1)+(k:Int)*k).fmod 23,λw Z=>?_,by rw[zLm,List.length_range];omega,by rw[zLm,List.length_range];omega,?_⟩
  ·obtain⟨k,_,rfl⟩:=zah.mp Z;exact gi _ 23 (by decide)
  have e4:∀n,(rngD 0 n).filterMap (λd=>match d with|.int k=>some (D.int ((c.fdiv (k+1)+k*k).fmod 23))|_=>none)=((List.range n).map λk:Nat=>(c.fdiv ((k:Int)+1)+(k:Int)*k).fmod 23).map D.int:=λn=>by
   unfold rngD;rw[List.filterMap_map,List.map_map,<- List.filterMap_eq_map]
   congr 1
   funext k
   simp
  rw[e4]
 rintro _ ⟨ws,Z,l1,l2,rfl⟩;have ab:=gi (c.fdiv 8) ws.length (by omega)
 obtain⟨at_,ea⟩:∃at_:Nat,(c.fdiv 8).fmod ws.length=at_:=⟨((c.fdiv 8).fmod ws.length).toNat,by omega⟩
 rw[ea]at ab;refine z_g [q_ (.int c),q_ (.int m),q_ (.str "abcdfghjkmnopqrstuvwxyz"),Q_ (.lst (ws.map D.int)),q_ (.int at_),none,none,none] ?_ ?_
 ·walk_at "dl";rw[ea];exact⟨f9 _ _ (by decide) (by decide),by omega,rfl⟩
 refine z_g [q_ (.int c),q_ (.int m),q_ (.str "abcdfghjkmnopqrstuvwxyz"),Q_ (.lst (ws.map D.int)),q_ (.int at_),Q_ (.lst []),none,none] ?_ ?_
 ·walk_at "dl"
 refine wv (λL=>∃a b,L=[q_ (.int c),q_ (.int m),q_ (.str "abcdfghjkmnopqrstuvwxyz"),Q_ (.lst (ws.map D.int)),q_ (.int at_),Q_ (.lst (((List.range m).map (Su ws at_)).map D.str)),a,b]) ?_ ?_
 ·refine wq (rngD 0 m) (λN j=>?_) (λi L=>∃a b,L=[q_ (.int c),q_ (.int m),q_ (.str "abcdfghjkmnopqrstuvwxyz"),Q_ (.lst (ws.map D.int)),q_ (.int at_),Q_ (.lst (((List.range i).map (Su ws at_)).map D.str)),a,b]) ⟨none,none,rfl⟩ ?_ ?_
  ·walk_at "dl";exact⟨by omega,by omega,j⟩
  ·rintro i d _ M ⟨a,b,rfl⟩;obtain⟨hi,rfl⟩:=t6 M;have lt:at_<ws.length:=by omega
   have e1:atI ws (at_:Int)=some (ws.getD at_ 0):=da (by omega) (by simp[lt])
   have e2:ixN ws.length (at_:Int)=some at_:=by
    unfold ixN;rw[if_pos (by omega),if_pos (by omega)]
    simp
   have I:(("abcdfghjkmnopqrstuvwxyz" : Str).cps.toList).length=23:=by decide +kernel
   have sz:("abcdfghjkmnopqrstuvwxyz" : Str).length<=sizeLine:=by rw[sizeLine_eq];decide +kernel
   walk_at "dl";simp only[e1,e2,Option.map_some];simp only[Jw,dC];have es:(ws.map D.int).set at_ (.int ((ws.getD at_ 0+(i:Int)).fmod 23))=(ws.set at_ ((ws.getD at_ 0+(i:Int)).fmod 23)).map D.int:=by rw[List.map_set]
   rw[es];have hv:∀w∈ws.set at_ ((ws.getD at_ 0+(i:Int)).fmod 23),0<=w/\w<23:=λw B=>by
    rcases List.mem_or_eq_of_mem_set B with q|q
    ·exact Z w q
    rw[q];exact gi _ 23 (by decide)
   have lv:(ws.set at_ ((ws.getD at_ 0+(i:Int)).fmod 23)).length<=8:=by rw[List.length_set];exact l2
   have en:Su ws at_ i=Str.join "" ((ws.set at_ ((ws.getD at_ 0+(i:Int)).fmod 23)).map λw=>one (letC w)):=rfl;generalize ws.set at_ ((ws.getD at_ 0+(i:Int)).fmod 23)=vs at hv lv en;refine yp (vs.map D.int) (λN j=>?_) (λd=>match d with|.int w=>some (.str (one (letC w)))|_=>none) (by rw[zLm];omega) ?_ ?_
   ·walk_at "dl";exact j
   ·intro d M;obtain⟨w,B,rfl⟩:=zah.mp M;obtain⟨w0,w1⟩:=hv w B;have e5:atI ("abcdfghjkmnopqrstuvwxyz" : Str).cps.toList w=some (letC w):=da w0 (by
     unfold letC;rw[List.getD_eq_getElem?_getD,zaf (by rw[I];omega)]
     rfl)
    unfold ρ0;walk_at "dl";rw[e5];exact⟨sz,rfl⟩
   have e6:(vs.map D.int).filterMap (λd=>match d with|.int w=>some (D.str (one (letC w)))|_=>none)=(vs.map λw=>one (letC w)).map D.str:=by
    rw[List.filterMap_map,List.map_map,<- List.filterMap_eq_map];rfl
   rw[e6];refine⟨_,rfl,?_,trivial,by simp;omega,q_ (.int i),q_ (.lst (vs.map D.int)),?_⟩
   ·have sm:∀us:List Int,((us.map λw=>one (letC w)).map λt=>t.length+(Str.ofString "").length).sum=us.length:=λus=>by
     induction us with
     |nil=>rfl
     |cons u us ih=>simp only[List.map_cons,List.sum_cons,ih,zLc];show 1+0+us.length=_;omega
    rw[sm,sizeLine_eq];omega
   rw[List.range_succ,zMa,zMa,List.map_cons,List.map_nil,List.map_cons,List.map_nil,en]
  rintro _ ⟨a,b,rfl⟩;rw[t5];exact⟨a,b,rfl⟩
 rintro _ ⟨a,b,rfl⟩;walk_at "dl";exact⟨yg.mpr λx hx=>by obtain⟨z,_,rfl⟩:=zah.mp hx;trivial,h _ (by simp) (Wx ws at_ (by omega) m hl1)⟩
def Y0(T:Tops mg)(F:Fun K "_law_number" "_law_number" (top 43) f fd)(m:mg "_law_number" = some (.ref f)):FD P w K mg base 1 "_law_number" ["_law_cell"] Dh:=by
 have S:zj ["_law_cell"] ["_law_cell"] (zb (top 43)):=by walk_at "f"
 walk_at "b";refine⟨_,(zd (xy (wl hu (ve (z0 0) zc) zc) (zk (yd (ul (ve (Xz (z0 0) zc) zc) zc))) ym)
   (zk (yd (yz (ul (ve (Xz (z0 0) zc) (ul (uy zc (fq zc zc)) zc)) (fq zc zc)) zc)))),?_⟩
 obtain⟨c,rfl,h⟩:=hT;walk_at "dl";exact⟨λ_=>⟨of_eq_true (fh (by decide) (by decide)),h _⟩,λ_=>⟨of_eq_true (fh (by decide) (by decide)),IntMulOk.of_left (by decide),by decide,h _⟩⟩
def Nx1:FT:=g2 λd e U=>∃(ns:List Int)(k:Nat),d=.scr ns/\e=.int k/\∀c:Int,U (dv (.int c))
def By{ns:List Int}{i n:Int}{U:EV->Prop}(h:atI ns i=some n)(k:U (dv (.int n))):sIxx (.scr ns) (.int i) U:=by
 unfold sIxx sIx1
 dsimp only
 rw[h];exact k
def K1{i:Nat}{d:D}(h:(enD (wn.map D.str))[i]?=some d):∃w,wn[i]?=some w/\d=.tup [.int i,.str w]:=by
 unfold enD at h;rw[zai,List.getElem?_zipIdx,zai]at h;cases e:wn[i]? with
 |none=>rw[e]at h;cases h
 |some w =>
  rw[e]at h;cases h;exact⟨w,rfl,by simp⟩
def len7{α:Type}{l:List α}(h:l.length=7):∃a b c d e f g,l=[a,b,c,d,e,f,g]:=match l,h with
 |[a,b,c,d,e,f,g],_=>⟨a,b,c,d,e,f,g,rfl⟩
def tabP(v1 v2 v3 I B q j:Int)(w:Str):Int:=if w = "call" then v1 else if w = "make" then v2 else if w = "sum" then v3 else if w = "let" then I else if w = "less" then B else if w = "open" then q else j
def Ni:wn.Nodup:=by decide
def Nu{α:Type}{l:List α}{i:Nat}{x:α}(nd:l.Nodup)(h:l[i]?=some x):x∉l.take i:=λm=>by
 obtain⟨j,B⟩:=List.getElem?_of_mem m;rw[List.getElem?_take]at B;split at B
 ·rename_i q;obtain⟨a,M⟩:=zag.mp h;obtain⟨b,I⟩:=zag.mp B;have:=(List.pairwise_iff_getElem.mp nd) j i b a q;rw[M,I]at this;exact this rfl
 cases B
def cntF(f:Str)(b:Int)(x h t z:Str):D:=.tup [.str f,pmD [(x,.str "list")],.tup [.str "num",.tup [.int 0,.int 0]],cntB f b x h t z]
def addF(f x l v r:Str):D:=.tup [.str f,pmD [(x,.str "tree")],.tup [.str "num",.tup [.int 0,.int 0]],addB f x l v r]
def Yk:FT:=λds U=>∃(f x h t z y:Str)(b:Int),ds=[.str f,.int b,.lst [.str x,.str h,.str t,.str z,.str y]]/\U (dv (cntF f b x h t z))
def Qa:FT:=λds U=>∃(f x l v r y z:Str),ds=[.str f,.lst [.str x,.str l,.str v,.str r,.str y,.str z]]/\U (dv (addF f x l v r))
def Ku:FT:=λds U=>∃ns,ds=[.scr ns]/\∀pr:Str->Int,cq pr->(∀w,pr w<10 ^ 30)->U (df (tabD pr))
def tNbs:FT:=λds U=>∃ns,ds=[.scr ns]/\∀(ms:List Int)(b:Int),ms≠[]->ms.length<=3->ms.Nodup->U (dv (.tup [.lst (ms.map D.int),.int b]))
def tPrd:FT:=λds U=>∃(p d:Int)(v:D),ds=[.tup [.int p,.lst [v]],.int d]/\U (dv (.bl (decide (p=d))))
def Kv:FT:=λds U=>∃(l ms:List Int),ds=[.tup (l.map D.int),.int l.length,.lst (ms.map D.int)]/\l.length<=3/\(∀x∈l,x∈ms)/\U (dv (.bl true))
def Q1:FT:=λds U=>∃(t:Tr)(c:Int),ds=[t.d,.int t.nodes,.int c]/\t.nodes<=3/\t.all c/\U (dv (.bl true))
def ca(T:Tops mg)(F:Fun K "_law_cell_at" "_law_cell_at" (top 37) f fd)(m:mg "_law_cell_at" = some (.ref f)):FD P w K mg base 1 "_law_cell_at" pF Nx1:=by
 have S:zj ["_law_script","_law_k"] pF (zb (top 37)):=by walk_at "f"
 walk_at "b";refine⟨_,(zd (xy (Lw (z0 1) (xt T.len (z9 (z0 0) za))) (zk (yd (ze hu (z0 0) (z0 1)))) ym)
   (zk (yd zc))),?_⟩
 obtain⟨a,b,rfl,ns,k,rfl,rfl,h⟩:=z1i hT;refine yn (Ht (decide ((k:Int)<ns.length)) (λN j=>j) (λz=>?_) (λ_=>⟨trivial,h 0⟩));have q:k<ns.length:=by have:=of_decide_eq_true z;omega
 have e:atI ns (k:Int)=some ns[k]:=da (by omega) (by simp[q])
 exact By e ⟨trivial,h _⟩
def Xo(T:Tops mg)(F:Fun K "_law_whole" "_law_whole" (top 38) f fd)(m:mg "_law_whole" = some (.ref f)):FD P w K mg base 1 "_law_whole" pE Yi:=by
 have S:zj ["_law_found"] pE (zb (top 38)):=by walk_at "f"
 walk_at "b";refine⟨_,(zk (yd (W0 (xu T.isinstance (z9 (z0 0) (z9 (ck T.int d8) za))) (Xy (Jv (xu T.isinstance (z9 (z0 0) (z9 (ck T.bool bv) za)))))))),?_⟩;obtain⟨n,rfl,h⟩:=hT;exact⟨λ_=>⟨trivial,h⟩,nofun⟩
def fj(T:Tops mg)(F:Fun K "_law_counting" "_law_counting" (top 40) f fd)(m:mg "_law_counting" = some (.ref f)):FD P w K mg base 1 "_law_counting" pH Yk:=by
 have S:zj ["_law_f","_law_bound","_law_names_here","_law_x","_law_h","_law_t","_law_z","_law_rest","_law_below","_law_body"] pH (zb (top 40)):=by walk_at "f"
 walk_at "b";refine⟨_,(zd (Hn (xb (z0 2) vv (yt zc)) (P1 (K0:=K) (n:=4) (by rfl) (by rfl) (ye (zm (i:=3) S.nd rfl (by walk_at "o")) (ye (zm (i:=4) S.nd rfl (by walk_at "o")) (ye (zm (i:=5) S.nd rfl (by walk_at "o")) (ye (zm (i:=6) S.nd rfl (by walk_at "o")) vn))))) (O6 3 4 5 6))
   (zd (y9 7 S.nd (zn (z9 zf (z9 (z0 0) (z9 (zn (z9 (zn (z9 zf (z9 (z0 5) za))) za)) za)))))
   (zd (y9 8 S.nd (zn (z9 zf (z9 (z0 6) (z9 (zn (z9 zf (z9 (zn (z9 zf (z9 (z0 4) za))) (z9 (zn (z9 zf za)) za)))) (z9 (zn (z9 zf (z9 (zn (z9 zf (z9 (zn (z9 zf (z9 zc za))) (z9 (z0 7) za)))) za))) za))))))
   (zd (y9 9 S.nd (zn (z9 zf (z9 (z0 3) (z9 (zn (z9 zf (z9 (zn (z9 zf (z9 zc za))) za))) (z9 (z0 4) (z9 (z0 5) (z9 (zn (z9 zf (z9 (zn (z9 zf (z9 (z0 4) za))) (z9 (zn (z9 zf (z9 (z0 1) za))) (z9 (z0 8) (z9 (zn (z9 zf (z9 (z0 7) za))) za)))))) za))))))))
   (zk (yd (zn (z9 (z0 0) (z9 (zn (z9 (zn (z9 (z0 3) (z9 zf za))) za)) (z9 (zn (z9 zf (z9 (zn (z9 zc (z9 zc za))) za))) (z9 (z0 9) za))))))))))),?_⟩
 obtain⟨q,x,j,t,z,y,b,rfl,h⟩:=hT;refine yn ⟨trivial,?_⟩;exact⟨rfl,rfl,rfl,rfl,rfl,rfl,trivial,rfl,rfl,rfl,rfl,rfl,rfl,rfl,rfl,rfl,rfl,rfl,rfl,rfl,rfl,trivial,rfl,rfl,rfl,rfl,rfl,rfl,rfl,rfl,rfl,rfl,rfl,rfl,rfl,rfl,trivial,rfl,rfl,rfl,rfl,rfl,rfl,rfl,rfl,rfl,rfl,⟨trivial,⟨⟨trivial,trivial,trivial⟩,trivial⟩,⟨trivial,⟨trivial,trivial,trivial⟩,trivial⟩,qo ..,trivial⟩,h⟩
def Y1(T:Tops mg)(F:Fun K "_law_adding" "_law_adding" (top 41) f fd)(m:mg "_law_adding" = some (.ref f)):FD P w K mg base 1 "_law_adding" ["_law_f","_law_names_here"] Qa:=by
 have S:zj ["_law_f","_law_names_here","_law_x","_law_l","_law_v","_law_r","_law_both","_law_body"] ["_law_f","_law_names_here"] (zb (top 41)):=by walk_at "f"
 walk_at "b";refine⟨_,(zd (Hn (xb (z0 1) vv (yt zc)) (P1 (K0:=K) (n:=4) (by rfl) (by rfl) (ye (zm (i:=2) S.nd rfl (by walk_at "o")) (ye (zm (i:=3) S.nd rfl (by walk_at "o")) (ye (zm (i:=4) S.nd rfl (by walk_at "o")) (ye (zm (i:=5) S.nd rfl (by walk_at "o")) vn))))) (O6 2 3 4 5))
   (zd (y9 6 S.nd (zn (z9 zf (z9 (zn (z9 zf (z9 (zn (z9 zf (z9 (z0 0) (z9 (zn (z9 (zn (z9 zf (z9 (z0 3) za))) za)) za)))) (z9 (zn (z9 zf (z9 (z0 4) za))) za)))) (z9 (zn (z9 zf (z9 (z0 0) (z9 (zn (z9 (zn (z9 zf (z9 (z0 5) za))) za)) za)))) za)))))
   (zd (y9 7 S.nd (zn (z9 zf (z9 (z0 2) (z9 (zn (z9 zf (z9 (zn (z9 zf (z9 zc za))) za))) (z9 (z0 3) (z9 (z0 4) (z9 (z0 5) (z9 (zn (z9 zf (z9 (z0 6) za))) za)))))))))
   (zk (yd (zn (z9 (z0 0) (z9 (zn (z9 (zn (z9 (z0 2) (z9 zf za))) za)) (z9 (zn (z9 zf (z9 (zn (z9 zc (z9 zc za))) za))) (z9 (z0 7) za)))))))))),?_⟩
 obtain⟨j,x,l,v,r,y,z,rfl,h⟩:=hT;refine yn ⟨trivial,?_⟩;exact⟨rfl,rfl,rfl,rfl,rfl,rfl,rfl,rfl,rfl,rfl,rfl,rfl,rfl,rfl,rfl,rfl,rfl,rfl,trivial,rfl,rfl,rfl,rfl,rfl,rfl,rfl,rfl,trivial,rfl,rfl,rfl,rfl,rfl,rfl,rfl,rfl,rfl,rfl,⟨trivial,⟨⟨trivial,trivial,trivial⟩,trivial⟩,⟨trivial,⟨trivial,trivial,trivial⟩,trivial⟩,qq ..,trivial⟩,h⟩
def Xp(T:Tops mg)(F:Fun K "_law_table" "_law_table" (top 42) f fd)(m:mg "_law_table" = some (.ref f)):FD P w K mg base 1 "_law_table" pC Ku:=by
 have S:zj ["_law_script","_law_table_here","_law_k","_law_word","_law_cell"] pC (zb (top 42)):=by walk_at "f"
 walk_at "b";refine⟨_,(zd (y9 1 S.nd K7)
   (zd (vm (Xw T.enumerate (z9 (yu (z9 zf (z9 zf (z9 zf (z9 zf (z9 zf (z9 zf (z9 zf za)))))))) za)) (uq (K0:=K) (n:=2) (by rfl) (by rfl) (ye (zm (i:=2) S.nd rfl (by walk_at "o")) (ye (zm (i:=3) S.nd rfl (by walk_at "o")) vn))) (ut 2 3) (zd (y9 4 S.nd (Vp T.sum (z9 (Ep (z0 0) (yt (z0 2)) vv (yt zc)) za)))
    (zk (Hq 1 hu (z0 3) (ve (Xz (z0 4) zc) (ze hu (yu (z9 (fq zc zc) (z9 zc za))) (ve (z0 4) zc)))))))
   (zk (yd (z0 1))))),?_⟩
 obtain⟨ns,rfl,h⟩:=hT;refine yb ⟨trivial,yn ?_⟩;refine wq (enD (wn.map D.str)) (λN a0=>⟨rfl,rfl,trivial,a0⟩) (λi L=>∃(vs:List Int)(a b c:Option EV),vs.length=i/\(∀v∈vs,0<=v/\v<10 ^ 30)/\L=[q_ (.scr ns),Q_ (.dk ((wn.take i).map Sum.inr) (vs.map D.int)),a,b,c]) ⟨[],none,none,none,rfl,nofun,rfl⟩ ?_ ?_
 ·rintro i d _ hd ⟨vs,a,b,c,B,hv,rfl⟩;obtain⟨x,ex,rfl⟩:=K1 hd;have hi:i<7:=(zag.mp ex).1;have nk:(Sum.inr x:Key)∉(wn.take i).map Sum.inr:=λm=>by
   obtain⟨y,my,e⟩:=zah.mp m;cases e;exact Nu Ni ex my
  refine(show sSeq _ _ [q_ (.scr ns),Q_ (.dk ((wn.take i).map Sum.inr) (vs.map D.int)),q_ (.int i),q_ (.str x),c] _ from yb (Y9 ⟨by decide,?_⟩))
  show match j9 ((wf ns (some (i:Int)) none (some 7)).map D.int) with|some ns=>_|none=>False
  rw[t9];refine⟨trivial,?_⟩;obtain⟨r,q,er⟩:=Cj (10 ^ 30) 3 (wf ns (some (i:Int)) none (some 7)).sum;have h0:0<r:=by rcases q with rfl|rfl <;> decide
  have h1:r<=10 ^ 30:=by rcases q with rfl|rfl <;> decide
  walk_at "dl";refine⟨of_eq_true (fh (by decide) (by decide)),?_⟩
  rw[er];generalize (wf ns (some (i:Int)) none (some 7)).sum=cc;refine⟨by omega,by omega,vs++[(cc.fdiv 2).fmod r],q_ (.int i),q_ (.str x),q_ (.int cc),by rw[zLa,B];rfl,λv j=>?_,?_⟩
  ·rcases zas.mp j with j|j
   ·exact hv v j
   cases List.mem_singleton.mp j
   exact⟨Int.fmod_nonneg_of_pos _ h0,Int.lt_of_lt_of_le (Int.fmod_lt_of_pos _ h0) h1⟩
  have e1:kput ((wn.take i).map Sum.inr) (Sum.inr x)=(wn.take (i+1)).map Sum.inr:=by
   unfold kput;rw[if_neg nk,List.take_add_one,ex,zMa];rfl
  rw[e1,jj (by rw[zLm,zLm,List.length_take,B];have:wn.length=7:=rfl;omega) nk,zMa]
  rfl
 rintro _ ⟨vs,a,b,c,B,hv,rfl⟩;obtain⟨v1,v2,v3,v4,Z,M,I,rfl⟩:=len7 B;have hq:∀w,0<=tabP v1 v2 v3 v4 Z M I w/\tabP v1 v2 v3 v4 Z M I w<10 ^ 30:=λw=>by
  unfold tabP
  repeat' split
  all_goals exact hv _ (by simp)
 exact⟨⟨trivial,trivial,trivial,trivial,trivial,trivial,trivial,trivial⟩,h (tabP v1 v2 v3 v4 Z M I) (λw _=>(hq w).1) λw=>(hq w).2⟩
def du(T:Tops mg)(M:FD P w K mg base 1 "_law_number" ["_law_cell"] Dh)(B:FD P w K mg base 1 "_law_cell_at" pF Nx1)(F:Fun K "_law_numbers" "_law_numbers" (top 44) f fd)(m:mg "_law_numbers" = some (.ref f)):FO P w K mg base 2 "_law_numbers" pC tNbs:=by
 have S:zj ["_law_script","_law_base","_law_numbers_here","_law_bound"] pC (zb (top 44)):=by walk_at "f"
 refine Oa F S (F.binds λ_ _ _ _ _ _ us hl=>(by obtain⟨_,rfl⟩:=j8 hl;rfl)) m λqZ A outer s H E ds U hr hl hT=>?_
 have hu:=hr.units;refine⟨_,(zd (y9 1 S.nd (zy M (hr.e rfl) (z9 (zy B (hr.e rfl) (z9 (z0 0) (z9 zc za))) za)))
   (zd (uc (y9 2 S.nd (yu (z9 (z0 1) (z9 (yz (yz (z0 1) zc) (ve (zy B (hr.e rfl) (z9 (z0 0) (z9 zc za))) (fq zc zc))) (z9 (ul (ul (z0 1) zc) (ve (zy B (hr.e rfl) (z9 (z0 0) (z9 zc za))) (fq zc zc))) za))))))
   (zd (uc (y9 2 S.nd (xb (z0 2) vv (yt (yz zc (ve (Xz (zy B (hr.e rfl) (z9 (z0 0) (z9 zc za))) (fq zc zc)) zc))))))
   (zd (y9 3 S.nd (zy M (hr.e rfl) (z9 (zy B (hr.e rfl) (z9 (z0 0) (z9 zc za))) za)))
   (zd (uc (xy (Y4 hu (ve (zy B (hr.e rfl) (z9 (z0 0) (z9 zc za))) zc) zc) (zk (y9 3 S.nd (yz (ze hu (z0 2) (ve (Xz (zy B (hr.e rfl) (z9 (z0 0) (z9 zc za))) zc) (xt T.len (z9 (z0 2) za)))) (ve (Xz (zy B (hr.e rfl) (z9 (z0 0) (z9 zc za))) zc) zc)))) ym))
   (zk (t4 2 (yd (zn (z9 (z0 2) (z9 (z0 3) za))))))))))),?_⟩
 obtain⟨ns,rfl,h⟩:=hT;have hm:∀(i j:Int),0<j->0<=i.fmod j:=λi j=>Int.fmod_nonneg_of_pos i;refine yb ⟨rfl,ns,1,rfl,rfl,λc1=>⟨rfl,c1,rfl,λI=>⟨trivial,?_⟩⟩⟩;refine wv (λL=>∃a b:Int,0<=a/\0<=b/\L=[q_ (.scr ns),q_ (.int I),Q_ (.lst [.int I,.int (I+1+a),.int (I-1-b)]),none]) ?_ ?_
 ·walk_at "dl";refine⟨ns,2,rfl,rfl,λc2=>⟨by decide,ns,3,rfl,rfl,λN=>⟨by decide,_,_,hm c2 (10 ^ 5) (by decide),hm N (10 ^ 5) (by decide),rfl⟩⟩⟩
 rintro _ ⟨a,b,a0,b0,rfl⟩;refine wv (λL=>∃ms:List Int,ms≠[]/\ms.length<=3/\ms.Nodup/\L=[q_ (.scr ns),q_ (.int I),Q_ (.lst (ms.map D.int)),none]) ?_ ?_
 ·walk_at "dl";refine⟨ns,3,rfl,rfl,λN=>⟨of_eq_true (fh (by decide) (by decide)),?_⟩⟩
  obtain⟨q,h0,h1⟩:∃q:Int,(q=0\/q=1\/q=2)/\(N.fdiv (10 ^ 5)).fmod 3=q:=⟨_,by have:=hm (N.fdiv (10 ^ 5)) 3 (by decide);have:=Int.fmod_lt_of_pos (N.fdiv (10 ^ 5)) (b:=3) (by decide);omega,rfl⟩
  rw[h1];rcases h0 with rfl|rfl|rfl
  ·exact⟨[I],by simp,by simp,by simp,rfl⟩
  ·exact⟨[I,I+1+a],by simp,by simp,by simp;omega,rfl⟩
  exact⟨[I,I+1+a,I-1-b],by simp,by simp,by simp;omega,rfl⟩
 rintro _ ⟨ms,Z,m3,nd,rfl⟩;refine yb ⟨rfl,ns,4,rfl,rfl,λc4=>⟨rfl,c4,rfl,λb0=>⟨trivial,?_⟩⟩⟩;refine wv (λL=>∃b:Int,L=[q_ (.scr ns),q_ (.int I),Q_ (.lst (ms.map D.int)),q_ (.int b)]) ?_ ?_
 ·walk_at "dl";refine⟨ns,5,rfl,rfl,λc5=>⟨by decide,λ_=>⟨ns,5,rfl,rfl,λc6=>⟨of_eq_true (fh (by decide) (by decide)),?_⟩⟩,λ_=>⟨_,rfl⟩⟩⟩
  obtain⟨r,_,er⟩:=N8 Z (c6.fdiv 6);rw[er];exact⟨λz=>Z (List.length_eq_zero_iff.mp (by omega)),ns,5,rfl,rfl,λc7=>⟨of_eq_true (fh (by decide) (by decide)),_,rfl⟩⟩
 rintro _ ⟨b,rfl⟩;exact uo (ρ':=[q_ (.scr ns),q_ (.int I),q_ (.lst (ms.map D.int)),q_ (.int b)]) rfl ⟨rfl,rfl,h ms b Z m3 nd⟩
def Zz(T:Tops mg)(j:FD P w K mg base 1 "_law_whole" pE Yi)(F:Fun K "_law_priced" "_law_priced" (top 45) f fd)(m:mg "_law_priced" = some (.ref f)):FD P w K mg base 2 "_law_priced" ["_law_found","_law_due"] tPrd:=by
 have S:zj ["_law_found","_law_due"] ["_law_found","_law_due"] (zb (top 45)):=by walk_at "f"
 walk_at "b";refine⟨_,(zd (xy (EW.et (qh (vd (xr (xu T.isinstance (z9 (z0 0) (z9 (ck T.tuple wx) za))))) (qh (Y4 hu (xt T.len (z9 (z0 0) za)) zc) (qh (vd (xr (zy j (hr.e rfl) (z9 (ze hu (z0 0) zc) za)))) (qg (Y4 hu (ze hu (z0 0) zc) (z0 1))))))) (zk (yd uu)) ym)
   (zk (yd (W0 (xu T.isinstance (z9 (ze hu (z0 0) zc) (z9 (ck T.list bu) za))) (Xy (K5 hu (xt T.len (z9 (ze hu (z0 0) zc) za)) zc)))))),?_⟩
 obtain⟨p,d,v,rfl,h⟩:=hT;walk_at "dl";refine⟨λz=>absurd rfl z,λ_=>⟨p,rfl,nofun,λ_=>⟨λq=>?_,λq=>?_⟩⟩⟩
 ·rw[decide_eq_false q]at h;exact h
 rw[decide_eq_true q]at h;exact h
def Zy(T:Tops mg)(j:FD P w K mg base 1 "_law_whole" pE Yi)(F:Fun K "_law_row_of" "_law_row_of" (top 46) f fd)(m:mg "_law_row_of" = some (.ref f)):FD P w K mg base 2 "_law_row_of" pI Kv:=by
 have S:zj ["_law_row","_law_size","_law_numbers_here"] pI (zb (top 46)):=by walk_at "f"
 walk_at "b";refine⟨_,(zd (xy (EW.et (qh (vd (xr (xu T.isinstance (z9 (z0 0) (z9 (ck T.tuple wx) za))))) (qg (Y4 hu (xt T.len (z9 (z0 0) za)) (z0 1))))) (zk (yd uu)) ym)
   (zk (yd (K5 hu (xt T.len (z9 (wb (T:=["_law_part"]) (F:=["_law_numbers_here"]) (js:=[2]) (wo (z0 0)) (show y8 (zb (top 46)) _ _ _ from by walk_at "c") (.cons rfl .nil) (by decide) (by walk_at "t") (yo (by decide)) (yj 0) (λcl C fp s H=>(Oq (EW.et (qh (vd (xr (zy j (hr.e rfl) (z9 (z0 0) za)))) (qg (Lv hu (z0 0) (z0 1))))))) (λcl C fp s H=>(z0 0))) za)) zc)))),?_⟩
 obtain⟨l,ms,rfl,l3,M,h⟩:=hT;walk_at "dl";refine yp (l.map D.int) (λN q=>⟨trivial,q⟩) (λ_=>none) (by rw[zLm];omega) (λd B=>?_) ?_
 ·obtain⟨x,I,rfl⟩:=zah.mp B;have e:inD (.int x) (ms.map D.int)=true:=List.any_eq_true.mpr ⟨.int x,List.mem_map_of_mem (M x I),by rw[Y6];exact beq_self_eq_true x⟩
  have Z:(ms.map D.int).all dz=true:=List.all_eq_true.mpr λd B=>by
   obtain⟨y,_,rfl⟩:=zah.mp B;rfl
  refine⟨rfl,x,rfl,nofun,λ_=>⟨rfl,Z,λz=>?_,λ_=>rfl⟩⟩;rw[if_pos rfl,e]at z;cases z
 rw[show(l.map D.int).filterMap (λ_=>(none:Option D))=[] from List.filterMap_eq_nil_iff.mpr λ_ _=>rfl];exact h
def c9(T:Tops mg)(B:FD P w K mg base 1 "_law_whole" pE Yi)(F:Fun K "_law_tree_of" "_law_tree_of" (top 47) f fd)(m:mg "_law_tree_of" = some (.ref f)):FD P w K mg base 2 "_law_tree_of" pG Q1:=by
 have S:zj ["_law_tree","_law_size","_law_number_here","_law_rest","_law_part"] pG (zb (top 47)):=by walk_at "f"
 walk_at "b";refine⟨_,(zd (y9 3 S.nd (yu (z9 (z0 0) za)))
   (zd (U8 (Y5 (xt T.len (z9 (z0 3) za)) zc) (zd (J5 3 4 S.nd)
    (zk (xy (Lx (z0 4) sy) (zd (xy (EW.et (qh (vd (xr (xu T.isinstance (z9 (z0 4) (z9 (ck T.tuple wx) za))))) (qh (Y4 hu (xt T.len (z9 (z0 4) za)) zc) (qh (vd (xr (zy B (hr.e rfl) (z9 (ze hu (z0 4) zc) za)))) (qg (Y4 hu (ze hu (z0 4) zc) (z0 2))))))) (zk (yd uu)) ym)
     (zd (y9 1 S.nd (ul (z0 1) zc))
     (zk (y9 3 S.nd (yz (z0 3) (yu (z9 (ze hu (z0 4) zc) (z9 (ze hu (z0 4) zc) za)))))))) ym))))
   (zk (yd (K5 hu (z0 1) zc))))),?_⟩
 obtain⟨t,c,rfl,n3,ha,h⟩:=hT;refine yb ⟨rfl,rfl,trivial,yn ?_⟩;refine⟨λL=>∃(ts:List Tr)(a2:Option EV),L=[q_ t.d,q_ (.int ((ts.map Tr.nodes).sum:Nat)),q_ (.int c),Q_ (.lst (ts.map Tr.d)),a2]/\sumZ (ts.map Tr.d)<=500/\∀u∈ts,u.all c,λL=>match L with
  |[_,_,_,some ⟨_,.lst ds⟩,_]=>sumZ ds
  | _=>0,⟨[t],none,by simp[xa,setS,EV.sto],by simp[sumZ,Tr.sz];omega,λu hu=>List.mem_singleton.mp hu▸ha⟩,?_⟩
 rintro L ⟨ts,a2,rfl,Z,I⟩;refine⟨λz=>?_,λz=>?_⟩
 ·rcases List.eq_nil_or_concat ts with rfl|⟨ts,q,rfl⟩
  ·cases z
  rw[List.concat_eq_append]at Z I ⊢;rw[zMa,tm]at Z;have e4:sumZ ([q].map Tr.d)=szD q.d:=by simp[sumZ]
  have hl:=Zf (ts.map Tr.d);have N:sumZ ((ts++[q]).map Tr.d)=sumZ (ts.map Tr.d)+szD q.d:=by rw[zMa,tm,e4]
  have hz:=Wo q.d;have j:∀u∈ts,u.all c:=λu hu=>I u (List.mem_append_left _ hu);have hq:=I q (by simp)
  have M:((ts++[q]).map Tr.nodes).sum=(ts.map Tr.nodes).sum+q.nodes:=by simp
  rw[zMa (f:=Tr.d)];cases q with
  |lf =>
   refine Uu (ds:=ts.map Tr.d) rfl ⟨nofun,λ_=>⟨⟨ts,q_ .non,by rw[M];rfl,by omega,j⟩,?_⟩⟩
   exact Nat.lt_of_lt_of_eq (Nat.lt_add_of_pos_right hz) (N.symm.trans (by rw[zMa]))
  |nd l v r =>
   have e7:szD (Tr.nd l v r).d=1+szD l.d+szD r.d:=by simp[Tr.d,szD]
   have ez:sumZ (ts.map Tr.d++[l.d,r.d])=sumZ (ts.map Tr.d)+szD l.d+szD r.d:=by rw[tm];simp[sumZ];omega
   obtain⟨h1,rfl,h2⟩:=hq;refine Uu (ds:=ts.map Tr.d) rfl ⟨λ_=>⟨nofun,λ_=>⟨of_eq_true (wt ..),of_eq_true (wt ..),nofun,λ_=>⟨rfl,v,rfl,nofun,λ_=>⟨of_eq_true (wt ..),of_eq_true (wt ..),λz=>?_,λ_=>⟨trivial,rfl,rfl,?_,trivial,⟨ts++[l,r],q_ (.tup [l.d,.int v,r.d]),?_,?_,?_⟩,?_⟩⟩⟩⟩⟩,nofun⟩
   ·have e:eqD (.int v) (.int v)=true:=by rw[Y6];exact beq_self_eq_true v
    rw[show(!eqD (dv (D.int v)).d (dv (D.int v)).d)=false from congrArg not e]at z;cases z
   ·rw[sizeLine_eq,show(List.map EV.d [dv l.d,dv r.d]).length=2 from rfl];omega
   ·have e1:(((ts++[Tr.nd l v r]).map Tr.nodes).sum:Int)-1=(((ts++[l,r]).map Tr.nodes).sum:Nat):=by
     rw[M];simp[Tr.nodes];omega
    rw[<- e1,zMa (f:=Tr.d)];rfl
   ·rw[zMa,show[l,r].map Tr.d=[l.d,r.d] from rfl];omega
   ·intro u hu;simp at hu;rcases hu with hu|rfl|rfl
    ·exact j u hu
    ·exact h1
    exact h2
   refine(show sumZ (ts.map Tr.d++[l.d,r.d])<sumZ (ts.map Tr.d++[Tr.nd l v r].map Tr.d) from ?_);rw[ez,<- zMa,N];omega
 have e0:ts=[]:=by
  cases ts with
  |nil=>rfl
  |cons u us=>exact absurd (of_decide_eq_false z) (by simp)
 subst e0;exact⟨of_eq_true (wt ..),of_eq_true (wt ..),trivial,h⟩
def low(b:Int)(l:List Int):List Int:=l.filter λx=>decide (x<b)
def tj(pr:Str->Int)(k:Str)(ks:List Str):tot pr (k::ks)=pr k+tot pr ks:=by
 unfold tot;rw[List.map_cons,List.sum_cons]
def Wi(pr:Str->Int)(a c:List Str):tot pr (a++c)=tot pr a+tot pr c:=by
 unfold tot;rw[zMa,List.sum_append]
def jn(pr:Str->Int):tot pr []=0:=rfl
def dueC(pr:Str->Int)(n c:Nat):Int:=(pr "call"+pr "open")*((n:Int)+1)+(n:Int)*(pr "less")+(c:Int)*(pr "make"+pr "let"+pr "sum")
def mul1(F n:Int):F*(n+1)=F*n+F:=by rw[Int.mul_add,Int.mul_one]
def mul2(F n:Int):(n+1)*F=n*F+F:=by rw[Int.add_mul,Int.one_mul]
theorem Z0(pr:Str->Int)(b:Int):∀l,tot pr (kdC b l)=dueC pr l.length (low b l).length
 |[]=>by
  unfold dueC low kdC;simp[tj,jn]
 |h::t=>by
  have j:=Z0 pr b t;unfold dueC at j ⊢;rw[sf,zLc];by_cases q:h<b
  ·have e:low b (h::t)=h::low b t:=by unfold low;rw[List.filter_cons_of_pos (by simpa using q)]
   rw[if_pos q,e,zLc];simp only[tj,Wi,jn,j,Int.natCast_add,Int.natCast_one];rw[mul1 (pr "call"+pr "open") ((t.length:Int)+1),mul2 (pr "less"),mul2 (pr "make"+pr "let"+pr "sum")];omega
  have e:low b (h::t)=low b t:=by unfold low;rw[List.filter_cons_of_neg (by simpa using q)]
  rw[if_neg q,e];simp only[tj,j,Int.natCast_add,Int.natCast_one];rw[mul1 (pr "call"+pr "open") ((t.length:Int)+1),mul2 (pr "less")];omega
theorem Pu(b:Int):∀l,(kdC b l).length<=6*l.length+2/\∀k∈kdC b l,k∈wn
 |[]=>⟨Nat.le_of_ble_eq_true rfl,by unfold kdC;decide⟩
 |h::t=>by
  obtain⟨h1,h2⟩:=Pu b t;rw[sf,zLc];split
  ·refine⟨by simp;omega,λk j=>?_⟩
   simp only[zam,zas,List.not_mem_nil,or_false]at j;rcases j with rfl|rfl|rfl|rfl|rfl|j|rfl
   ·decide
   ·decide
   ·decide
   ·decide
   ·decide
   ·exact h2 k j
   decide
  refine⟨by simp;omega,λk j=>?_⟩
  simp only[zam]at j;rcases j with rfl|rfl|rfl|j
  ·decide
  ·decide
  ·decide
  exact h2 k j
theorem Px(b:Int):∀l:List Int,(∀x∈l,x<b)->(kdC b l).length=6*l.length+2/\∃i,kdC b l=i++[if l=[] then("open" : Str) else "sum"]
 |[],_=>⟨rfl,["call"],rfl⟩
 |h::t,a=>by
  obtain⟨h1,_⟩:=Px b t λx j=>a x (zal _ j);rw[sf,if_pos (a h zao),if_neg (List.cons_ne_nil h t)];exact⟨by simp;omega,("call" : Str)::("open" : Str)::("less" : Str)::("make" : Str)::("let" : Str)::kdC b t,rfl⟩
theorem T6(b:Int):∀l:List Int,(∀x∈l,¬ x<b)->(kdC b l).length=3*l.length+2/\∃i,kdC b l=i++[("open" : Str)]
 |[],_=>⟨rfl,["call"],rfl⟩
 |h::t,a=>by
  obtain⟨h1,i,h2⟩:=T6 b t λx j=>a x (zal _ j);rw[sf,if_neg (a h zao),zLc];exact⟨by simp;omega,_::_::_::i,by rw[h2];rfl⟩
def Ph{b:Int}{l:List Int}(h:∀ x∈l,x<b):(low b l).length=l.length:=by
 unfold low;rw[List.filter_eq_self.mpr λx j=>by simpa using h x j]
def T2{b:Int}{l:List Int}(h:∀ x∈l,¬ x<b):(low b l).length=0:=by
 unfold low;rw[List.filter_eq_nil_iff.mpr λx j=>by simpa using h x j]
 rfl
def Bj(b:Int)(l:List Int):(low b l).length<=l.length:=List.length_filter_le ..
def Bk{b:Int}{l:List Int}(h:(low b l).length=l.length):∀x∈l,x<b:=λx j=>by
 have:=List.length_filter_eq_length_iff.mp h x j;simpa using this
def qz{b x:Int}{l:List Int}:x∈low b l ↔ x∈l/\x<b:=by
 unfold low;rw[List.mem_filter];simp
theorem Ud{ms:List Int}{x:Int}(h:x∈ms):∀n,List.replicate n x∈ud ms n
 |0=>List.mem_singleton.mpr rfl
 |n+1=>List.mem_flatMap.mpr ⟨x,h,zah.mpr ⟨_,Ud h n,rfl⟩⟩
def Ey{pr:Str->Int}(ok:cq pr){n c d:Nat}(h:c<=d):dueC pr n c<=dueC pr n d:=by
 unfold dueC;have h1:=ok "make" (by decide)
 have h2:=ok "let" (by decide)
 have j:=ok "sum" (by decide)
 have:(c:Int)*(pr "make"+pr "let"+pr "sum")<=(d:Int)*(pr "make"+pr "let"+pr "sum"):=Int.mul_le_mul_of_nonneg_right (by omega) (by omega)
 omega
def K8{pr:Str->Int}{n c d:Nat}(h:dueC pr n c=dueC pr n d)(m:0<pr "make"+pr "let"+pr "sum"):c=d:=by
 unfold dueC at h;have:(c:Int)*(pr "make"+pr "let"+pr "sum")=(d:Int)*(pr "make"+pr "let"+pr "sum"):=by omega
 have:=Int.eq_of_mul_eq_mul_right (by omega) this
 omega
def trOf:D->Tr
 |.tup [l,.int v,r]=>.nd (trOf l) v (trOf r)
 |_=>.lf
theorem U3:∀t:Tr,trOf t.d=t
 |.lf=>rfl
 |.nd l v r=>by
  show trOf (.tup [l.d,.int v,r.d])=_;rw[trOf,U3 l,U3 r]
theorem Wh(pr:Str->Int):∀t,tot pr (kdT t)=(pr "call"+pr "open")*(2*(t.nodes:Int)+1)+2*(t.nodes:Int)*pr "sum"
 |.lf=>by
  unfold kdT;simp[tj,jn,Tr.nodes]
 |.nd l v r=>by
  have h1:=Wh pr l;have h2:=Wh pr r;have q:((Tr.nd l v r).nodes:Int)=(l.nodes:Int)+(r.nodes:Int)+1:=by
   show((l.nodes+r.nodes+1:Nat):Int)=_;omega
  show tot pr (("call" : Str)::("open" : Str)::(kdT l++("sum" : Str)::(kdT r++[("sum" : Str)])))=_;simp only[tj,Wi,jn,h1,h2,q];generalize pr "call" = c;generalize pr "open" = o;generalize pr "sum" = s;generalize (l.nodes:Int)=i;generalize (r.nodes:Int)=j;simp only[Int.mul_add,Int.add_mul,Int.mul_one,Int.mul_assoc];generalize c*(2*i)=N;generalize o*(2*i)=M;generalize c*(2*j)=I;generalize o*(2*j)=B;omega
theorem T5:∀t,(kdT t).length=6*t.nodes+2/\∀k∈kdT t,k∈wn
 |.lf=>⟨rfl,by unfold kdT;decide⟩
 |.nd l v r=>by
  obtain⟨h1,h2⟩:=T5 l;obtain⟨I,B⟩:=T5 r;have q:(Tr.nd l v r).nodes=l.nodes+r.nodes+1:=rfl;have e:kdT (.nd l v r)=("call" : Str)::("open" : Str)::(kdT l++("sum" : Str)::(kdT r++[("sum" : Str)])):=rfl;rw[e];refine⟨by simp[q];omega,λk j=>?_⟩
  simp only[zam,zas,List.not_mem_nil,or_false]at j;rcases j with rfl|rfl|j|rfl|j|rfl
  ·decide
  ·decide
  ·exact h2 k j
  ·decide
  ·exact B k j
  decide
def intL:D->List Int
 |.tup ds=>(j9 ds).getD []
 |_=>[]
def kdL(b:Int)(d:D):List Str:=kdC b (intL d)
def Pt(b:Int)(l:List Int):kdL b (rwD l)=kdC b l:=by
 show kdC b ((j9 (l.map D.int)).getD [])=_;rw[t9];rfl
theorem Ue{ms:List Int}:∀(l:List Int),(∀x∈l,x∈ms)->l∈ud ms l.length
 |[],_=>List.mem_singleton.mpr rfl
 |x::l,h=>List.mem_flatMap.mpr ⟨x,h x zao,zah.mpr ⟨l,Ue l λy j=>h y (zal _ j),rfl⟩⟩
variable{n0 n1 n2 n3 n4 n5:Str}{b:Int}{pr:Str->Int}{U:EV->Prop}
def Mi(p:Str)(s:Str):zl (pmD [(p,.str s)]):=⟨⟨trivial,trivial,trivial⟩,trivial⟩
def Ob{f p s:Str}{b:D}(h:zl b):zl (.tup [.str f,pmD [(p,.str s)],.tup [.str "num",.tup [.int 0,.int 0]],b]):=⟨trivial,Mi p s,⟨trivial,⟨trivial,trivial,trivial⟩,trivial⟩,h,trivial⟩
def Kb{fns:List (Str×D)}(hl:fns.length<=100)(nf:(fns.map Prod.fst).Nodup)(pf:zp (fns.map Prod.snd))(hn:∀ q∈fns,∃ r,q.2=.tup (.str q.1::r))(B:rowG fns n0=some (cntF n0 b n1 n2 n3 n4))(nd:[n1,n2,n3,n4].Nodup)(M:[n1,n2,n3].Nodup){n:Nat}{ms:List Int}(h3:n<=3)(m0:ms≠[])(m3:ms.length<=3)(ok:cq pr)(h:∀ l:List Int,l.length=n->(∀ x∈l,x∈ms)->(∀ k:List Int,k.length=n->(∀ x∈k,x∈ms)->tot pr ((kdC b k).take most.toNat)<=tot pr ((kdC b l).take most.toNat))->U (dv (.tup [.int (tot pr ((kdC b l).take most.toNat)),.lst [rwD l]]))) :
  dh C [.tup (fns.map Prod.snd),tabD pr,.str n0,.lst [.int n],.lst (ms.map D.int),.int most] U:=by
 refine⟨fns,n0,"list",n,ms,most,pr,n1,_,kdL b,rfl,h3,m3,ok,λN hm a1=>⟨(ud N n).map rwD,.list (by omega),⟨hl,nf,pf,hn,B,qo ..,?_,?_⟩,?_⟩⟩
 ·obtain⟨x,j⟩:=List.exists_mem_of_ne_nil ms m0;intro z;have:=Ud ((hm x).mpr j) n;rw[List.map_eq_nil_iff.mp z]at this;cases this
 ·intro v hv;obtain⟨l,Z,rfl⟩:=zah.mp hv;obtain⟨ll,_⟩:=jg n l Z;obtain⟨k1,k2⟩:=Pu b l;rw[Pt];refine⟨.inl ⟨rfl,l,rfl,by omega⟩,jx l,by omega,k2,Rx (Pw b l) λI=>?_⟩
  exact Hw nd M B l [] [(0,"call")] [] [] [] [] trivial (by simp;omega) (by simp;omega) (by rw[List.append_nil];exact I) λmore a0 v _ _ hp=>xk (.inl rfl) (Nd hp)
 intro v hv j;obtain⟨l,Z,rfl⟩:=zah.mp hv;obtain⟨ll,lm⟩:=jg n l Z;have e:∀k,pc pr most (kdL b) (rwD k)=tot pr ((kdC b k).take most.toNat):=λk=>by
  unfold pc;rw[Pt]
 rw[e];refine h l ll (λx j=>(hm x).mp (lm x j)) λk lk mk=>?_;have:=j (rwD k) (List.mem_map_of_mem (by rw[<- lk];exact Ue k λx j=>(hm x).mpr (mk x j)))
 rw[e,e]at this;exact this
def z0d(c:Int):∀k,tl c k≠[]
 |0=>nofun
 |1=>nofun
 |2=>nofun
 |_+3=>nofun
def Kc{fns:List (Str×D)}(hl:fns.length<=100)(nf:(fns.map Prod.fst).Nodup)(pf:zp (fns.map Prod.snd))(hn:∀ q∈fns,∃ r,q.2=.tup (.str q.1::r))(j:rowG fns n5=some (addF n5 n0 n1 n2 n3))(nd:[n0,n1,n2,n3].Nodup){n:Nat}{c:Int}(Z:n<=3)(ok:cq pr)(h:∀ t:Tr,t.nodes=n->t.all c->U (dv (.tup [.int (tot pr ((kdT t).take most.toNat)),.lst [t.d]]))) :
  dh C [.tup (fns.map Prod.snd),tabD pr,.str n5,.lst [.int n],.lst [.int c],.int most] U:=by
 refine⟨fns,n5,"tree",n,[c],most,pr,n0,_,λd=>kdT (trOf d),rfl,Z,by simp,ok,λms' hm M=>⟨tl c n,?_,⟨hl,nf,pf,hn,j,qq ..,z0d c n,?_⟩,?_⟩⟩
 ·have N:c∈ms':=(hm c).mpr (by simp)
  match ms',M,N with
  |[x],_,N =>
   cases List.mem_singleton.mp N
   exact .tree
 ·intro v I;obtain⟨t,rfl,e,_⟩:=Nt c n Z v I;obtain⟨k1,k2⟩:=T5 t;rw[U3];refine⟨.inr ⟨rfl,t,rfl,by omega⟩,t.pure,by omega,k2,Rx (Ps t) λB=>?_⟩
  exact Hx nd j t [] [(0,"call")] [] [] [] [] trivial (by simp;omega) (by simp;omega) (by rw[List.append_nil];exact B) λmore a0 v _ _ hp=>xk (.inl rfl) (Nd hp)
 intro v I _;obtain⟨t,rfl,e,ha⟩:=Nt c n Z v I;have ee:pc pr most (λd=>kdT (trOf d)) t.d=tot pr ((kdT t).take most.toNat):=by
  show tot pr ((kdT (trOf t.d)).take most.toNat)=_;rw[U3]
 rw[ee];exact h t e ha
def len6{α:Type}{l:List α}(h:l.length=6):∃a b c d e f,l=[a,b,c,d,e,f]:=match l,h with
 |[a,b,c,d,e,f],_=>⟨a,b,c,d,e,f,rfl⟩
def Ef:(4:Int)≠0:=by decide
def Ad{i j:Nat}{a b:D}{L:DE}{N:DE->Prop}(h:N (setS (setS L i (dv a)) j (dv b))):gT2 i j (.tup [a,b]) L N:=h
theorem Pg(b:Int):∀ms:List Int,(ms.map D.int).filterMap (λd=>match d with|.int x=>if x<b then some (D.int x) else none|_=>none)=(low b ms).map D.int
 |[]=>rfl
 |x::ms=>by
  unfold low;rw[List.map_cons,List.filterMap_cons,List.filter_cons];have j:=Pg b ms;unfold low at j;by_cases q:x<b
  ·rw[if_pos (decide_eq_true q)]
   dsimp only
   rw[if_pos q]
   dsimp only
   rw[j];rfl
  rw[if_neg (by simpa using q)]
  dsimp only
  rw[if_neg q];exact j
def Av{pr:Str->Int}{n:Nat}{b:Int}{ms:List Int}:(pr "call"+pr "open")*((n:Int)+1)+(n:Int)*(pr "less"+(if decide ((0:Int)<(((low b ms).map D.int).length:Int))=true then 1 else 0)*(pr "make"+pr "let"+pr "sum"))=dueC pr n (if low b ms=[] then 0 else n):=by
 unfold dueC;by_cases q:low b ms=[]
 ·rw[q,if_pos rfl,if_neg (by simp)]
  simp
 have:0<(low b ms).length:=List.length_pos_iff.mpr q;rw[if_neg q,if_pos (by simp;omega),Int.one_mul,Int.mul_add (n:Int) (pr "less")]
 omega
def Yz{n0 n1 n2 n3 n4 n5:Str}(h:[n0,n1,n2,n3,n4,n5].Nodup):[n1,n2,n3,n4].Nodup/\[n1,n2,n3].Nodup/\[n0,n1,n2,n3].Nodup/\n0≠n5:=by
 simp only[List.nodup_cons,zam,List.not_mem_nil,or_false,not_or,List.nodup_nil,not_false_eq_true,and_true]at h ⊢;obtain⟨⟨Z,N,M,a4,I⟩,⟨b1,b2,B,b4⟩,⟨j,q,c3⟩,⟨d1,d2⟩,e1⟩:=h;exact⟨⟨⟨b1,b2,B⟩,⟨j,q⟩,d1⟩,⟨⟨b1,b2⟩,j⟩,⟨⟨Z,N,M⟩,⟨b1,b2⟩,j⟩,I⟩
def Kq{a b:Str}(h:a≠b):[a,b].Nodup:=by simp[h]
def N6{n0 n1 n2 n3 n4:Str}{b:Int}:zl (cntF n0 b n1 n2 n3 n4):=Ob (qo ..)
def N9{n5 n0 n1 n2 n3:Str}:zl (addF n5 n0 n1 n2 n3):=Ob (qq ..)
def Zi{C:Addr}{n0 n1 n2 n3 n4 n5:Str}{b most:Int}{pr:Str->Int}{U:EV->Prop}(j:[n0,n1,n2,n3,n4,n5].Nodup){n:Nat}{ms:List Int}(h3:n<=3)(M:ms≠[])(I:ms.length<=3)(ok:cq pr)(h:∀ l:List Int,l.length=n->(∀ x∈l,x∈ms)->(∀ k:List Int,k.length=n->(∀ x∈k,x∈ms)->tot pr ((kdC b k).take most.toNat)<=tot pr ((kdC b l).take most.toNat))->plnD (.tup [.int (tot pr ((kdC b l).take most.toNat)),.lst [rwD l]])->U (dv (.tup [.int (tot pr ((kdC b l).take most.toNat)),.lst [rwD l]]))) :
  dh C [.tup [cntF n0 b n1 n2 n3 n4,addF n5 n0 n1 n2 n3],tabD pr,.str n0,.lst [.int n],.lst (ms.map D.int),.int most] U :=
 Kb (fns:=[(n0,cntF n0 b n1 n2 n3 n4),(n5,addF n5 n0 n1 n2 n3)]) (by simp) (Kq (Yz j).2.2.2) ⟨N6,N9,trivial⟩ (λq B=>by
  simp only[zam,List.not_mem_nil,or_false]at B;rcases B with rfl|rfl <;> exact⟨_,rfl⟩) ue (Yz j).1 (Yz j).2.1 h3 M I ok λl ll Z N=>h l ll Z N ⟨trivial,⟨rb (ds:=l.map D.int) λd hd=>by obtain⟨i,_,rfl⟩:=zah.mp hd;exact trivial,trivial⟩,trivial⟩
def E4{C:Addr}{n0 n1 n2 n3 n4 n5:Str}{b most:Int}{pr:Str->Int}{U:EV->Prop}(j:[n0,n1,n2,n3,n4,n5].Nodup){n:Nat}{c:Int}(M:n<=3)(ok:cq pr)(h:∀ t:Tr,t.nodes=n->t.all c->plnD (.tup [.int (tot pr ((kdT t).take most.toNat)),.lst [t.d]])->U (dv (.tup [.int (tot pr ((kdT t).take most.toNat)),.lst [t.d]]))) :
  dh C [.tup [addF n5 n0 n1 n2 n3,cntF n0 b n1 n2 n3 n4],tabD pr,.str n5,.lst [.int n],.lst [.int c],.int most] U :=
 Kc (fns:=[(n5,addF n5 n0 n1 n2 n3),(n0,cntF n0 b n1 n2 n3 n4)]) (by simp) (Kq (Yz j).2.2.2.symm) ⟨N9,N6,trivial⟩ (λq B=>by
  simp only[zam,List.not_mem_nil,or_false]at B;rcases B with rfl|rfl <;> exact⟨_,rfl⟩) ue (Yz j).2.2.1 M ok λt e I=>h t e I ⟨trivial,⟨t.pln,trivial⟩,trivial⟩
def M8{pr:Str->Int}{b most:Int}{n:Nat}{l ms best:List Int}(ok:cq pr)(I:l.length=n)(M:∀ x∈l,x∈ms)(Z:best=ms\/best=low b ms/\low b ms≠[]/\0<pr "make"+pr "let"+pr "sum")(a1:low b ms≠[]->0<pr "make"+pr "let"+pr "sum"->best=low b ms)(a0:(6*n+2:Int)<=most)(lx:∀ k:List Int,k.length=n->(∀ x∈k,x∈ms)->tot pr ((kdC b k).take most.toNat)<=tot pr ((kdC b l).take most.toNat)):tot pr ((kdC b l).take most.toNat)=dueC pr n (if low b ms=[] then 0 else n)/\∀x∈l,x∈best:=by
 have tk:∀k:List Int,k.length=n->tot pr ((kdC b k).take most.toNat)=dueC pr n (low b k).length:=λk hk=>by
  have:=(Pu b k).1;rw[List.take_of_length_le (by omega),Z0,hk]
 have j:tot pr ((kdC b l).take most.toNat)=dueC pr n (if low b ms=[] then 0 else n):=by
  by_cases q:low b ms=[]
  ·rw[if_pos q,tk l I,T2 λx B z=>?_];have:x∈low b ms:=qz.mpr ⟨M x B,z⟩;rw[q]at this;cases this
  rw[if_neg q];obtain⟨x,B⟩:=List.exists_mem_of_ne_nil _ q;obtain⟨h1,h2⟩:=qz.mp B;have h3:=lx (List.replicate n x) (List.length_replicate ..) λy N=>by rw[List.eq_of_mem_replicate N];exact h1
  rw[tk _ (List.length_replicate ..),Ph λy N=>by rw[List.eq_of_mem_replicate N];exact h2,List.length_replicate]at h3
  have h4:=Ey (n:=n) ok (Bj b l);rw[I]at h4;rw[tk l I]at h3 ⊢;omega
 refine⟨j,λx B=>?_⟩;rcases Z with rfl|⟨rfl,q,m⟩
 ·exact M x B
 rw[if_neg q,tk l I]at j;exact qz.mpr ⟨M x B,Bk (by rw[K8 j m,I]) x B⟩
def Zg{l:List Int}(h:l≠[]):((l.map D.int).length:Int) > 0:=by
 have:=List.length_pos_iff.mpr h;rw[zLm];omega
def cut1(c:Int)(ms:List Int):ZZ.cutD ((c::ms).map D.int) none (some 1)=[.int c]:=by
 unfold ZZ.cutD ZZ.sIx;simp
def Qi{pr:Str->Int}{b B la:Int}{n:Nat}{l ms:List Int}(hA:low b ms=[]\/∀ x∈ms,x<b)(m0:ms≠[])(j:l.length=n)(lm:∀ x∈l,x∈ms)(a0:low b ms=[]->B=3*(n:Int)+2)(Z:low b ms≠[]->B=6*(n:Int)+2)(I:la=if low b ms≠[]/\0<n then pr "sum" else pr "open"):tot pr ((kdC b l).take B.toNat)=dueC pr n (if low b ms=[] then 0 else n)/\tot pr ((kdC b l).take (B-1).toNat)=dueC pr n (if low b ms=[] then 0 else n)-la:=by
 have M:∃(i:List Str)(k:Str),kdC b l=i++[k]/\(B:Int)=(kdC b l).length/\tot pr (kdC b l)=dueC pr n (if low b ms=[] then 0 else n)/\la=pr k:=by
  by_cases q:low b ms=[]
  ·have hn:∀x∈l,¬ x<b:=λx N z=>by
    have:x∈low b ms:=qz.mpr ⟨lm x N,z⟩;rw[q]at this;cases this
   obtain⟨h1,i,h2⟩:=T6 b l hn;refine⟨i,_,h2,by rw[a0 q,h1,j];omega,by rw[Z0,T2 hn,if_pos q,j],?_⟩
   rw[I,if_neg (λz=>z.1 q)]
  have hl:∀x∈l,x<b:=λx N=>hA.elim (λz=>absurd z q) λz=>z x (lm x N);obtain⟨h1,i,h2⟩:=Px b l hl;refine⟨i,_,h2,by rw[Z q,h1,j];omega,by rw[Z0,Ph hl,if_neg q,j],?_⟩
  rw[I];by_cases z:l=[]
  ·rw[if_pos z,if_neg (λy=>by rw[z]at j;have:n=0:=j.symm;omega)]
  rw[if_neg z,if_pos ⟨q,by rw[<- j];exact List.length_pos_iff.mpr z⟩]
 obtain⟨i,k,e,hm,ht,hl⟩:=M;refine⟨by rw[List.take_of_length_le (by omega),ht],?_⟩
 have hz:(B-1).toNat=i.length:=by
  rw[e,zLa,List.length_singleton]at hm;omega
 rw[hz,<- ht,e,List.take_left,Wi,tj,jn,hl];omega
def Wy{a b:Int}(h:-1000<=a/\a<=1000):IntMulOk a b:=IntMulOk.of_left (intBits_le_64 (by omega) (by omega))
def Bh{a b:Int}(h:-1000<=b/\b<=1000):IntMulOk a b:=IntMulOk.of_right (intBits_le_64 (by omega) (by omega))
def Bc(T:Tops mg)(a7:FD P w K mg base 1 "_law_names" ["_law_cell","_law_many"] Ky)(a5:FD P w K mg base 1 "_law_cell_at" pF Nx1)(a6:FD P w K mg base 1 "_law_table" pC Ku)(a0:FW P w K mg base 2 "_law_numbers" pC [] tNbs)(b3:FD P w K mg base 1 "_law_counting" pH Yk)(a9:FD P w K mg base 1 "_law_adding" ["_law_f","_law_names_here"] Qa)(B:FW P w K mg base 11 "dearest" pJ [] (dh C))(I:FW P w K mg base 11 "dearest" pJ [1000] (dh C))(a1:FD P w K mg base 2 "_law_priced" ["_law_found","_law_due"] tPrd)(a8:FD P w K mg base 2 "_law_row_of" pI Kv)(b0:FD P w K mg base 2 "_law_tree_of" pG Q1)(F:Fun K "law" "law" (top 48) f fd):FnOk P w K mg base CX0 12 f fd ["_law_script"] (spD K 1 lawT):=by
 have S:zj ["_law_script","_law_names_here","_law_table_here","_law_numbers_here","_law_bound","_law_size","_law_program","_law_low","_law_flat","_law_more","_law_due","_law_best","_law_found","_law_most","_law_last"] pC (zb (top 48)):=by walk_at "f"
 refine Oc F S λqZ A outer s H E ds U hr hl hT=>?_;have hu:=hr.units;refine⟨_,(zd (y9 1 S.nd (zy a7 (hr.e rfl) (z9 (zy a5 (hr.e rfl) (z9 (z0 0) (z9 zc za))) (z9 zc za))))
   (zd (y9 2 S.nd (zy a6 (hr.e rfl) (z9 (z0 0) za)))
   (zd (t4 2 (t4 1 (Hn (va a0 (hr.e rfl) (z9 (z0 0) za)) (uq (K0:=K) (n:=2) (by rfl) (by rfl) (ye (zm (i:=3) S.nd rfl (by walk_at "o")) (ye (zm (i:=4) S.nd rfl (by walk_at "o")) vn))) (ut 3 4))))
   (zd (y9 5 S.nd (ve (zy a5 (hr.e rfl) (z9 (z0 0) (z9 zc za))) zc))
   (zd (y9 6 S.nd (zn (z9 (zy b3 (hr.e rfl) (z9 (ze hu (z0 1) zc) (z9 (z0 4) (z9 (xb (z0 1) (yt zc) vv) za)))) (z9 (zy a9 (hr.e rfl) (z9 (ze hu (z0 1) zc) (z9 (z0 1) za))) za))))
   (zd (qu (T:=["_law_number_here"]) (F:=["_law_bound"]) (js:=[4]) 7 S.nd (wo (z0 3)) (show y8 (zb (top 48)) _ _ _ from by walk_at "c") (.cons rfl .nil) (by decide) (by walk_at "t") (yo (by decide)) (yj 0) (λcl C fp s H=>(Oq (Lw (z0 0) (z0 1)))) (λcl C fp s H=>(z0 0)))
   (zd (t4 7 (y9 8 S.nd (yz (ze hu (z0 2) zf) (ze hu (z0 2) zf))))
   (zd (y9 9 S.nd (yz (yz (ze hu (z0 2) zf) (ze hu (z0 2) zf)) (ze hu (z0 2) zf)))
   (zd (y9 10 S.nd (yz (uy (z0 8) (yz (z0 5) zc)) (uy (z0 5) (yz (ze hu (z0 2) zf) (uy (Ex T.int (z9 (z1l (xt T.len (z9 (z0 7) za)) zc) za)) (z0 9))))))
   (zd (y9 11 S.nd (z0 3))
   (zd (uc (xy (EW.et (Tf (Y5 (xt T.len (z9 (z0 7) za)) zc) (Y3 (Y5 (z0 9) zc)))) (zk (y9 11 S.nd (z0 7))) ym))
   (zd (y9 12 S.nd (va I (hr.e rfl) (z9 (z0 6) (z9 (z0 2) (z9 (ze hu (z0 1) zc) (z9 (yu (z9 (z0 5) za)) (z9 (z0 3) za)))))))
   (zd (xy (EW.et (qh (vd (xr (zy a1 (hr.e rfl) (z9 (z0 12) (z9 (z0 10) za))))) (qg (vd (xr (zy a8 (hr.e rfl) (z9 (ze hu (ze hu (z0 12) zc) zc) (z9 (z0 5) (z9 (z0 11) za))))))))) (zk (yd uu)) ym)
   (zd (y9 12 S.nd (va I (hr.e rfl) (z9 (Er (z0 6) (yt (ra zc))) (z9 (z0 2) (z9 (ze hu (z0 1) zc) (z9 (yu (z9 (z0 5) za)) (z9 (xb (z0 3) vv (yt zc)) za)))))))
   (zd (xy (vd (xr (zy a1 (hr.e rfl) (z9 (z0 12) (z9 (yz (uy (z0 8) (yz (uy zc (z0 5)) zc)) (uy (uy zc (z0 5)) (ze hu (z0 2) zf))) za))))) (zk (yd uu)) ym)
   (zd (xy (vd (xr (zy b0 (hr.e rfl) (z9 (ze hu (ze hu (z0 12) zc) zc) (z9 (z0 5) (z9 (ze hu (z0 3) zc) za)))))) (zk (yd uu)) ym)
   (zd (y9 13 S.nd (yz (uy zc (z0 5)) zc))
   (zd (uc (xy (Lw (z0 4) (yz (Es T.min (z9 (z0 3) za)) zc)) (zk (y9 13 S.nd (yz (uy zc (z0 5)) zc))) ym))
   (zd (uc (xy (EW.et (Tf (En (Et T.max (z9 (z0 3) za)) (z0 4)) (Y3 (Y5 (xt T.len (z9 (z0 7) za)) zc)))) (zk (yd (K5 hu (ze hu (va B (hr.e rfl) (z9 (z0 6) (z9 (z0 2) (z9 (ze hu (z0 1) zc) (z9 (yu (z9 zc za)) (z9 (z0 3) (z9 zc za))))))) zc) (ze hu (z0 2) zf)))) ym))
   (zd (xy (vd (xr (zy a1 (hr.e rfl) (z9 (va B (hr.e rfl) (z9 (z0 6) (z9 (z0 2) (z9 (ze hu (z0 1) zc) (z9 (yu (z9 (z0 5) za)) (z9 (z0 3) (z9 (z0 13) za))))))) (z9 (z0 10) za))))) (zk (yd uu)) ym)
   (zd (y9 14 S.nd (ze hu (z0 2) zf))
   (zd (uc (xy (EW.et (Tf (Y5 (xt T.len (z9 (z0 7) za)) zc) (Y3 (Y5 (z0 5) zc)))) (zk (y9 14 S.nd (ze hu (z0 2) zf))) ym))
   (zk (yd (zy a1 (hr.e rfl) (z9 (va B (hr.e rfl) (z9 (z0 6) (z9 (z0 2) (z9 (ze hu (z0 1) zc) (z9 (yu (z9 (z0 5) za)) (z9 (z0 3) (z9 (ul (z0 13) zc) za))))))) (z9 (ul (z0 10) (z0 14)) za))))))))))))))))))))))))))),?_⟩
 obtain⟨ns,rfl,_,h⟩:=hT;refine yb ⟨rfl,ns,0,rfl,rfl,λc0=>⟨rfl,c0,6,rfl,by decide,λzs lz nz=>⟨trivial,?_⟩⟩⟩
 obtain⟨n0,n1,n2,n3,n4,n5,rfl⟩:=len6 lz;refine wk (ρ':=[q_ (.scr ns),Q_ (.lst [.str n0,.str n1,.str n2,.str n3,.str n4,.str n5]),none,none,none,none,none,none,none,none,none,none,none,none,none]) (by rfl) (yb ⟨rfl,ns,rfl,λpr ok _=>⟨trivial,?_⟩⟩)
 refine wk (ρ':=[q_ (.scr ns),Q_ (.lst [.str n0,.str n1,.str n2,.str n3,.str n4,.str n5]),Q_ (tabD pr),none,none,none,none,none,none,none,none,none,none,none,none]) (by rfl) (yn (uo (ρ':=[q_ (.scr ns),Q_ (.lst [.str n0,.str n1,.str n2,.str n3,.str n4,.str n5]),q_ (tabD pr),none,none,none,none,none,none,none,none,none,none,none,none]) rfl (uo (ρ':=[q_ (.scr ns),q_ (.lst [.str n0,.str n1,.str n2,.str n3,.str n4,.str n5]),q_ (tabD pr),none,none,none,none,none,none,none,none,none,none,none,none]) rfl ⟨⟨trivial,trivial⟩,rfl,ns,rfl,λms b m0 m3 nm=>⟨⟨rb (ds:=ms.map D.int) λd hd=>by obtain⟨i,_,rfl⟩:=zah.mp hd;exact trivial,trivial,trivial⟩,trivial,?_⟩⟩)))
 refine Ad ?_
 dsimp only
 refine wk (ρ':=[q_ (.scr ns),q_ (.lst [.str n0,.str n1,.str n2,.str n3,.str n4,.str n5]),q_ (tabD pr),q_ (.lst (ms.map D.int)),q_ (.int b),none,none,none,none,none,none,none,none,none,none]) (by rfl) (yb ⟨rfl,ns,6,rfl,rfl,λc6=>⟨Ef,trivial,?_⟩⟩)
 obtain⟨n,n3',en⟩:∃n:Nat,n<=3/\c6.fmod 4=(n:Int):=by
  have h1:=Int.fmod_nonneg_of_pos c6 (b:=4) (by decide)
  have h2:=Int.fmod_lt_of_pos c6 (b:=4) (by decide)
  exact⟨(c6.fmod 4).toNat,by omega,by omega⟩
 refine wk (ρ':=[q_ (.scr ns),q_ (.lst [.str n0,.str n1,.str n2,.str n3,.str n4,.str n5]),q_ (tabD pr),q_ (.lst (ms.map D.int)),q_ (.int b),q_ (.int n),none,none,none,none,none,none,none,none,none]) (by rw[<- en];rfl) (yb ⟨rfl,n0,n1,n2,n3,n4,n5,b,rfl,rfl,n5,n0,n1,n2,n3,n4,n5,rfl,rfl,rfl,trivial,?_⟩)
 refine wk (ρ':=[q_ (.scr ns),q_ (.lst [.str n0,.str n1,.str n2,.str n3,.str n4,.str n5]),q_ (tabD pr),q_ (.lst (ms.map D.int)),q_ (.int b),q_ (.int n),q_ (.tup [cntF n0 b n1 n2 n3 n4,addF n5 n0 n1 n2 n3]),none,none,none,none,none,none,none,none]) (by rfl) (yb (yp (ms.map D.int) (λN a2=>⟨trivial,a2⟩) (λd=>match d with|.int x=>if x<b then some (.int x) else none|_=>none) (by rw[zLm];omega) (λd hd=>?_) ⟨trivial,?_⟩))
 ·obtain⟨x,_,rfl⟩:=zah.mp hd;by_cases q:x<b
  ·exact⟨λ_=>⟨trivial,if_pos q⟩,λz=>absurd q (of_decide_eq_false z)⟩
  exact⟨λz=>absurd (of_decide_eq_true z) q,λ_=>if_neg q⟩
 rw[Pg];refine wk (ρ':=[q_ (.scr ns),q_ (.lst [.str n0,.str n1,.str n2,.str n3,.str n4,.str n5]),q_ (tabD pr),q_ (.lst (ms.map D.int)),q_ (.int b),q_ (.int n),q_ (.tup [cntF n0 b n1 n2 n3 n4,addF n5 n0 n1 n2 n3]),Q_ (.lst ((low b ms).map D.int)),none,none,none,none,none,none,none]) (by rfl) (yn (uo (ρ':=[q_ (.scr ns),q_ (.lst [.str n0,.str n1,.str n2,.str n3,.str n4,.str n5]),q_ (tabD pr),q_ (.lst (ms.map D.int)),q_ (.int b),q_ (.int n),q_ (.tup [cntF n0 b n1 n2 n3 n4,addF n5 n0 n1 n2 n3]),q_ (.lst ((low b ms).map D.int)),none,none,none,none,none,none,none]) rfl ⟨trivial,?_⟩))
 dsimp only
 refine wk (ρ':=[q_ (.scr ns),q_ (.lst [.str n0,.str n1,.str n2,.str n3,.str n4,.str n5]),q_ (tabD pr),q_ (.lst (ms.map D.int)),q_ (.int b),q_ (.int n),q_ (.tup [cntF n0 b n1 n2 n3 n4,addF n5 n0 n1 n2 n3]),q_ (.lst ((low b ms).map D.int)),q_ (.int (pr "call"+pr "open")),none,none,none,none,none,none]) (by rfl) (yb ⟨trivial,?_⟩)
 refine wk (ρ':=[q_ (.scr ns),q_ (.lst [.str n0,.str n1,.str n2,.str n3,.str n4,.str n5]),q_ (tabD pr),q_ (.lst (ms.map D.int)),q_ (.int b),q_ (.int n),q_ (.tup [cntF n0 b n1 n2 n3 n4,addF n5 n0 n1 n2 n3]),q_ (.lst ((low b ms).map D.int)),q_ (.int (pr "call"+pr "open")),q_ (.int (pr "make"+pr "let"+pr "sum")),none,none,none,none,none]) (by rfl) (yb ⟨Bh (by omega),Wy (by split <;> omega),Wy (by omega),trivial,?_⟩)
 obtain⟨Z,ed⟩:∃Z,Z=dueC pr n (if low b ms=[] then 0 else n):=⟨_,rfl⟩
 refine wk (ρ':=[q_ (.scr ns),q_ (.lst [.str n0,.str n1,.str n2,.str n3,.str n4,.str n5]),q_ (tabD pr),q_ (.lst (ms.map D.int)),q_ (.int b),q_ (.int n),q_ (.tup [cntF n0 b n1 n2 n3 n4,addF n5 n0 n1 n2 n3]),q_ (.lst ((low b ms).map D.int)),q_ (.int (pr "call"+pr "open")),q_ (.int (pr "make"+pr "let"+pr "sum")),q_ (.int Z),none,none,none,none]) (by rw[ed,<- Av];rfl) (yb ⟨trivial,?_⟩)
 refine wv (λL=>∃j:List Int,(j=ms\/j=low b ms/\low b ms≠[]/\0<pr "make"+pr "let"+pr "sum")/\(low b ms≠[]->0<pr "make"+pr "let"+pr "sum"->j=low b ms)/\L=[q_ (.scr ns),q_ (.lst [.str n0,.str n1,.str n2,.str n3,.str n4,.str n5]),q_ (tabD pr),q_ (.lst (ms.map D.int)),q_ (.int b),q_ (.int n),q_ (.tup [cntF n0 b n1 n2 n3 n4,addF n5 n0 n1 n2 n3]),q_ (.lst ((low b ms).map D.int)),q_ (.int (pr "call"+pr "open")),q_ (.int (pr "make"+pr "let"+pr "sum")),q_ (.int Z),q_ (.lst (j.map D.int)),none,none,none]) ?_ ?_
 ·refine⟨λz=>?_,λz=>?_⟩
  ·have ql:low b ms≠[]:=λe=>by
    have:=of_decide_eq_true z;rw[e]at this;exact absurd this (by decide)
   exact⟨λm=>⟨trivial,low b ms,.inr ⟨rfl,ql,of_decide_eq_true m⟩,λ_ _=>rfl,rfl⟩,λm=>⟨ms,.inl rfl,λ_ m'=>absurd m' (of_decide_eq_false m),rfl⟩⟩
  exact⟨nofun,λ_=>⟨ms,.inl rfl,λql=>absurd (Zg ql) (of_decide_eq_false z),rfl⟩⟩
 rintro _ ⟨j,b7,b6,rfl⟩;refine yb ⟨rfl,rfl,⟨trivial,trivial,trivial,trivial,trivial,trivial⟩,rfl,Zi (n:=n) (ms:=ms) (most:=1000) nz n3' m0 m3 ok λl ll lm lx lp=>⟨lp,trivial,?_⟩⟩;obtain⟨e1,a4⟩:=M8 ok ll lm b7 b6 (by omega) lx
 rw[e1,<- ed];refine wk (ρ':=[q_ (.scr ns),q_ (.lst [.str n0,.str n1,.str n2,.str n3,.str n4,.str n5]),q_ (tabD pr),q_ (.lst (ms.map D.int)),q_ (.int b),q_ (.int n),q_ (.tup [cntF n0 b n1 n2 n3 n4,addF n5 n0 n1 n2 n3]),q_ (.lst ((low b ms).map D.int)),q_ (.int (pr "call"+pr "open")),q_ (.int (pr "make"+pr "let"+pr "sum")),q_ (.int Z),q_ (.lst (j.map D.int)),q_ (.tup [.int Z,.lst [rwD l]]),none,none]) (by rfl) (yn ?_)
 refine⟨rfl,Z,Z,rwD l,rfl,λz=>absurd z (by simp),λ_=>⟨rfl,l,j,by rw[ll];rfl,by omega,a4,nofun,λ_=>?_⟩⟩
 refine qv ?_
 dsimp only
 obtain⟨c,ms2,rfl⟩:∃c ms2,ms=c::ms2:=List.exists_cons_of_ne_nil m0;refine yb ⟨rfl,rfl,rfl,⟨trivial,trivial,trivial,trivial,trivial,trivial⟩,rfl,?_⟩;refine(show dh C [.tup [addF n5 n0 n1 n2 n3,cntF n0 b n1 n2 n3 n4],tabD pr,.str n5,.lst [.int n],.lst (ZZ.cutD ((c::ms2).map D.int) none (some 1)),.int 1000] _ from ?_);rw[cut1];refine E4 nz n3' ok λt et ta tp=>⟨tp,trivial,?_⟩;have e2:tot pr ((kdT t).take (Int.toNat 1000))=(pr "call"+pr "open")*(2*(n:Int)+1)+2*(n:Int)*pr "sum":=by
  rw[List.take_of_length_le (by rw[(T5 t).1];show _<=1000;omega),Wh,et]
 rw[e2];refine wk (ρ':=[q_ (.scr ns),q_ (.lst [.str n0,.str n1,.str n2,.str n3,.str n4,.str n5]),q_ (tabD pr),q_ (.lst ((c::ms2).map D.int)),q_ (.int b),q_ (.int n),q_ (.tup [cntF n0 b n1 n2 n3 n4,addF n5 n0 n1 n2 n3]),q_ (.lst ((low b (c::ms2)).map D.int)),q_ (.int (pr "call"+pr "open")),q_ (.int (pr "make"+pr "let"+pr "sum")),q_ (.int Z),q_ (.lst (j.map D.int)),q_ (.tup [.int ((pr "call"+pr "open")*(2*(n:Int)+1)+2*(n:Int)*pr "sum"),.lst [t.d]]),none,none]) (by rfl) (yn ?_)
 refine⟨Wy (by omega),Bh (by omega),Wy (by omega),Wy (by omega),rfl,_,_,t.d,rfl,λz=>absurd z (by simp),λ_=>qv ?_⟩
 dsimp only
 refine yn (Ht false (λN a2=>?_) nofun (λ_=>qv ?_))
 ·walk_at "dl";exact⟨t,c,by rw[et],by omega,ta,a2⟩
 dsimp only
 refine yb ⟨Wy (by omega),trivial,?_⟩
 generalize hms:c::ms2=ms at *;refine wv (λL=>∃mo:Int,(low b ms=[]->mo=3*(n:Int)+2)/\(low b ms≠[]->mo=6*(n:Int)+2)/\∃fo,L=[q_ (.scr ns),q_ (.lst [.str n0,.str n1,.str n2,.str n3,.str n4,.str n5]),q_ (tabD pr),q_ (.lst (ms.map D.int)),q_ (.int b),q_ (.int n),q_ (.tup [cntF n0 b n1 n2 n3 n4,addF n5 n0 n1 n2 n3]),q_ (.lst ((low b ms).map D.int)),q_ (.int (pr "call"+pr "open")),q_ (.int (pr "make"+pr "let"+pr "sum")),q_ (.int Z),q_ (.lst (j.map D.int)),fo,q_ (.int mo),none]) ?_ ?_
 ·refine⟨ms,rfl,m0,λM m1 m2=>⟨λz=>⟨Wy (by omega),trivial,_,λ_=>rfl,λq=>absurd ?_ q,_,rfl⟩,λz=>⟨_,λq=>absurd q ?_,λ_=>rfl,_,rfl⟩⟩⟩
  ·have z:=of_decide_eq_true z;exact List.eq_nil_iff_forall_not_mem.mpr λx hx=>by
    obtain⟨h1,h2⟩:=qz.mp hx;have:=m2 x h1;omega
  have z:=of_decide_eq_false z;exact List.ne_nil_of_mem (qz.mpr ⟨m1,by omega⟩)
 rintro _ ⟨mo,b5,b4,fo,rfl⟩;refine wv (λL=>(low b ms=[]\/∀x∈ms,x<b)/\L=[q_ (.scr ns),q_ (.lst [.str n0,.str n1,.str n2,.str n3,.str n4,.str n5]),q_ (tabD pr),q_ (.lst (ms.map D.int)),q_ (.int b),q_ (.int n),q_ (.tup [cntF n0 b n1 n2 n3 n4,addF n5 n0 n1 n2 n3]),q_ (.lst ((low b ms).map D.int)),q_ (.int (pr "call"+pr "open")),q_ (.int (pr "make"+pr "let"+pr "sum")),q_ (.int Z),q_ (.lst (j.map D.int)),fo,q_ (.int mo),none]) ?_ ?_
 ·refine⟨ms,rfl,m0,λM m1 m2=>⟨λz=>⟨λy=>?_,λy=>⟨.inl ?_,rfl⟩⟩,λz=>⟨nofun,λ_=>⟨.inr λx hx=>?_,rfl⟩⟩⟩⟩
  ·refine⟨rfl,rfl,⟨trivial,trivial,trivial,trivial,trivial,trivial,trivial⟩,rfl,Zi (n:=0) (most:=1) nz (by omega) m0 m3 ok λl ll lm lx lp=>⟨lp,of_eq_true (wt ..),of_eq_true (wt ..),trivial,?_⟩⟩
   cases List.length_eq_zero_iff.mp ll
   have e:eqD (.int (tot pr ((kdC b []).take (Int.toNat 1)))) (.int (pr "call"))=true:=by
    rw[Y6];exact beq_iff_eq.mpr (Int.add_zero _)
   exact(congrArg (λz=>U (dv (.bl z))) e).mpr h
  ·exact Classical.byContradiction λq=>absurd (Zg q) (of_decide_eq_false y)
  have z:=of_decide_eq_false z;have:=m2 x hx;omega
 rintro _ ⟨hA,rfl⟩;have sr:=λ(l:List Int)(la:Int) ll lm a3=>Qi (pr:=pr) (n:=n) (l:=l) (la:=la) hA m0 ll lm b5 b4 a3;refine yn ⟨rfl,rfl,⟨trivial,trivial,trivial,trivial,trivial,trivial,trivial⟩,rfl,Zi (n:=n) (most:=mo) nz n3' m0 m3 ok λl ll lm lx lp=>⟨lp,rfl,_,_,_,rfl,λz=>absurd z ?_,λ_=>qv ?_⟩⟩
 ·rw[(sr l _ ll lm rfl).1,ed];simp
 dsimp only
 refine yb ⟨trivial,?_⟩;refine wv (λL=>∃la:Int,la=(if low b ms≠[]/\0<n then pr "sum" else pr "open")/\L=[q_ (.scr ns),q_ (.lst [.str n0,.str n1,.str n2,.str n3,.str n4,.str n5]),q_ (tabD pr),q_ (.lst (ms.map D.int)),q_ (.int b),q_ (.int n),q_ (.tup [cntF n0 b n1 n2 n3 n4,addF n5 n0 n1 n2 n3]),q_ (.lst ((low b ms).map D.int)),q_ (.int (pr "call"+pr "open")),q_ (.int (pr "make"+pr "let"+pr "sum")),q_ (.int Z),q_ (.lst (j.map D.int)),fo,q_ (.int mo),q_ (.int la)]) ?_ ?_
 ·refine⟨λz=>⟨λy=>⟨trivial,_,?_,rfl⟩,λy=>⟨_,?_,rfl⟩⟩,λz=>⟨nofun,λ_=>⟨_,?_,rfl⟩⟩⟩
  ·have ql:low b ms≠[]:=λq=>by
    have:=of_decide_eq_true z;rw[q]at this;exact absurd this (by decide)
   rw[if_pos ⟨ql,by have:=of_decide_eq_true y;omega⟩]
  ·rw[if_neg λq=>absurd (of_decide_eq_false y) (by omega)]
  rw[if_neg λq=>absurd (Zg q.1) (of_decide_eq_false z)]
 rintro _ ⟨la,a3,rfl⟩;refine⟨rfl,rfl,⟨trivial,trivial,trivial,trivial,trivial,trivial,trivial⟩,rfl,Zi (n:=n) (most:=mo-1) nz n3' m0 m3 ok λl ll lm lx lp=>⟨lp,rfl,_,_,_,rfl,?_⟩⟩;rw[(sr l la ll lm a3).2,<- ed];refine⟨trivial,?_⟩;rw[decide_eq_true rfl];exact h
abbrev NsA(K:W.Frag)(x:Str)(f:Addr):Prop:=W.nsIn K mainGlobals x=some (some (.ref f))
abbrev NnA(K:W.Frag)(x:Str):Prop:=W.nsIn K mainGlobals x=some none
abbrev FdA(K:W.Frag)(C:Addr)(x:Str)(f:Addr):Prop:=W.findIn K (.ref C) x=some (some (.ref f))
def FnA(K:W.Frag)(x q:Str)(st:Stmt)(f:Addr):Prop:=(∃fd,Fun K x q st f fd)/\W.keepIn K (.ref f)=true
def fna_mk{K:W.Frag}{x q:Str}{st:Stmt}{f:Addr}{M an:Option Addr}{B:Array (Option Value)}{N kV Z I j ct:Value}(l:K.lookup f=some ⟨N,M,.func (W.fnOf x q (wu st) (yi st) (zb st) .none kV Z I an j ct),B⟩)(c:W.codeIn K j q=true)(k:W.keepIn K (.ref f)=true):FnA K x q st f:=⟨⟨_,Js l c k⟩,k⟩
def l4{α:Type}{us:List α}(h:us.length=4):∃a b c d,us=[a,b,c,d]:=match us,h with
 |[a,b,c,d],_=>⟨a,b,c,d,rfl⟩
def l5{α:Type}{us:List α}{x:α}(h:(us++[x]).length=6):∃a b c d e,us=[a,b,c,d,e]:=by
 have h:us.length=5:=by rw[zLa]at h;exact Nat.succ.inj h
 exact match us,h with
 |[a,b,c,d,e],_=>⟨a,b,c,d,e,rfl⟩
def all_mk{l:W.OpenLaw}{w:World}{K:W.Frag}{h:Heap}{mg:Str->Option Value}{fa:Addr}(X:K.In h)(G:h.Ns mainGlobals mg)(hfa:mg "law" = some (.ref fa)){f1 f2 f3 f4 f5 f6 f7 f8 f9 r6 r5 r4 r3 r1 r0 q9 q8 q7 q6 q5 q4 q3 q2 q1 q0 p9 p8 p7 j0 g0 g1 g2 g3 g4 g5 g6 g7 g8 g9 g10 g11 g12 g13 g14 g15 g16 g17:Addr}{p0 e6:Option Addr}{o5:Array (Option Value)}{p4 e3 e4 e0 c8 e5:Value}{ft Tt:Addr}{nt:Nat}{o2:Tok}{o8 s4:Option Addr}{o3 z1:Array (Option Value)}{p1 p5 r8 o6 j1 s0:Value}{fe Td:Addr}{nd:Nat}{d5:Tok}{o9 s3:Option Addr}{o4 z2:Array (Option Value)}{p3 p6 r9 o7 j2 s1:Value}{C:Addr}{tq tr ti:Tok}{aW:Addr}{z4:Option Addr}{nW:Nat}{z3:Array (Option Value)}{y6 y5 y4 y3 y2 y1 x7:Tok}(a1:NsA K "is_whole" f1)(l1:FnA K "is_whole" "is_whole" (top 7) f1)(a2:NsA K "is_tree" f2)(l2:FnA K "is_tree" "is_tree" (top 11) f2)(a3:NsA K "fits" f3)(l3:FnA K "fits" "fits" (top 10) f3)(a4:NsA K "size_of" f4)(l4:FnA K "size_of" "size_of" (top 12) f4)(a5:NsA K "function_of" f5)(l5:FnA K "function_of" "function_of" (top 8) f5)(a6:NsA K "check_args" f6)(l6:FnA K "check_args" "check_args" (top 18) f6)(a7:NsA K "is_price" f7)(l7:FnA K "is_price" "is_price" (top 22) f7)(a8:NsA K "check_table" f8)(l8:FnA K "check_table" "check_table" (top 23) f8)(a9:NsA K "price_of" f9)(l9:FnA K "price_of" "price_of" (top 24) f9)(a10:NsA K "shapes_of" r6)(l10:FnA K "shapes_of" "shapes_of" (top 28) r6)(a11:NsA K "forms_of" r5)(l11:FnA K "forms_of" "forms_of" (top 31) r5)(a12:NsA K "count_of" r4)(l12:FnA K "count_of" "count_of" (top 30) r4)(a13:NsA K "check_inputs" r3)(l13:FnA K "check_inputs" "check_inputs" (top 29) r3)(a14:NsA K "nodes_over" r1)(l14:FnA K "nodes_over" "nodes_over" (top 35) r1)(a15:NsA K "trees_of" r0)(l15:FnA K "trees_of" "trees_of" (top 34) r0)(a16:NsA K "values_of" q9)(l16:FnA K "values_of" "values_of" (top 33) q9)(a17:NsA K "inputs_of" q8)(l17:FnA K "inputs_of" "inputs_of" (top 32) q8)(a18:NsA K "_law_cell_at" q7)(l18:FnA K "_law_cell_at" "_law_cell_at" (top 37) q7)(a19:NsA K "_law_whole" q6)(l19:FnA K "_law_whole" "_law_whole" (top 38) q6)(a20:NsA K "_law_names" q5)(l20:FnA K "_law_names" "_law_names" (top 39) q5)(a21:NsA K "_law_counting" q4)(l21:FnA K "_law_counting" "_law_counting" (top 40) q4)(a22:NsA K "_law_adding" q3)(l22:FnA K "_law_adding" "_law_adding" (top 41) q3)(a23:NsA K "_law_table" q2)(l23:FnA K "_law_table" "_law_table" (top 42) q2)(a24:NsA K "_law_number" q1)(l24:FnA K "_law_number" "_law_number" (top 43) q1)(a25:NsA K "_law_numbers" q0)(l25:FnA K "_law_numbers" "_law_numbers" (top 44) q0)(a26:NsA K "_law_priced" p9)(l26:FnA K "_law_priced" "_law_priced" (top 45) p9)(a27:NsA K "_law_row_of" p8)(l27:FnA K "_law_row_of" "_law_row_of" (top 46) p8)(a28:NsA K "_law_tree_of" p7)(l28:FnA K "_law_tree_of" "_law_tree_of" (top 47) p7)(a29:W.nsIn K mainGlobals "law" = some (some (.ref j0)))(l29:K.lookup j0=some ⟨p4,p0,.func (W.fnOf "law" "law" (wu (top 48)) (yi (top 48)) (zb (top 48)) .none e3 e4 e0 e6 c8 e5),o5⟩)(c29:W.codeIn K c8 "law" = true)(k29:W.keepIn K (.ref j0)=true)(at_:W.nsIn K mainGlobals "trace" = some (some (.ref ft)))(lt:K.lookup ft=some ⟨p1,o8,.func (W.fnOf "trace" "trace" (wu (top 17)) (yi (top 17)) (zb (top 17)) (.ref Tt) p5 r8 o6 s4 j1 s0),o3⟩)(ct_:W.codeIn K j1 "trace" = true)(kt:W.keepIn K (.ref ft)=true)(et:K.lookup Tt=some ⟨.type "tuple",none,.seq #[.int 1000 o2] nt,z1⟩)(s5:W.nsIn K mainGlobals "dearest" = some (some (.ref fe)))(ld:K.lookup fe=some ⟨p3,o9,.func (W.fnOf "dearest" "dearest" (wu (top 27)) (yi (top 27)) (zb (top 27)) (.ref Td) p6 r9 o7 s3 j2 s1),o4⟩)(cd_:W.codeIn K j2 "dearest" = true)(kd:W.keepIn K (.ref fe)=true)(ed:K.lookup Td=some ⟨.type "tuple",none,.seq #[.int 1000 d5] nd,z2⟩)(aC:W.nsIn K mainGlobals "Run" = some (some (.ref C)))(b0:FdA K C "__init__" g0)(i0:W.isFn K (.ref g0)=true)(m0:FnA K "__init__" "Run.__init__" (mth 0) g0)(b1:FdA K C "told" g1)(i1:W.isFn K (.ref g1)=true)(m1:FnA K "told" "Run.told" (mth 1) g1)(b2:FdA K C "go" g2)(i2:W.isFn K (.ref g2)=true)(m2:FnA K "go" "Run.go" (mth 2) g2)(b3:FdA K C "step" g3)(i3:W.isFn K (.ref g3)=true)(m3:FnA K "step" "Run.step" (mth 3) g3)(b4:FdA K C "own_step" g4)(i4:W.isFn K (.ref g4)=true)(m4:FnA K "own_step" "Run.own_step" (mth 4) g4)(b5:FdA K C "standing" g5)(i5:W.isFn K (.ref g5)=true)(m5:FnA K "standing" "Run.standing" (mth 5) g5)(b6:FdA K C "stand" g6)(i6:W.isFn K (.ref g6)=true)(m6:FnA K "stand" "Run.stand" (mth 6) g6)(b7:FdA K C "taken" g7)(i7:W.isFn K (.ref g7)=true)(m7:FnA K "taken" "Run.taken" (mth 7) g7)(b8:FdA K C "behind" g8)(i8:W.isFn K (.ref g8)=true)(m8:FnA K "behind" "Run.behind" (mth 8) g8)(b9:FdA K C "begin_body" g9)(i9:W.isFn K (.ref g9)=true)(m9:FnA K "begin_body" "Run.begin_body" (mth 9) g9)(b10:FdA K C "follow" g10)(i10:W.isFn K (.ref g10)=true)(m10:FnA K "follow" "Run.follow" (mth 10) g10)(b11:FdA K C "bring" g11)(i11:W.isFn K (.ref g11)=true)(m11:FnA K "bring" "Run.bring" (mth 11) g11)(b12:FdA K C "choose" g12)(i12:W.isFn K (.ref g12)=true)(m12:FnA K "choose" "Run.choose" (mth 12) g12)(b13:FdA K C "begin_value" g13)(i13:W.isFn K (.ref g13)=true)(m13:FnA K "begin_value" "Run.begin_value" (mth 13) g13)(b14:FdA K C "apply" g14)(i14:W.isFn K (.ref g14)=true)(m14:FnA K "apply" "Run.apply" (mth 14) g14)(b15:FdA K C "make" g15)(i15:W.isFn K (.ref g15)=true)(m15:FnA K "make" "Run.make" (mth 15) g15)(b16:FdA K C "enter" g16)(i16:W.isFn K (.ref g16)=true)(m16:FnA K "enter" "Run.enter" (mth 16) g16)(b17:FdA K C "leave" g17)(i17:W.isFn K (.ref g17)=true)(m17:FnA K "leave" "Run.leave" (mth 17) g17)(pg:W.plainGet K C Str.empty=true)(hd:W.hasDictIn K C=true)(po:W.plainOver K C=true)(sa:W.findIn K (.ref C) "__setattr__" = some (some (.builtin "object.__setattr__")))(mk:W.makesIn K C=true)(kc:W.keepIn K (.ref C)=true)(nf0:W.findIn K (.ref C) "functions" = some none)(nf1:W.findIn K (.ref C) "most" = some none)(nf2:W.findIn K (.ref C) "calls" = some none)(nf3:W.findIn K (.ref C) "steps" = some none)(z8:W.findIn K (.ref C) "frames" = some none)(z7:W.findIn K (.ref C) "tasks" = some none)(z6:W.findIn K (.ref C) "ready" = some none)(z5:W.findIn K (.ref C) "is_cut" = some none)(bQ:W.nsIn K mainGlobals "MOST_CALLS" = some (some (.int 20 tq)))(bR:W.nsIn K mainGlobals "MOST_SIZE" = some (some (.int 100 tr)))(bI:W.nsIn K mainGlobals "MOST_INPUTS" = some (some (.int 243 ti)))(bW:W.nsIn K mainGlobals "WORDS" = some (some (.ref aW)))(lW:K.lookup aW=some ⟨.type "tuple",z4,.seq #[.str "call" y6,.str "make" y5,.str "sum" y4,.str "let" y3,.str "less" y2,.str "open" y1,.str "hold" x7] nW,z3⟩)(B:NnA K "ValueError")(h6:NnA K "all")(d4:NnA K "bool")(d3:NnA K "dict")(I:NnA K "enumerate")(h5:NnA K "int")(q:NnA K "isinstance")(h4:NnA K "len")(d0:NnA K "list")(h3:NnA K "max")(f0:NnA K "min")(c6:NnA K "range")(c0:NnA K "reversed")(e9:NnA K "set")(c4:NnA K "sorted")(e8:NnA K "sum")(c5:NnA K "tuple")(e7:NnA K "zip") :
  ∃fd:FuncData,(∀(s:Shared)(v:Value),BindsTo s fd ⟨[v],[]⟩ [("_law_script",v)])/\∀base:Heap,K.In base->base.Ns mainGlobals mg->FnOk l.prog w K mg base CX0 12 fa fd ["_law_script"] (spD K 1 lawT):=by
 have e:=hfa.symm.trans (W.mg_of X G a29);cases e;have T:Tops mg:=⟨W.mg_none_of X G B,W.mg_none_of X G h6,W.mg_none_of X G d4,W.mg_none_of X G d3,W.mg_none_of X G I,W.mg_none_of X G h5,W.mg_none_of X G q,W.mg_none_of X G h4,W.mg_none_of X G d0,W.mg_none_of X G h3,W.mg_none_of X G f0,W.mg_none_of X G c6,W.mg_none_of X G c0,W.mg_none_of X G e9,W.mg_none_of X G c4,W.mg_none_of X G e8,W.mg_none_of X G c5,W.mg_none_of X G e7⟩;obtain⟨⟨_,F1⟩,_⟩:=l1;obtain⟨⟨_,F2⟩,_⟩:=l2;obtain⟨⟨_,F3⟩,_⟩:=l3;obtain⟨⟨_,F4⟩,_⟩:=l4;obtain⟨⟨_,F5⟩,_⟩:=l5;obtain⟨⟨_,F6⟩,_⟩:=l6;obtain⟨⟨_,F7⟩,_⟩:=l7;obtain⟨⟨_,F8⟩,_⟩:=l8;obtain⟨⟨_,F9⟩,_⟩:=l9;obtain⟨⟨_,F10⟩,_⟩:=l10;obtain⟨⟨_,F11⟩,_⟩:=l11;obtain⟨⟨_,F12⟩,_⟩:=l12;obtain⟨⟨_,F13⟩,_⟩:=l13;obtain⟨⟨_,F14⟩,_⟩:=l14;obtain⟨⟨_,F15⟩,_⟩:=l15;obtain⟨⟨_,F16⟩,_⟩:=l16;obtain⟨⟨_,F17⟩,_⟩:=l17;obtain⟨⟨_,F18⟩,_⟩:=l18;obtain⟨⟨_,F19⟩,_⟩:=l19;obtain⟨⟨_,F20⟩,_⟩:=l20;obtain⟨⟨_,F21⟩,_⟩:=l21;obtain⟨⟨_,F22⟩,_⟩:=l22;obtain⟨⟨_,F23⟩,_⟩:=l23;obtain⟨⟨_,F24⟩,_⟩:=l24;obtain⟨⟨_,F25⟩,_⟩:=l25;obtain⟨⟨_,F26⟩,_⟩:=l26;obtain⟨⟨_,F27⟩,_⟩:=l27;obtain⟨⟨_,F28⟩,_⟩:=l28;have F29:=Js (st:=top 48) l29 c29 k29;refine⟨W.fnOf "law" "law" (wu (top 48)) (yi (top 48)) (zb (top 48)) .none e3 e4 e0 e6 c8 e5,λs v=>.of_eq rfl,λbase _ _=>?_⟩;have Z:Con3 K mg:=⟨⟨_,.int 20,W.mg_of X G bQ,⟨_,rfl⟩,λ_ _=>rfl⟩,⟨_,.int 100,W.mg_of X G bR,⟨_,rfl⟩,λ_ _=>rfl⟩⟩;have Z2:Con2 K mg:=⟨Lg (ws:=wn) (W.mg_of X G bW) lW rfl rfl (by rw[sizeLine_eq];show(7:Nat)<=_;decide) (.cons ⟨_,rfl⟩ (.cons ⟨_,rfl⟩ (.cons ⟨_,rfl⟩ (.cons ⟨_,rfl⟩ (.cons ⟨_,rfl⟩ (.cons ⟨_,rfl⟩ (.cons ⟨_,rfl⟩ .nil))))))),⟨_,.int 243,W.mg_of X G bI,⟨_,rfl⟩,λ_ _=>rfl⟩⟩
 have O:CO K C zh:=⟨⟨pg,hd,po,sa⟩,λf hf=>by
  simp only[zh,zam,List.not_mem_nil,or_false]at hf;rcases hf with rfl|rfl|rfl|rfl|rfl|rfl|rfl|rfl
  ·exact nf0
  ·exact nf1
  ·exact nf2
  ·exact nf3
  ·exact z8
  ·exact z7
  ·exact z6
  exact z5⟩
 obtain⟨⟨_,G0⟩,n0⟩:=m0;have H0:Meth K C "__init__" g0:=⟨b0,i0,n0⟩;obtain⟨⟨_,G1⟩,n1⟩:=m1;have H1:Meth K C "told" g1:=⟨b1,i1,n1⟩;obtain⟨⟨_,G2⟩,n2⟩:=m2;have H2:Meth K C "go" g2:=⟨b2,i2,n2⟩;obtain⟨⟨_,G3⟩,n3⟩:=m3;have H3:Meth K C "step" g3:=⟨b3,i3,n3⟩;obtain⟨⟨_,G4⟩,n4⟩:=m4;have H4:Meth K C "own_step" g4:=⟨b4,i4,n4⟩;obtain⟨⟨_,G5⟩,n5⟩:=m5;have H5:Meth K C "standing" g5:=⟨b5,i5,n5⟩;obtain⟨⟨_,G6⟩,n6⟩:=m6;have H6:Meth K C "stand" g6:=⟨b6,i6,n6⟩;obtain⟨⟨_,G7⟩,n7⟩:=m7;have H7:Meth K C "taken" g7:=⟨b7,i7,n7⟩;obtain⟨⟨_,G8⟩,n8⟩:=m8;have H8:Meth K C "behind" g8:=⟨b8,i8,n8⟩;obtain⟨⟨_,G9⟩,n9⟩:=m9;have H9:Meth K C "begin_body" g9:=⟨b9,i9,n9⟩;obtain⟨⟨_,G10⟩,n10⟩:=m10;have H10:Meth K C "follow" g10:=⟨b10,i10,n10⟩;obtain⟨⟨_,G11⟩,n11⟩:=m11;have H11:Meth K C "bring" g11:=⟨b11,i11,n11⟩;obtain⟨⟨_,G12⟩,n12⟩:=m12;have H12:Meth K C "choose" g12:=⟨b12,i12,n12⟩;obtain⟨⟨_,G13⟩,n13⟩:=m13;have H13:Meth K C "begin_value" g13:=⟨b13,i13,n13⟩;obtain⟨⟨_,G14⟩,n14⟩:=m14;have H14:Meth K C "apply" g14:=⟨b14,i14,n14⟩;obtain⟨⟨_,G15⟩,n15⟩:=m15;have H15:Meth K C "make" g15:=⟨b15,i15,n15⟩;obtain⟨⟨_,G16⟩,n16⟩:=m16;have H16:Meth K C "enter" g16:=⟨b16,i16,n16⟩;obtain⟨⟨_,G17⟩,n17⟩:=m17;have H17:Meth K C "leave" g17:=⟨b17,i17,n17⟩;have h7:=Vl (P:=l.prog) (w:=w) (base:=base) T F1 (W.mg_of X G a1);have t1:=Rh (P:=l.prog) (w:=w) (base:=base) T h7 F2 (W.mg_of X G a2);have s6:=Ek (P:=l.prog) (w:=w) (base:=base) T h7 t1 F3 (W.mg_of X G a3);have t0:=Rg (P:=l.prog) (w:=w) (base:=base) T F4 (W.mg_of X G a4);have k3:=cf (P:=l.prog) (w:=w) (base:=base) T F5 (W.mg_of X G a5);have v4:=Y2 (P:=l.prog) (w:=w) (base:=base) T s6 F6 (W.mg_of X G a6);have k1:=Eg (P:=l.prog) (w:=w) (base:=base) T O G3 H3;have c7:=Vi (P:=l.prog) (w:=w) (base:=base) T O k1 G4 H4;have k6:=Lk (P:=l.prog) (w:=w) (base:=base) T O G6 H6;have h9:=Lj (P:=l.prog) (w:=w) (base:=base) T O G7 H7;have o0:=Of (P:=l.prog) (w:=w) (base:=base) T O G8 H8;have o1:=Xm (P:=l.prog) (w:=w) (base:=base) T O G5 H5;have x1:=Od (P:=l.prog) (w:=w) (base:=base) T O k6 G10 H10;have v6:=Ln (P:=l.prog) (w:=w) (base:=base) T O c7 k6 h9 G11 H11;have x0:=Oe (P:=l.prog) (w:=w) (base:=base) T O c7 h9 G12 H12;have v5:=Ll (P:=l.prog) (w:=w) (base:=base) T O G17 H17;have v9:=Eh (P:=l.prog) (w:=w) (base:=base) T Z O c7 t0 G15 H15;have x4:=dw (P:=l.prog) (w:=w) (base:=base) T O o0 o1 G13 H13;have x3:=Zu (P:=l.prog) (w:=w) (base:=base) T O o0 c7 x1 o1 G9 H9;have k4:=Lm (P:=l.prog) (w:=w) (base:=base) T Z O k1 G16 H16;have v7:=Lo (P:=l.prog) (w:=w) (base:=base) T O k4 h9 v9 c7 G14 H14;have s7:=z1h (P:=l.prog) (w:=w) (base:=base) T O x3 x4 v7 v6 x0 v5 G2 H2;have v0:=Ei (P:=l.prog) (w:=w) (base:=base) T O G0 H0;have u8:=Li (P:=l.prog) (w:=w) (base:=base) T O G1 H1;have Ft:FunV K "trace" "trace" (top 17) ft (.int 1000 o2) _:=⟨⟨Tt,_,nt,p1,o8,p5,r8,o6,s4,j1,s0,o3,rfl,lt,ct_,et,rfl⟩,kt⟩;have s9:=Lh (P:=l.prog) (w:=w) (base:=base) T O v4 k3 v0 k4 s7 u8 mk kc (W.mg_of X G aC) Ft;have s8:FD l.prog w K mg base 10 "trace" ["program","name","args","most"] (Q2 C RT FzT):=⟨ft,_,s9,Ft.binds (ds:=[]) (λT' kV r7 pm an qZ ct us hl=>by rw[List.append_nil]at hl;obtain⟨_,_,_,_,rfl⟩:=l4 hl;exact⟨_,rfl,rfl⟩),kt,W.mg_of X G at_⟩
 have u5:=Vm (P:=l.prog) (w:=w) (base:=base) T h7 F7 (W.mg_of X G a7);have k2:=cg (P:=l.prog) (w:=w) (base:=base) T Z2 u5 F8 (W.mg_of X G a8);have u2:=Vk (P:=l.prog) (w:=w) (base:=base) T k2 F9 (W.mg_of X G a9);have N:=(Xk (P:=l.prog) (w:=w) (base:=base) T k3 F10 (W.mg_of X G a10)).fw;have t3:=Vn (P:=l.prog) (w:=w) (base:=base) T F11 (W.mg_of X G a11);have t2:=Vo (P:=l.prog) (w:=w) (base:=base) T t3 F12 (W.mg_of X G a12);have w9:=fk (P:=l.prog) (w:=w) (base:=base) T Z2 t2 F13 (W.mg_of X G a13);have v3:=Zx (P:=l.prog) (w:=w) (base:=base) T F14 (W.mg_of X G a14);have c1:=(Vh (P:=l.prog) (w:=w) (base:=base) T v3 F15 (W.mg_of X G a15)).fw;have M:=(Xj (P:=l.prog) (w:=w) (base:=base) T c1 F16 (W.mg_of X G a16)).fw;have a0:=(Xl (P:=l.prog) (w:=w) (base:=base) T M F17 (W.mg_of X G a17)).fw;have Fd:FunV K "dearest" "dearest" (top 27) fe (.int 1000 d5) _:=⟨⟨Td,_,nd,p3,o9,p6,r9,o7,s3,j2,s1,o4,rfl,ld,cd_,ed,rfl⟩,kd⟩;have k0:=Re (P:=l.prog) (w:=w) (base:=base) T k2 N w9 a0 s8 u2 Fd;have c3:FW l.prog w K mg base 11 "dearest" ["program","table","name","sizes","numbers","most"] [] (dh C):=⟨fe,_,[],k0,Fd.binds (ds:=[]) (λT' kV r7 pm an qZ ct us hl=>by rw[List.append_nil]at hl;obtain⟨_,_,_,_,_,_,rfl⟩:=len6 hl;exact⟨_,rfl,rfl⟩),.nil,kd,W.mg_of X G s5⟩
 have c2:FW l.prog w K mg base 11 "dearest" ["program","table","name","sizes","numbers","most"] [1000] (dh C):=⟨fe,_,[.int 1000 d5],k0,Fd.binds (ds:=[.int 1000 d5]) (λT' kV r7 pm an qZ ct us hl=>by obtain⟨_,_,_,_,_,rfl⟩:=l5 hl;exact⟨_,rfl,rfl⟩),.cons ⟨_,rfl⟩ .nil,kd,W.mg_of X G s5⟩
 have l0:=ca (P:=l.prog) (w:=w) (base:=base) T F18 (W.mg_of X G a18);have h8:=Xo (P:=l.prog) (w:=w) (base:=base) T F19 (W.mg_of X G a19);have v2:=Xq (P:=l.prog) (w:=w) (base:=base) T F20 (W.mg_of X G a20);have x2:=fj (P:=l.prog) (w:=w) (base:=base) T F21 (W.mg_of X G a21);have w4:=Y1 (P:=l.prog) (w:=w) (base:=base) T F22 (W.mg_of X G a22);have v1:=Xp (P:=l.prog) (w:=w) (base:=base) T F23 (W.mg_of X G a23);have w3:=Y0 (P:=l.prog) (w:=w) (base:=base) T F24 (W.mg_of X G a24);have j:=(du (P:=l.prog) (w:=w) (base:=base) T w3 l0 F25 (W.mg_of X G a25)).fw;have w2:=Zz (P:=l.prog) (w:=w) (base:=base) T h8 F26 (W.mg_of X G a26);have w0:=Zy (P:=l.prog) (w:=w) (base:=base) T h8 F27 (W.mg_of X G a27);have w7:=c9 (P:=l.prog) (w:=w) (base:=base) T h8 F28 (W.mg_of X G a28);exact Bc T v2 l0 v1 j x2 w4 c3 c2 w2 w0 w7 F29
end ZZ
open PySem PySem.W PyProof.Rows
set_option maxRecDepth 100000 in
set_option maxHeartbeats 0 in
theorem PySem.Challenge.cw_toll_k73_dearest_reckoned_holds : PySem.Challenge.rw_toll_k73_dearest_reckoned.Holds := by
 refine ZZ.opened ?_
 k_fill
 refine ZZ.walkD (l:=PySem.Challenge.rw_toll_k73_dearest_reckoned) (k:=12) (x:="_law_script") rfl rfl ⟨rfl,by decide,by decide⟩ (λw h Y=>PySem.W.kIn_of Y) ?F
 case F =>
  intro w mg B h q G j
  refine' ZZ.all_mk q G j ?a1 ?l1 ?a2 ?l2 ?a3 ?l3 ?a4 ?l4 ?a5 ?l5 ?a6 ?l6 ?a7 ?l7 ?a8 ?l8 ?a9 ?l9 ?a0 ?aa ?ab ?ac ?ad ?ae ?af ?ag ?ah ?ai ?aj ?ak ?al ?am ?an ?ao ?ap ?aq ?ar ?au ?av ?aw ?ax ?ay ?az ?ba ?bb ?bc ?bd ?bf ?bg ?bh ?bi ?bj ?bk ?bl ?bm ?bn ?bo ?bp ?bq ?br ?bs ?lt ?bt ?kt ?et ?bu ?ld ?bv ?kd ?ed ?aC ?b0 ?i0 ?m0 ?b1 ?i1 ?m1 ?b2 ?i2 ?m2 ?b3 ?i3 ?m3 ?b4 ?i4 ?m4 ?b5 ?i5 ?m5 ?b6 ?i6 ?m6 ?b7 ?i7 ?m7 ?b8 ?i8 ?m8 ?b9 ?i9 ?m9 ?bw ?bx ?bz ?c0 ?c1 ?c2 ?c3 ?c4 ?c5 ?c6 ?c7 ?c8 ?c9 ?ca ?cb ?cc ?cd ?ce ?cf ?cg ?ch ?ci ?cj ?ck ?pg ?hd ?po ?sa ?mk ?kc ?cl ?cm ?cn ?co ?cp ?cq ?cr ?cs ?bQ ?bR ?bI ?bW ?lW ?ct ?cu ?cv ?cw ?cx ?cy ?cz ?d0 ?d1 ?d2 ?d3 ?d4 ?d5 ?d6 ?d7 ?d8 ?d9 ?da
  case a1 | a2 | a3 | a4 | a5 | a6 | a7 | a8 | a9 | a0 | ab | ad | af | ah | aj | al | an | ap | ar | av | ax | az | bb | bd | bg | bi | bk | bm | bo | bs | bu | aC | b0 | i0 | b1 | i1 | b2 | i2 | b3 | i3 | b4 | i4 | b5 | i5 | b6 | i6 | b7 | i7 | b8 | i8 | b9 | i9 | bw | bx | c0 | c1 | c3 | c4 | c6 | c7 | c9 | ca | cc | cd | cf | cg | ci | cj | ct | cu | cv | cw | cx | cy | cz | d0 | d1 | d2 | d3 | d4 | d5 | d6 | d7 | d8 | d9 | da=>show _=_; k_is
  case l1 | l2 | l3 | l4 | l5 | l6 | l7 | l8 | l9 | aa | ac | ae | ag | ai | ak | am | ao | aq | au | aw | ay | ba | bc | bf | bh | bj | bl | bn | m0 | m1 | m2 | m3 | m4 | m5 | m6 | m7 | m8 | m9 | bz | c2 | c5 | c8 | cb | ce | ch | ck =>
   refine' ZZ.fna_mk ?lA ?cA ?kA
   case lA=>k_is
   case cA=>k_is
   case kA=>k_is
  case bp | bq | br | lt | bt | kt | et | ld | bv | kd | ed | pg | hd | po | sa | mk | kc | cl | cm | cn | co | cp | cq | cr | cs | bQ | bR | bI | bW | lW=>k_is
