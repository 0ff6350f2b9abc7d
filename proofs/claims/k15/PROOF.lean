import PyProof.Rows.All
import KE.IntBitsLaws
import KE.KDictOf
import KE.KIsAll
import KE.KItem
import KE.KRevIter
import PySem.Challenge.RW_toll_k15_cut_is_a_beginning
noncomputable section
set_option Elab.async false
set_option linter.all false
def zaa:=@PySem.wpAny_bind
def zab:=@PySem.wpAny_pure
def zac:=@PySem.Heap.get?_push_of_some
def zad:=@PySem.Heap.get?_push_size
def zae:=@PySem.Heap.lt_size
def zaf:=@List.getElem?_eq_getElem
def zag:=@List.getElem?_eq_some_iff
def zah:=@List.mem_map
def zai:=@List.getElem?_map
def zaj:=@Nat.le_refl
def zak:=@Nat.le_trans
def zal:=@List.mem_cons_of_mem
def zam:=@List.mem_cons
def zan:=@List.mem_of_getElem?
def zao:=@List.mem_cons_self
def zap:=@List.size_toArray
def zar:=@Option.map_eq_some_iff
def zas:=@List.mem_append
set_option maxRecDepth 100000
set_option maxHeartbeats 8000000
set_option exponentiation.threshold 5000
set_option compiler.extract_closed false
set_option bootstrap.genMatcherCode false
def zLa.{u} {α:Type u} {a b:List α}:(a++b).length=a.length+b.length:=List.length_append
def zLc.{u} {α:Type u} {x:α} {a:List α}:(x::a).length=a.length+1:=rfl
def zLn.{u} {α:Type u}:([]:List α).length=0:=rfl
def zLm.{u,v} {α:Type u} {q:Type v} {j:List α} (f:α->q):(j.map f).length=j.length:=List.length_map f
def zMa.{u,v} {α:Type u} {j:Type v} {f:α->j} {l₁ l₂:List α}:(l₁++l₂).map f=l₁.map f++l₂.map f:=List.map_append
set_option hygiene false in
local macro_rules | `(tactic| walk_at "t")=>`(tactic| (intro cl C fp s H; first | exact zn (i:=0) (by show ((_:List Str)++_).Nodup; decide +kernel) rfl (by walk_at "o") | exact ug (K0:=K) (n:=2) (by rfl) (by rfl) (yb (zn (i:=0) (by show ((_:List Str)++_).Nodup; decide +kernel) rfl (by walk_at "o")) (yb (zn (i:=1) (by show ((_:List Str)++_).Nodup; decide +kernel) rfl (by walk_at "o")) vf))))
set_option hygiene false in
local macro_rules | `(tactic| walk_at "b")=>`(tactic| (refine u6 F S (F.binds fun _ _ _ _ _ _ us hl=>by first | (obtain ⟨_,rfl⟩:=jl hl; rfl) | (obtain ⟨_,_,rfl⟩:=uw hl; rfl) | (obtain ⟨_,_,_,rfl⟩:=Yx hl; rfl) | (obtain ⟨_,_,_,_,rfl⟩:=Ni hl; rfl)) m fun qZ A outer s H E ds Y hr hl hT=>?_; have hu:=hr.units))
set_option hygiene false in
local macro_rules | `(tactic| walk_at "p")=>`(tactic| simp only [ρ0,List.map_cons,List.map_nil,List.replicate,List.cons_append,List.nil_append])
local macro_rules | `(tactic| walk_at "o")=>`(tactic| first | exact Or.inl rfl | exact Or.inr rfl | exact Or.inr (Or.inl rfl) | exact Or.inr (Or.inr rfl))
local macro_rules | `(tactic| walk_at "f")=>`(tactic| exact ⟨rfl,rfl,rfl,by decide +kernel,rfl,by decide +kernel,by decide +kernel⟩)
local macro_rules | `(tactic| walk_at "c")=>`(tactic| exact ⟨rfl,by decide +kernel,by decide +kernel,by decide +kernel,by decide +kernel,by decide +kernel⟩)
local macro_rules | `(tactic| walk_at "m")=>`(tactic| exact ⟨by first | omega | (simp; omega),by repeat first | assumption | exact trivial | refine $(Lean.mkIdent `prs1) ?_ ?_⟩)
set_option hygiene false in
local macro_rules | `(tactic| walk_at "k")=>`(tactic| (delta z_V openEnds topFrom; rw [Fast.te14082659384304107361]; kernel_rfl))
namespace ZZ
open PySem PySem.Spec PyProof.Rows
def vg(s:Stmt):Arguments:=match s with
 |.FunctionDef _ a _ _ _ _ _ _ _ _=>a
 |_=>{posonlyargs:=[],args:=[],vararg:=none,kwonlyargs:=[],kw_defaults:=[],kwarg:=none,defaults:=[]}
def yt(s:Stmt):List Stmt:=match s with
 |.FunctionDef _ _ b _ _ _ _ _ _ _=>b
 |_=>[]
def zd(s:Stmt):Scope:=match s with
 |.FunctionDef _ _ _ _ _ _ sc _ _ _=>sc
 |_=>{kind:=.function,names:=[],isGenerator:=false,isCoroutine:=false}
def xf(s:Stmt)(j:Nat):Stmt:=match s with
 |.ClassDef _ _ _ body _ _ _ _ _ _ _=>body.getD j (.Pass ⟨0,0,0,0⟩)
 |_=>.Pass ⟨0,0,0,0⟩
def top(i:Nat):Stmt:=PySem.Challenge.pw_toll_k15_cut_is_a_beginning.main.body.getD i (.Pass ⟨0,0,0,0⟩)
section
open PySem.W PySem.PyData
def zE(P:Params)(s:Str)(t:Nat)(v:Value):DictEntry:=⟨keyHash P s,.str s t,v⟩
def zG(n q:Str)(s:Stmt)(d c m:Value)(k:Nat):Obj:=⟨.type "function",none,.func (fnOf n q (vg s) (yt s) (zd s) d .none c m none (.ref k) .none),#[]⟩
def zF(n:Str)(s:Stmt)(m:Str)(i k:Nat):Obj:=⟨.type "function",none,.func (fnOf n n (vg s) (yt s) (zd s) .none .none .none (.str m i) none (.ref k) .none),#[]⟩
def zB(n:Str)(a b c:Nat)(d e:Int)(g i l:Nat)(m:Int)(p:Nat):Obj:=⟨.type "code",none,.fields #[.str n a,.str n b,.str "/claim/cut.py" c,.int d 0,.int e 0,.int 0 0,.int 0 0,.int 3 0,.ref g,.bool true,.int 181 0,.ref i,.none,.none,.none,.ref l,.int m 0,.int d 0,.str "/claim/cut.py" p],#[]⟩
def zC(n:Str)(a:Nat)(q:Str)(b c:Nat)(d e f:Int)(g:Nat)(h:Int)(i j k l:Nat)(m o:Int)(p:Nat):Obj:=⟨.type "code",none,.fields #[.str n a,.str q b,.str "/claim/cut.py" c,.int d 0,.int e 0,.int 0 0,.int 0 0,.int f 0,.ref g,.bool true,.int h 0,.ref i,.none,.ref j,.ref k,.ref l,.int m 0,.int o 0,.str "/claim/cut.py" p],#[]⟩
def z_t(x:Array Value):Obj:=⟨.type "tuple",none,.seq x 0,#[]⟩
def z_u(P:Params)(m a:Nat)(l:Int)(r:Nat):Obj:=⟨.type "dict",none,.dict #[zE P "__module__" a (.str "toll.errors" m),zE P "__firstlineno__" (a+4) (.int l (a+3)),zE P "__static_attributes__" (a+5) (.ref r),zE P "__doc__" (a+6) .none] 2,#[]⟩
def z_v(n:Str)(u o d b a:Nat):Obj:=⟨.type "type",none,.cls ⟨n,[.ref u],[.ref o,.ref u,.type "ValueError",.type "Exception",.type "BaseException",.type "object"],d,n,true,[],[],false,none,false⟩,#[some (.ref b),none,some (.str n a),some (.str n (a+8)),some (.builtin "ValueError.__new__"),some (.bool true)]⟩
def z_w(n:Str)(a:Nat)(d e:Int)(g m:Nat):Obj:=⟨.type "code",none,.fields #[.str n a,.str n (a+1),.str "/claim/cut.py" (a+2),.int d 0,.int e 0,.int 0 0,.int 0 0,.int 3 0,.ref g,.bool true,.int 181 0,.ref (g+1),.none,.none,.none,.ref (g+2),.int m 0,.int d 0,.str "/claim/cut.py" (m+1)],#[]⟩
def z_x(n:Str)(a:Nat)(d e:Int)(g m:Nat):Obj:=zC n a n (a+1) (a+2) d e 3 g 181 (g+1) (g+2) (g+3) (g+4) m d (m+1)
def z_a(n:Str)(i c:Nat):Obj:=zF n (top i) "law_toll_k15_cut_is_a_beginning" 493 c
def z_b(n:Str)(i c:Nat):Obj:=zF n (top i) "toll.values" 257 c
def z_y(P:Params)(n:Str)(a r:Nat):=zE P n a (.ref r)
noncomputable def zK(P:Params):Frag:=(nat_lit 2,⟨.none,none,(.dict #[] 0),#[]⟩)::
(nat_lit 3,⟨(.type "dict"),none,(.dict #[zE P "__name__" 165 (.str "law_toll_k15_cut_is_a_beginning" 493),zE P "__doc__" 166 .none,zE P "__package__" 167 .none,zE P "__loader__" 168 (.builtin "__main__.__loader__#opaque"),zE P "__spec__" 169 .none,z_y P "__annotations__" 170 6,z_y P "__builtins__" 171 4,zE P "__file__" 173 (.str "/claim/cut.py" 172),zE P "__cached__" 174 .none,z_y P "TollError" 206 24,z_y P "NoFunction" 222 37,z_y P "NoValue" 238 49,z_y P "is_whole" 247 58,z_y P "function_of" 256 65,z_y P "fits" 264 70,z_y P "is_tree" 273 77,z_y P "size_of" 281 84,z_y P "nodes_of" 291 91,zE P "MOST_CALLS" 295 (.int 20 294),zE P "MOST_SIZE" 297 (.int 100 296),z_y P "trace" 309 99,z_y P "check_args" 315 104,z_y P "Run" 492 234,z_y P "_law_cell_at" 502 245,z_y P "_law_number" 509 252,z_y P "_law_names" 515 257,z_y P "_law_putting" 531 264,z_y P "_law_planting" 548 271,z_y P "_law_head" 554 276,z_y P "_law_take" 561 283,z_y P "_law_expression" 567 288,z_y P "_law_body" 573 293,z_y P "_law_program" 579 298,z_y P "_law_tree" 589 305,z_y P "_law_args" 595 310,z_y P "_law_whole" 602 317,z_y P "_law_plain" 612 324,z_y P "_law_beginning" 618 329,z_y P "law" 634 336] 39),#[]⟩)::
(nat_lit 15,z_t #[.type "ValueError"])::
(nat_lit 22,z_t #[])::
(nat_lit 23,⟨(.type "dict"),none,(.dict #[zE P "__module__" 196 (.str "toll.errors" 187),zE P "__firstlineno__" 200 (.int 2 199),z_y P "__static_attributes__" 201 22,z_y P "__weakref__" 203 25,zE P "__doc__" 204 .none] 3),#[]⟩)::
(nat_lit 24,⟨(.type "type"),none,(.cls ⟨"TollError",[(.type "ValueError")],[(.ref 24),(.type "ValueError"),(.type "Exception"),(.type "BaseException"),(.type "object")],23,"TollError",true,[],[(.ref 37),(.ref 49)],false,none,false⟩),#[(some (.ref 15)),none,(some (.str "TollError" 189)),(some (.str "TollError" 197)),(some (.builtin "ValueError.__new__")),(some (.bool true))]⟩)::
(nat_lit 25,⟨(.type "getset_descriptor"),none,(.fields #[(.str "__weakref__" 202),(.ref 24),(.builtin "ExceptionGroup.__weakref__"),.none]),#[]⟩)::
(nat_lit 28,z_t #[.ref 24])::
(nat_lit 35,z_t #[])::
(nat_lit 36,z_u P 187 214 4 35)::
(nat_lit 37,z_v "NoFunction" 24 37 36 28 207)::
(nat_lit 40,z_t #[.ref 24])::
(nat_lit 47,z_t #[])::
(nat_lit 48,z_u P 187 230 6 47)::
(nat_lit 49,z_v "NoValue" 24 49 48 40 223)::
(nat_lit 57,z_x "is_whole" 241 9 1 52 245)::
(nat_lit 58,zF "is_whole" (top 5) "toll.programs" 239 57)::
(nat_lit 64,z_x "function_of" 248 11 2 59 254)::
(nat_lit 65,zF "function_of" (top 6) "toll.programs" 239 64)::
(nat_lit 69,z_w "fits" 259 17 2 66 262)::
(nat_lit 70,z_b "fits" 8 69)::
(nat_lit 76,z_x "is_tree" 265 23 1 71 271)::
(nat_lit 77,z_b "is_tree" 9 76)::
(nat_lit 83,z_x "size_of" 274 33 2 78 279)::
(nat_lit 84,z_b "size_of" 10 83)::
(nat_lit 90,z_x "nodes_of" 282 39 1 85 289)::
(nat_lit 91,z_b "nodes_of" 11 90)::
(nat_lit 92,z_t #[.int 1000 298])::
(nat_lit 98,z_x "trace" 299 51 4 93 307)::
(nat_lit 99,zG "trace" "trace" (top 15) (.ref 92) .none (.str "toll.runs" 292) 98)::
(nat_lit 103,z_w "check_args" 310 57 2 100 313)::
(nat_lit 104,zF "check_args" (top 16) "toll.runs" 292 103)::
(nat_lit 115,⟨(.type "code"),none,(.fields #[(.str "__init__" 328),(.str "Run.__init__" 329),(.str "/claim/cut.py" 330),(.int 65 0),(.int 3 0),(.int 0 0),(.int 0 0),(.int 3 0),(.ref 112),(.bool true),(.int 181 0),(.ref 113),.none,.none,.none,(.ref 114),(.int 331 0),(.int 65 0),(.str "/claim/cut.py" 332)]),#[]⟩)::
(nat_lit 116,zG "__init__" "Run.__init__" (xf (top 17) 0) .none .none (.str "toll.runs" 292) 115)::
(nat_lit 122,zC "told" 334 "Run.told" 335 336 75 1 3 117 181 118 119 120 121 338 75 339)::
(nat_lit 123,zG "told" "Run.told" (xf (top 17) 1) .none .none (.str "toll.runs" 292) 122)::
(nat_lit 129,zC "go" 341 "Run.go" 342 343 80 1 3 124 181 125 126 127 128 346 80 347)::
(nat_lit 130,zG "go" "Run.go" (xf (top 17) 2) .none .none (.str "toll.runs" 292) 129)::
(nat_lit 136,zC "step" 349 "Run.step" 350 351 96 3 3 131 181 132 133 134 135 355 96 356)::
(nat_lit 137,zG "step" "Run.step" (xf (top 17) 3) .none .none (.str "toll.runs" 292) 136)::
(nat_lit 143,zC "own_step" 358 "Run.own_step" 359 360 103 2 3 138 181 139 140 141 142 363 103 364)::
(nat_lit 144,zG "own_step" "Run.own_step" (xf (top 17) 4) .none .none (.str "toll.runs" 292) 143)::
(nat_lit 150,zC "standing" 366 "Run.standing" 367 368 106 2 3 145 181 146 147 148 149 371 106 372)::
(nat_lit 151,zG "standing" "Run.standing" (xf (top 17) 5) .none .none (.str "toll.runs" 292) 150)::
(nat_lit 157,zC "stand" 374 "Run.stand" 375 376 109 3 3 152 181 153 154 155 156 381 109 382)::
(nat_lit 158,zG "stand" "Run.stand" (xf (top 17) 6) .none .none (.str "toll.runs" 292) 157)::
(nat_lit 164,zC "taken" 384 "Run.taken" 385 386 113 2 3 159 181 160 161 162 163 390 113 391)::
(nat_lit 165,zG "taken" "Run.taken" (xf (top 17) 7) .none .none (.str "toll.runs" 292) 164)::
(nat_lit 169,⟨(.type "code"),none,(.fields #[(.str "behind" 393),(.str "Run.behind" 394),(.str "/claim/cut.py" 395),(.int 118 0),(.int 3 0),(.int 0 0),(.int 0 0),(.int 3 0),(.ref 166),(.bool true),(.int 181 0),(.ref 167),.none,.none,.none,(.ref 168),(.int 396 0),(.int 118 0),(.str "/claim/cut.py" 397)]),#[]⟩)::
(nat_lit 170,zG "behind" "Run.behind" (xf (top 17) 8) .none .none (.str "toll.runs" 292) 169)::
(nat_lit 176,zC "begin_body" 399 "Run.begin_body" 400 401 122 2 3 171 181 172 173 174 175 405 122 406)::
(nat_lit 177,zG "begin_body" "Run.begin_body" (xf (top 17) 9) .none .none (.str "toll.runs" 292) 176)::
(nat_lit 183,zC "follow" 408 "Run.follow" 409 410 133 3 3 178 181 179 180 181 182 415 133 416)::
(nat_lit 184,zG "follow" "Run.follow" (xf (top 17) 10) .none .none (.str "toll.runs" 292) 183)::
(nat_lit 190,zC "bring" 418 "Run.bring" 419 420 141 2 3 185 181 186 187 188 189 423 141 424)::
(nat_lit 191,zG "bring" "Run.bring" (xf (top 17) 11) .none .none (.str "toll.runs" 292) 190)::
(nat_lit 197,zC "choose" 426 "Run.choose" 427 428 146 2 3 192 181 193 194 195 196 432 146 433)::
(nat_lit 198,zG "choose" "Run.choose" (xf (top 17) 12) .none .none (.str "toll.runs" 292) 197)::
(nat_lit 204,zC "begin_value" 435 "Run.begin_value" 436 437 151 2 3 199 181 200 201 202 203 441 151 442)::
(nat_lit 205,zG "begin_value" "Run.begin_value" (xf (top 17) 13) .none .none (.str "toll.runs" 292) 204)::
(nat_lit 211,zC "apply" 444 "Run.apply" 445 446 166 2 3 206 181 207 208 209 210 451 166 452)::
(nat_lit 212,zG "apply" "Run.apply" (xf (top 17) 14) .none .none (.str "toll.runs" 292) 211)::
(nat_lit 218,zC "make" 454 "Run.make" 455 456 179 3 3 213 181 214 215 216 217 460 179 461)::
(nat_lit 219,zG "make" "Run.make" (xf (top 17) 15) .none .none (.str "toll.runs" 292) 218)::
(nat_lit 223,⟨(.type "code"),none,(.fields #[(.str "enter" 463),(.str "Run.enter" 464),(.str "/claim/cut.py" 465),(.int 185 0),(.int 3 0),(.int 0 0),(.int 0 0),(.int 3 0),(.ref 220),(.bool true),(.int 181 0),(.ref 221),.none,.none,.none,(.ref 222),(.int 466 0),(.int 185 0),(.str "/claim/cut.py" 467)]),#[]⟩)::
(nat_lit 224,zG "enter" "Run.enter" (xf (top 17) 16) .none .none (.str "toll.runs" 292) 223)::
(nat_lit 230,zC "leave" 469 "Run.leave" 470 471 197 1 3 225 181 226 227 228 229 474 197 475)::
(nat_lit 231,zG "leave" "Run.leave" (xf (top 17) 17) .none .none (.str "toll.runs" 292) 230)::
(nat_lit 232,z_t #[.str "calls" 477,.str "frames" 478,.str "functions" 479,.str "is_cut" 480,.str "most" 481,.str "ready" 482,.str "steps" 483,.str "tasks" 484])::
(nat_lit 233,⟨(.type "dict"),none,(.dict #[zE P "__module__" 323 (.str "toll.runs" 292),zE P "__firstlineno__" 327 (.int 63 326),z_y P "__init__" 333 116,z_y P "told" 340 123,z_y P "go" 348 130,z_y P "step" 357 137,z_y P "own_step" 365 144,z_y P "standing" 373 151,z_y P "stand" 383 158,z_y P "taken" 392 165,z_y P "behind" 398 170,z_y P "begin_body" 407 177,z_y P "follow" 417 184,z_y P "bring" 425 191,z_y P "choose" 434 198,z_y P "begin_value" 443 205,z_y P "apply" 453 212,z_y P "make" 462 219,z_y P "enter" 468 224,z_y P "leave" 476 231,z_y P "__static_attributes__" 485 232,z_y P "__dict__" 487 235,z_y P "__weakref__" 489 236,zE P "__doc__" 490 .none] 4),#[]⟩)::
(nat_lit 234,⟨(.type "type"),none,(.cls ⟨"Run",[(.type "object")],[(.ref 234),(.type "object")],233,"Run",true,[],[],false,none,false⟩),#[none,none,(some (.str "Run" 316)),(some (.str "Run" 324)),(some (.builtin "object.__new__")),(some (.bool true))]⟩)::
(nat_lit 235,⟨(.type "getset_descriptor"),none,(.fields #[(.str "__dict__" 486),(.ref 234),(.builtin "function.__dict__"),(.builtin "function.__dict__#set")]),#[]⟩)::
(nat_lit 236,⟨(.type "getset_descriptor"),none,(.fields #[(.str "__weakref__" 488),(.ref 234),(.builtin "ExceptionGroup.__weakref__"),.none]),#[]⟩)::
(nat_lit 244,z_x "_law_cell_at" 495 201 2 239 500)::
(nat_lit 245,z_a "_law_cell_at" 19 244)::
(nat_lit 251,z_x "_law_number" 503 205 1 246 507)::
(nat_lit 252,z_a "_law_number" 20 251)::
(nat_lit 256,z_w "_law_names" 510 207 2 253 513)::
(nat_lit 257,z_a "_law_names" 21 256)::
(nat_lit 263,z_x "_law_putting" 516 218 2 258 529)::
(nat_lit 264,z_a "_law_putting" 22 263)::
(nat_lit 270,z_x "_law_planting" 532 225 2 265 546)::
(nat_lit 271,z_a "_law_planting" 23 270)::
(nat_lit 275,z_w "_law_head" 549 232 3 272 552)::
(nat_lit 276,z_a "_law_head" 24 275)::
(nat_lit 282,z_x "_law_take" 555 244 1 277 559)::
(nat_lit 283,z_a "_law_take" 25 282)::
(nat_lit 287,z_w "_law_expression" 562 249 4 284 565)::
(nat_lit 288,z_a "_law_expression" 26 287)::
(nat_lit 292,z_w "_law_body" 568 267 4 289 571)::
(nat_lit 293,z_a "_law_body" 27 292)::
(nat_lit 297,z_w "_law_program" 574 290 1 294 577)::
(nat_lit 298,z_a "_law_program" 28 297)::
(nat_lit 304,z_x "_law_tree" 580 300 1 299 587)::
(nat_lit 305,z_a "_law_tree" 29 304)::
(nat_lit 309,z_w "_law_args" 590 306 2 306 593)::
(nat_lit 310,z_a "_law_args" 30 309)::
(nat_lit 316,z_x "_law_whole" 596 317 1 311 600)::
(nat_lit 317,z_a "_law_whole" 31 316)::
(nat_lit 323,z_x "_law_plain" 603 319 1 318 610)::
(nat_lit 324,z_a "_law_plain" 32 323)::
(nat_lit 328,z_w "_law_beginning" 613 336 2 325 616)::
(nat_lit 329,z_a "_law_beginning" 33 328)::
(nat_lit 335,z_x "law" 619 354 1 330 632)::
(nat_lit 336,z_a "law" 34 335)::[]
noncomputable def zA:List Addr:=2::3::15::22::23::24::25::28::35::36::37::40::47::48::49::57::58::64::65::69::70::76::77::83::84::90::91::92::98::99::103::104::115::116::122::123::129::130::136::137::143::144::150::151::157::158::164::165::169::170::176::177::183::184::190::191::197::198::204::205::211::212::218::219::223::224::230::231::232::233::234::235::236::244::245::251::252::256::257::263::264::270::271::275::276::282::283::287::288::292::293::297::298::304::305::309::310::316::317::323::324::328::329::335::336::[]
def zAK(P:Params):zA=(zK P).map (·.1):=by kernel_rfl
noncomputable def zq:Program:={PySem.Challenge.pw_toll_k15_cut_is_a_beginning with main:={PySem.Challenge.pw_toll_k15_cut_is_a_beginning.main with body:=[1,2,3,5,6,8,9,10,11,13,14,16,17,19,20,21,22,23,24,25,26,27,28,29,30,31,32,33,34].filterMap λi=>PySem.Challenge.pw_toll_k15_cut_is_a_beginning.main.body[i]?}}
abbrev zX(s:Shared):Bool:=xlAt zq [] s&&recOk (RowW.records PySem.Challenge.rw_toll_k15_cut_is_a_beginning.row.toRowW) s
abbrev z_O(s:Shared):=Fast.tw4187177175401517315 zq ["trace"] (Fast.tw5923862056798008813 PySem.Challenge.pw_toll_k15_cut_is_a_beginning.main.body) zX true s
abbrev z_G:=openGood zq ["trace"]
abbrev z_V{β:Type}(p:Shared->β)(b:β)(w:World):Prop:=Option.map p (openEnds Fast.tw14364793385576792824 PySem.Challenge.pw_toll_k15_cut_is_a_beginning w 4456)=some b
abbrev zP(w:World):Prop:=z_V (λs=>(z_O s,zA.map s.heap.get?)) (z_G,(zK w.params).map λp=>some p.2) w
theorem o_m{α β γ:Type}{X:Option α}{f:α->β}{g:α->γ}{a:β}{b:γ}(h:X.map f=some a)(k:X.map g=some b):X.map (λs=>(f s,g s))=some (a,b):=by cases X <;> simp_all
theorem z_0(w:World):z_V (λs=>(z_O s).1) z_G.1 w:=by walk_at "k"
theorem z_1(w:World):z_V (λs=>(z_O s).2) z_G.2 w:=by walk_at "k"
theorem z_4(w:World):z_V (λs=>zA.map s.heap.get?) ((zK w.params).map λp=>some p.2) w:=by walk_at "k"
theorem hl0(w:World):zP w:=o_m (o_m (z_0 w) (z_1 w)) (z_4 w)
def hl1:LeftO PySem.Challenge.pw_toll_k15_cut_is_a_beginning zq ["trace"] zX (Hook.obs (kHook zK zA zAK)) (Hook.val (kHook zK zA zAK)) 4456:=by
 intro w;rw[Fast.te4187177175401517315,Fast.te5923862056798008813,Fast.te14364793385576792824];exact hl0 w
def said:PySem.Challenge.rw_toll_k15_cut_is_a_beginning.wellSaid=true:=by kernel_rfl
def zD:DefRec:=match top 34 with|.FunctionDef n a b _ _ _ c _ _ p=>⟨n,a,b,c,p⟩|_=>⟨"",⟨[],[],none,[],[],none,[]⟩,[],⟨.function,[],false,false,[]⟩,⟨0,0,0,0⟩⟩
def opened(B:WalkO zq ["trace"] (XL zq []) (Hook.says (kHook zK zA zAK)) PySem.Challenge.rw_toll_k15_cut_is_a_beginning.row.toRowW zD [] (λf vs=>PySem.call f vs)):PySem.Challenge.rw_toll_k15_cut_is_a_beginning.Holds:=by
 refine holds_law said λj=>holds_open (q:=zq) (loose:=["trace"]) (Xt:=zX) (XP:=XL zq []) (d:=zD) (kwd:=[]) (Yf:=Hook.obs (kHook zK zA zAK)) (Ya:=Hook.val (kHook zK zA zAK)) (YP:=Hook.says (kHook zK zA zAK)) (N:=4456) hl1 (Hook.of (kHook zK zA zAK)) (Hook.keeps (kHook zK zA zAK)) (λs e=>xl_of s (Bool.and_eq_true_iff.mp e).1) XL.keeps (by kernel_rfl) (by kernel_rfl) (by kernel_rfl) (λs e=>recFacts_of (Bool.and_eq_true_iff.mp e).2) (by kernel_rfl) j (by kernel_rfl) ⟨rfl,rfl,rfl,rfl,rfl,by decide +kernel⟩ ?hw B
 case hw=>w_witness2
end
abbrev Key:=Sum Int Str
def T6:Key->Value->Bool
 |.inl k,v=>Value.isInt k v
 |.inr x,v=>Value.isStrOf x v
def keyH(w:World):Key->Int
 |.inl k=>hashInt k
 |.inr x=>hashStr w x
def xc:∀{k:Key}{v:Value},T6 k v=true->(∃i t,k=Sum.inl i/\v=Value.int i t)\/(∃x t,k=Sum.inr x/\v=Value.str x t)
 |.inl i,v,h=>by
  obtain⟨t,e⟩:=Value.isInt_shape (k:=i) (v:=v) h;exact .inl ⟨i,t,rfl,e⟩
 |.inr x,v,h=>by
  obtain⟨t,e⟩:=Value.isStrOf_shape (x:=x) (v:=v) h;exact .inr ⟨x,t,rfl,e⟩
def Qg(i:Int)(t:Tok):T6 (.inl i) (.int i t)=true:=by simp[T6,Value.isInt]
def Qf(x:Str)(t:Tok):T6 (.inr x) (.str x t)=true:=by simp[T6,Value.isStrOf]
def Df(a b:Int):decide ((Sum.inl a:Key)=Sum.inl b)=(a==b):=by
 by_cases e:a=b
 ·subst e;simp
 have h:¬ (Sum.inl a:Key)=Sum.inl b:=λq=>e (Sum.inl.inj q);rw[decide_eq_false h];exact(beq_eq_false_iff_ne.mpr e).symm
def Dc(a b:Str):decide ((Sum.inr a:Key)=Sum.inr b)=decide (a=b):=by
 by_cases e:a=b
 ·subst e;simp
 have h:¬ (Sum.inr a:Key)=Sum.inr b:=λq=>e (Sum.inr.inj q);rw[decide_eq_false h,decide_eq_false e]
def De(a:Int)(b:Str):decide ((Sum.inl a:Key)=Sum.inr b)=false:=decide_eq_false (λq=>nomatch q)
def Dd(a:Str)(b:Int):decide ((Sum.inr a:Key)=Sum.inl b)=false:=decide_eq_false (λq=>nomatch q)
def yq(prog:Program)(w:World):PySem.KeyKind prog w Key where
 is:=T6
 hash:=keyH w
 inj:=λv a b I B=>by
  rcases xc I with⟨i,t,rfl,rfl⟩|⟨x,t,rfl,rfl⟩
  ·rcases xc B with⟨j,u,rfl,e⟩|⟨y,u,rfl,e⟩
   ·injection e with e1 _;rw[e1]
   exact nomatch e
  rcases xc B with⟨j,u,rfl,e⟩|⟨y,u,rfl,e⟩
  ·exact nomatch e
  injection e with e1 _;rw[e1]
 byValue:=λk v h=>by
  rcases xc h with⟨i,t,rfl,rfl⟩|⟨x,t,rfl,rfl⟩ <;> rfl
 pyHash:=λq h=>by
  rcases xc q with⟨i,t,rfl,rfl⟩|⟨x,t,rfl,rfl⟩
  ·exact wpAny_pyHash_int h
  exact wpAny_pyHash_str h
 eqBool:=λhu q h=>by
  rcases xc hu with⟨i,t,rfl,rfl⟩|⟨x,t,rfl,rfl⟩
  ·rcases xc q with⟨j,u,rfl,rfl⟩|⟨y,u,rfl,rfl⟩
   ·rw[Df]at h;exact wpAny_eqBool_int h
   rw[De]at h;exact SeqAt.EqAt.int_str i t y u _ _ _ _ h
  rcases xc q with⟨j,u,rfl,rfl⟩|⟨y,u,rfl,rfl⟩
  ·rw[Dd]at h;exact SeqAt.EqAt.str_int x t j u _ _ _ _ h
  rw[Dc]at h;exact wpAny_eqBool_str h
 «strs»:=λk x t v h=>by
  rcases xc h with⟨i,u,rfl,e⟩|⟨y,u,rfl,e⟩
  ·exact nomatch e
  injection e with e1 _
  subst e1;cases v <;> rfl
def W9(prog:Program)(w:World)(i:Int)(t:Tok):(yq prog w).is (.inl i) (.int i t)=true:=Qg i t
def gp(prog:Program)(w:World)(x:Str)(t:Tok):(yq prog w).is (.inr x) (.str x t)=true:=Qf x t
inductive V where
 |non|bl (b:Bool)|int (i:Int)|str (x:Str)|byt (b:Array UInt8)|flt (b:UInt64)|ref (a:Addr)|ty (n:String)
 deriving DecidableEq
def RelV:V->Value->Prop
 |.non,u=>u=Value.none
 |.bl b,u=>u=Value.bool b
 |.int i,u=>∃t,u=Value.int i t
 |.str x,u=>∃t,u=Value.str x t
 |.byt b,u=>∃t,u=Value.bytes b t
 |.flt b,u=>∃t,u=Value.float b t
 |.ref a,u=>u=Value.ref a
 |.ty n,u=>u=Value.type n
abbrev Vals:List V->List Value->Prop:=Paired RelV
theorem Vals.length(r:Vals xs us):xs.length=us.length:=Paired.length r
theorem Vals.get:∀{xs:List V}{us:List Value}{i:Nat}{x:V},Vals xs us->xs[i]?=some x->∃u,us[i]?=some u/\RelV x u
 |_,_,_,_,.nil,e=>by simp at e
 |_,_,0,_,.cons r _,e=>by simp at e;subst e;exact⟨_,rfl,r⟩
 |_,_,i+1,x,.cons _ t,e=>by
  obtain⟨u,h1,h2⟩:=Vals.get (i:=i) (x:=x) t (by simpa using e)
  exact⟨u,by simpa using h1,h2⟩
theorem Vals.set(r:RelV x u):∀{xs:List V}{us:List Value}(i:Nat),Vals xs us->Vals (xs.set i x) (us.set i u)
 |_,_,_,.nil=>.nil
 |_,_,0,.cons _ t=>.cons r t
 |_,_,i+1,.cons q t=>.cons q (Vals.set r i t)
theorem Vals.append:∀{xs ys:List V}{us ws:List Value},Vals xs us->Vals ys ws->Vals (xs++ys) (us++ws)
 |_,_,_,_,.nil,s=>s
 |_,_,_,_,.cons r t,s=>.cons r (Vals.append t s)
theorem Vals.take:∀{xs:List V}{us:List Value}(n:Nat),Vals xs us->Vals (xs.take n) (us.take n)
 |_,_,0,_=>.nil
 |_,_,_+1,.nil=>.nil
 |_,_,n+1,.cons r t=>.cons r (Vals.take n t)
theorem Vals.drop:∀{xs:List V}{us:List Value}(n:Nat),Vals xs us->Vals (xs.drop n) (us.drop n)
 |_,_,0,r=>r
 |_,_,_+1,.nil=>.nil
 |_,_,n+1,.cons _ t=>Vals.drop n t
def Vals.none_of:∀{xs:List V}{us:List Value}{i:Nat},Vals xs us->xs[i]?=none->us[i]?=none:=λ{xs us i} r e=>by
 have h1:=r.length;have h2:xs.length<=i:=List.getElem?_eq_none_iff.mp e;exact List.getElem?_eq_none_iff.mpr (by omega)
def RelO:Option V->Option Value->Prop
 |some v,some u=>RelV v u
 |none,none=>True
 |_,_=>False
def KV{κ:Type}:List (κ×V)->List (κ×Value)->Prop:=Paired λ(p:κ×V)(q:κ×Value)=>p.1=q.1/\RelV p.2 q.2
def kV:Key->V
 |.inl i=>.int i
 |.inr x=>.str x
inductive HO where
  |lst (xs:List V)
  |tup (xs:List V)
  |dK (kvs:List (Key×V))|dT (kvs:List (List Key×V))
  |set (S:Int->Bool) (n:Nat)
  |ins (C dx:Addr) (fs:List (Str×V))
  |own (x:Addr)
  |xd (fs:List (Str×V))
  |met (f x:Addr)
  |rng (lo hi:Int)
  |frz (o:Obj) (u:HO)
  |tbl (ps:Array Value)
  |ext (Y:Heap->Prop)
abbrev Hp:=Addr->Option HO
def upd(H:Hp)(a:Addr)(o:HO):Hp:=λb=>if b=a then some o else H b
def zm:upd H a o a=some o:=by unfold upd;rw[if_pos rfl]
def y0(h:b≠a):upd H a o b=H b:=by unfold upd;rw[if_neg h]
def Ts:upd (upd H a o) a u=upd H a u:=by
 funext b;unfold upd;split <;> rfl
def zo{H:Hp}{o:HO}(h:H a=some o)(h':H b=none):a≠b:=by
 intro e;subst e;rw[h]at h';cases h'
section
variable(P:Program)(w:World)
def wj(H:Hp)(h:Heap)(a:Addr):HO->Prop
 |.lst xs=>xs.length<=sizeLine/\∃(its:List Value)(n:Nat),Vals xs its/\h.get? a=some {cls:=.type "list",data:=.seq its.toArray n}
 |.tup xs=>xs.length<=sizeLine/\∃its:List Value,Vals xs its/\IsTup h a its.toArray/\∃o,h.get? a=some o/\o.dict=none
 |.dK kvs=>kvs.length<=sizeLine/\(a==sysModules)=false/\∃vs,KV kvs vs/\h.DictOf (yq P w) a vs
 |.dT kvs=>kvs.length<=sizeLine/\(a==sysModules)=false/\∃xs:List (List Key×Addr×Value),
   Paired (λ(p:List Key×V)(q:List Key×Addr×Value)=>p.1=q.1/\H q.2.1=some (.tup (p.1.map kV))/\RelV p.2 q.2.2) kvs xs /\
   ∃o es ep,h.get? a=some o/\o.ExactDict/\o.data=.dict es ep/\es.toList=xs.map (entryOfKey (tupleKind (yq P w)))/\(xs.map (·.1)).Nodup
 |.set S n=>h.SetOf (intKind P w) a S n
 |.ins C dx fs=>H dx=some (.own a)/\fs.length<=1000/\dx≠a/\h.get? a=some (W.instObj C dx) /\
   ∃mA,h.Ns1 dx mA/\(∀f,RelO (fs.lookup f) (mA f))/\PySem.Within mA (fs.map (·.1))
 |.own _=>∃o,h.get? a=some o
 |.xd fs=>∃mA,h.Ns1 a mA/\∀f,RelO (fs.lookup f) (mA f)
 |.rng lo hi=>∃t u v,h.get? a=some {cls:=.type "range",data:=.fields #[.int lo t,.int hi u,.int 1 v]}
 |.frz o u=>h.get? a=some o/\wj H h a u
 |.tbl ps=>h.get? a=some {cls:=.none,data:=.fields ps}
 |.met f x=>h.get? a=some (W.methodObj (.ref f) (.ref x))
 |.ext Y=>Y h/\(∃o,h.get? a=some o)/\∀h1 h2:Heap,Y h1->(∀o,h1.get? a=some o->h2.get? a=some o)->Y h2
def HOk(H:Hp)(h:Heap):Prop:=∀a o,H a=some o->wj P w H h a o
end
variable{P:Program}{w:World}{H H':Hp}{h h':Heap}{a:Addr}{o:HO}
theorem wj.lt(x:wj P w H h a o):a<h.objs.size:=by
 cases o with
 |lst xs=>obtain⟨_,_,_,_,e⟩:=x;exact zae e
 |tup xs=>obtain⟨_,_,_,p⟩:=x;exact p.1.lt
 |dK kvs=>obtain⟨_,_,_,_,o,_,_,e,_⟩:=x;exact zae e
 |dT kvs=>obtain⟨_,_,_,_,o,_,_,e,_⟩:=x;exact zae e
 |set S n=>obtain⟨o,_,_,_,e,_⟩:=x;exact zae e
 |ins C dx fs=>obtain⟨_,_,_,e,_⟩:=x;exact zae e
 |own y=>obtain⟨_,e⟩:=x;exact zae e
 |xd fs=>obtain⟨_,⟨_,_,_,e,_⟩,_⟩:=x;exact zae e
 |rng lo hi=>obtain⟨_,_,_,e⟩:=x;exact zae e
 |frz ob u=>obtain⟨e,_⟩:=x;exact zae e
 |tbl ps=>exact zae (show h.get? a=some _ from x)
 |met f y=>exact zae (show h.get? a=some _ from x)
 |ext Y=>obtain⟨_,⟨_,e⟩,_⟩:=x;exact zae e
theorem Paired.mapP{α j:Type}{F G:α->j->Prop}:∀{l₁:List α}{l₂:List j},Paired F l₁ l₂->(∀a b,F a b->G a b)->Paired G l₁ l₂
 |_,_,.nil,_=>.nil
 |_,_,.cons r t,f=>.cons (f _ _ r) (Paired.mapP t f)
def wj.stay(x:wj P w H h a o)(k:∀ b u,(b=a\/H b=some (.own a))->h.get? b=some u->h'.get? b=some u)(ho:∀ b,H b=some (.own a)->H' b=some (.own a))(M:∀ b xs,H b=some (.tup xs)->H' b=some (.tup xs)):wj P w H' h' a o:=by
 induction o with
 |lst xs=>obtain⟨z,its,n,r,e⟩:=x;exact⟨z,its,n,r,k _ _ (.inl rfl) e⟩
 |tup xs=>obtain⟨z,its,r,⟨j,e,c⟩,I,N,Z⟩:=x;exact⟨z,its,r,⟨j,k _ _ (.inl rfl) e,c⟩,I,k _ _ (.inl rfl) N,Z⟩
 |dK kvs=>obtain⟨z,y,vs,r,j,es,B,e,c⟩:=x;exact⟨z,y,vs,r,j,es,B,k _ _ (.inl rfl) e,c⟩
 |dT kvs =>
  obtain⟨z,y,xs,r,j,es,B,e,c⟩:=x;exact⟨z,y,xs,Paired.mapP r λp q z=>⟨z.1,M _ _ z.2.1,z.2.2⟩,j,es,B,k _ _ (.inl rfl) e,c⟩
 |set S n=>obtain⟨j,es,B,t,e,c⟩:=x;exact⟨j,es,B,t,k _ _ (.inl rfl) e,c⟩
 |ins C dx fs =>
  obtain⟨d,z,ne,e,mA,⟨I,es,B,e2,c⟩,r⟩:=x;exact⟨ho _ d,z,ne,k _ _ (.inl rfl) e,mA,⟨I,es,B,k _ _ (.inr d) e2,c⟩,r⟩
 |own y=>obtain⟨j,e⟩:=x;exact⟨j,k _ _ (.inl rfl) e⟩
 |xd fs=>obtain⟨mA,⟨I,es,B,e,c⟩,r⟩:=x;exact⟨mA,⟨I,es,B,k _ _ (.inl rfl) e,c⟩,r⟩
 |rng lo hi=>obtain⟨t,u,v,e⟩:=x;exact⟨t,u,v,k _ _ (.inl rfl) e⟩
 |frz j u ih=>obtain⟨e,q⟩:=x;exact⟨k _ _ (.inl rfl) e,ih q⟩
 |tbl ps =>
  have e:h.get? a=some {cls:=.none,data:=.fields ps}:=x;show h'.get? a=some {cls:=.none,data:=.fields ps};exact k a _ (.inl rfl) e
 |met f y =>
  have e:h.get? a=some (W.methodObj (.ref f) (.ref y)):=x;show h'.get? a=some (W.methodObj (.ref f) (.ref y));exact k a _ (.inl rfl) e
 |ext Y=>obtain⟨p,⟨o,e⟩,st⟩:=x;exact⟨st _ _ p λo q=>k _ _ (.inl rfl) q,⟨o,k _ _ (.inl rfl) e⟩,st⟩
theorem HOk.lt(x:HOk P w H h)(e:H a=some o):a<h.objs.size:=(x a o e).lt
def HOk.fresh(x:HOk P w H h)(e:h.objs.size<=a):H a=none:=by
 cases q:H a with
 |none=>rfl
 |some u=>exact absurd (Nat.lt_of_lt_of_le (x.lt q) e) (Nat.lt_irrefl _)
def HOk.kept(x:HOk P w H h)(k:∀ b u,h.get? b=some u->h'.get? b=some u):HOk P w H h':=λa o e =>
 (x a o e).stay (λb u _ q=>k b u q) (λ_ q=>q) λ_ _ q=>q
def HOk.laid(x:HOk P w H h)(k:∀ b u,h.get? b=some u->h'.get? b=some u)(B:h.objs.size<=a)(new:wj P w (upd H a o) h' a o):HOk P w (upd H a o) h':=λb u e=>by
 have j:=x.fresh B;by_cases hb:b=a
 ·subst hb;rw[zm]at e;cases e;exact new
 rw[y0 hb]at e;exact(x b u e).stay (λc v _ q=>k c v q) (λc q=>by rw[y0 (zo q j)];exact q) λc xs q=>by rw[y0 (zo q j)];exact q
def Rd(H:Hp)(a:Addr)(u:HO):Prop:=H a=some u\/∃o,H a=some (.frz o u)
def Rd.ok(r:Rd H a u)(x:HOk P w H h):wj P w H h a u:=by
 rcases r with r|⟨o,r⟩
 ·exact x a u r
 obtain⟨_,q⟩:=x a _ r;exact q
def Mut:Option HO->Prop
 |some (.lst _)=>True
 |some (.dK _)=>True
 |some (.dT _)=>True
 |some (.set _ _)=>True
 |some (.ins _ _ _)=>True
 |some (.ext _)=>True
 |_=>False
section
variable{x e:Addr}{o':HO}
def HOk.write(ok:HOk P w H h)(I:Mut (H x))(he:e=x\/H e=some (.own x))(k:∀ b u,b≠e->h.get? b=some u->h'.get? b=some u)(N:∃ u,h'.get? e=some u)(new:wj P w (upd H x o') h' x o'):HOk P w (upd H x o') h':=λb u q=>by
 have j:∀c y,H c=some (.own y)->c≠x:=λc y r z=>by subst z;rw[r]at I;exact I
 have B:∀c xs,H c=some (.tup xs)->c≠x:=λc xs r z=>by subst z;rw[r]at I;exact I
 by_cases hb:b=x
 ·subst hb;rw[zm]at q;cases q;exact new
 rw[y0 hb]at q;by_cases hbe:b=e
 ·have Z:H b=some (.own x):=by
   rcases he with z|z
   ·exact absurd (hbe.trans z) hb
   rw[hbe];exact z
  rw[q]at Z;cases Z;obtain⟨v,hv⟩:=N;exact⟨v,by rw[hbe];exact hv⟩
 refine(ok b u q).stay (λc v M r=>k c v ?_ r) (λc r=>by rw[y0 (j c b r)];exact r) λc xs r=>by rw[y0 (B c xs r)];exact r
 rcases M with rfl|M
 ·exact hbe
 rintro rfl;rcases he with z|z
 ·exact j c b M z
 rw[M]at z;cases z;exact hb rfl
end
structure Un(fs ex:List Addr)(H H':Hp)(h h':Heap):Prop where
 keep:∀b o,h.get? b=some o->H b=none->b∉fs->b∉ex->h'.get? b=some o
 slot:∀b o,h.get? b=some o->H b=none->b∈fs->b∉ex->∃sl,h'.get? b=some {o with slots:=sl}
 free:∀b o,h.get? b=some o->H b=none->b∉ex->H' b=none
 there:∀b o,h.get? b=some o->b∉ex->∃o',h'.get? b=some o'
 tups:∀b xs,H b=some (.tup xs)->H' b=some (.tup xs)
 frzs:∀b o u,H b=some (.frz o u)->H' b=some (.frz o u)
 tbls:∀b ps,H b=some (.tbl ps)->∃more,H' b=some (.tbl (ps++more))
section
variable{fs ex:List Addr}{H1 H2:Hp}{h1 h2:Heap}{x e:Addr}
def Un.any(u:Un fs ex H H1 h h1)(q:h.get? b=some ob)(n:H b=none)(j:b∉ex):∃sl,h1.get? b=some {ob with slots:=sl}:=by
 by_cases hb:b∈fs
 ·exact u.slot b ob q n hb j
 exact⟨ob.slots,u.keep b ob q n hb j⟩
def Un.trans(a:Un fs ex H H1 h h1)(b:Un fs ex H1 H2 h1 h2):Un fs ex H H2 h h2 where
 keep:=λc j q n I B=>b.keep c j (a.keep c j q n I B) (a.free c j q n B) I B
 slot:=λc j q n I B=>by
  obtain⟨sl,e1⟩:=a.slot c j q n I B;obtain⟨M,e2⟩:=b.slot c _ e1 (a.free c j q n B) I B;exact⟨M,e2⟩
 free:=λc j q n B=>by
  obtain⟨o',e1⟩:=a.there c j q B;exact b.free c o' e1 (a.free c j q n B) B
 there:=λc j q B=>by
  obtain⟨o',e1⟩:=a.there c j q B;exact b.there c o' e1 B
 tups:=λc xs q=>b.tups c xs (a.tups c xs q)
 frzs:=λc j xs q=>b.frzs c j xs (a.frzs c j xs q)
 tbls:=λc ps q=>by
  obtain⟨Z,e1⟩:=a.tbls c ps q;obtain⟨N,e2⟩:=b.tbls c _ e1;exact⟨Z++N,by rw[e2,Array.append_assoc]⟩
def Un.kept(k:∀ b u,h.get? b=some u->h'.get? b=some u):Un fs ex H H h h' :=
 ⟨λb j q _ _ _=>k b j q,λb j q _ _ _=>⟨j.slots,k b j q⟩,λ_ _ _ n _=>n,λb j q _=>⟨j,k b j q⟩,λ_ _ q=>q,λ_ _ _ q=>q,λ_ ps q=>⟨#[],by rw[q];simp⟩⟩
def Un.refl:Un fs ex H H h h:=Un.kept λ_ _ q=>q
def Un.laid(k:∀ b u,h.get? b=some u->h'.get? b=some u)(B:h.objs.size<=a)(j:H a=none):Un fs ex H (upd H a o) h h' where
 keep:=λb u q _ _ _=>k b u q
 slot:=λb u q _ _ _=>⟨u.slots,k b u q⟩
 free:=λb u q n _=>by rw[y0 (Nat.ne_of_lt (Nat.lt_of_lt_of_le (zae q) B))];exact n
 there:=λb u q _=>⟨u,k b u q⟩
 tups:=λb xs q=>by rw[y0 (zo q j)];exact q
 frzs:=λb u xs q=>by rw[y0 (zo q j)];exact q
 tbls:=λb ps q=>⟨#[],by rw[y0 (zo q j),q];simp⟩
def Un.write(j:Mut (H x))(he:e=x\/H e=some (.own x))(k:∀ b u,b≠e->h.get? b=some u->h'.get? b=some u)(I:∃ u,h'.get? e=some u):Un fs ex H (upd H x o) h h':=by
 have M:∀b,H b=none->b≠x:=λb n z=>by subst z;rw[n]at j;exact j
 have N:∀b,H b=none->b≠e:=λb n z=>by
  subst z;rcases he with r|r
  ·exact M b n r
  rw[n]at r;cases r
 have B:∀b u,H b=some u->¬ Mut (some u)->b≠x:=λb u q Z z=>by subst z;rw[q]at j;exact Z j
 refine⟨λb u q n _ _=>k b u (N b n) q,λb u q n _ _=>⟨u.slots,k b u (N b n) q⟩,λb u q n _=>by rw[y0 (M b n)];exact n,λb u q _=>?_,
  λb xs q=>by rw[y0 (B b _ q λz=>z)];exact q,λb u xs q=>by rw[y0 (B b _ q λz=>z)];exact q,λb ps q=>⟨#[],by rw[y0 (B b _ q λz=>z),q];simp⟩⟩
 by_cases hbe:b=e
 ·subst hbe;exact I
 exact⟨u,k b u hbe q⟩
end
def trk(h:Heap)(H:Hp):List Addr:=(List.range h.objs.size).filter λa=>(H a).isSome
def hidT(h:Heap)(H:Hp):Heap:=W.hideAll h (trk h H)
def Qm(h:Heap)(H:Hp):(hidT h H).objs.size=h.objs.size:=W.hideAll_size _ _
def Nt{o:Obj}(e:h.get? b=some o)(n:H b=none):(hidT h H).get? b=some o :=
 W.hideAll_get _ e λj=>by
  have q:(H b).isSome=true:=(List.mem_filter.mp j).2;rw[n]at q;simp at q
def Jl{o:Obj}(e:(hidT h H).get? b=some o):h.get? b=some o/\H b=none:=by
 have j:h.get? b=some o:=W.of_hideAll (trk h H) e;refine⟨j,?_⟩;cases q:H b with
 |none=>rfl
 |some x =>
  have B:b∈trk h H:=List.mem_filter.mpr ⟨List.mem_range.mpr (zae j),by simp[q]⟩
  have z:(hidT h H).get? b=none:=W.hideAll_none (trk h H) B;rw[z]at e;cases e
structure Mod(K:W.Frag)(mg:Str->Option Value)(base:Heap):Prop where
 kin:K.In base
 glob:base.Ns mainGlobals mg
 blt:∃mb,base.Ns builtinsNs mb/\∀x:Str,x≠"__name__"->mb x=bootBuiltins x
 nolimit:base.NoLimit
structure Cx where
 prog:Program
 w:World
 K:W.Frag
 mg:Str->Option Value
 base:Heap
 A:Around
 N:List Str
 s₀:Shared
 H_:Hp
 env:Env
 outer:List Env
 stack:List Env
 ex:List Addr
 fn:Str->Bool
 calm:Bool
 pn:List (Addr×Obj)
 xe:Value->Shared->Prop
def frs(l:List Env):List Addr:=l.filterMap (·.frame)
abbrev Cx.fs(X:Cx):List Addr:=frs X.outer
def Vis(j:Scope)(x:Str):Prop:=j.names.lookup x=some .local\/j.names.lookup x=some .cell\/j.names.lookup x=some .free
def Loc(j:Scope)(x:Str):Prop:=j.names.lookup x=some .local\/j.names.lookup x=some .cell
def Look(env:Env)(h:Heap)(m:Str->Option Value)(x:Str)(u:Value):Prop :=
 (env.kindOf x=some .local/\m x=some u)\/((env.kindOf x=some .cell\/env.kindOf x=some .free)/\∃c,env.cells.lookup x=some c/\h.IsCell c (some u))
structure Cx.Ok(X:Cx):Prop where
 mod:Mod X.K X.mg X.base
 kind:X.env.scope.kind=.function
 glob:X.env.globals=mainGlobals
 blt:X.env.builtins=builtinsNs
 above:X.s₀.heap.objs.size<=X.env.locals
 inj:∀x y c,X.env.cells.lookup x=some c->X.env.cells.lookup y=some c->x=y
 has:∀x,(X.env.kindOf x=some .cell\/X.env.kindOf x=some .free)->∃c,X.env.cells.lookup x=some c
 cab:∀x c,X.fn x=true->X.env.cells.lookup x=some c->X.s₀.heap.objs.size<=c
 hd:X.calm=true->X.A.handled=none
 frames:X.A.frames=some X.stack
 stk:X.stack=X.outer\/(X.stack=X.env::X.outer/\X.env.frame=some X.env.locals)
 exf:∀b∈X.ex,b≠X.env.locals/\∀x c,X.env.cells.lookup x=some c->c≠b
 bs:∀b o,X.base.get? b=some o->X.s₀.heap.get? b=some o/\X.H_ b=none
 bsz:X.base.objs.size<=X.s₀.heap.objs.size
 noex:∀b o,X.base.get? b=some o->b∉X.ex
 exfs:∀b∈X.ex,b∉X.fs
 funs:X.s₀.heap.FunFrames X.base X.outer
 frf:∀b∈X.fs,X.H_ b=none
structure Inv(X:Cx)(pn:List (Addr×Obj))(G:List (Option V))(H:Hp)(s:Shared):Prop where
 ok:X.Ok
 os:s.os=X.s₀.os
 bare:AllBare s.gens
 base:Un X.fs X.ex X.H_ H X.s₀.heap s.heap
 loc:∃m,s.heap.Ns X.env.locals m/\∀(i:Nat)(x:Str)(v:V),X.N[i]?=some x->G[i]?=some (some v)->Vis X.env.scope x->∃u,RelV v u/\Look X.env s.heap m x u
 cell:∀x c,X.env.cells.lookup x=some c->∃v,s.heap.IsCell c v
 free:H X.env.locals=none
 freeC:∀x c,X.env.cells.lookup x=some c->H c=none
 pin:∀p∈X.pn++pn,s.heap.get? p.1=some p.2/\H p.1=none/\p.1≠X.env.locals/\p.1∉X.fs/\∀v,p.2.data≠.cell v
 hok:HOk X.prog X.w H s.heap
 len:G.length=X.N.length
variable{X:Cx}{pn:List (Addr×Obj)}{G:List (Option V)}{s:Shared}
def Cx.Ok.nofr(ok:X.Ok){o:Obj}(e:X.base.get? b=some o):b∉X.fs:=λj=>by
 have:=(ok.funs.mem j).1;rw[e]at this;cases this
theorem Inv.bs(I:Inv X pn G H s):∀b o,X.base.get? b=some o->s.heap.get? b=some o/\H b=none:=λb o e =>
 ⟨I.base.keep b o (I.ok.bs b o e).1 (I.ok.bs b o e).2 (I.ok.nofr e) (I.ok.noex b o e),I.base.free b o (I.ok.bs b o e).1 (I.ok.bs b o e).2 (I.ok.noex b o e)⟩
def Inv.bk(I:Inv X pn G H s):∀b o,X.base.get? b=some o->s.heap.get? b=some o:=λb o e=>(I.bs b o e).1
theorem Inv.mod(I:Inv X pn G H s):Mod X.K X.mg X.base:=I.ok.mod
def Inv.kIn(I:Inv X pn G H s):X.K.In s.heap:=I.ok.mod.kin.keeps I.bk
def Inv.fr(I:Inv X pn G H s):∃m,Fr X.base X.env.locals s.heap m :=
 let ⟨m,hn,_⟩:=I.loc
 ⟨m,hn,I.bk,zak I.ok.bsz I.ok.above⟩
theorem Inv.lt(I:Inv X pn G H s):X.env.locals<s.heap.objs.size:=let ⟨_,hn,_⟩:=I.loc;hn.lt
def Inv.sz(I:Inv X pn G H s):X.s₀.heap.objs.size<=s.heap.objs.size:=zak I.ok.above (Nat.le_of_lt I.lt)
def Inv.nofs(I:Inv X pn G H s)(h:s.heap.objs.size<=a):a∉X.fs:=λj=>by
 obtain⟨_,o,ho,_⟩:=I.ok.funs.mem j;exact absurd (Nat.lt_of_lt_of_le (zae ho) (zak I.sz h)) (Nat.lt_irrefl _)
def Inv.cne(I:Inv X pn G H s):∀x c,X.env.cells.lookup x=some c->c≠X.env.locals:=λx c e z=>by
 obtain⟨v,o,ho,B⟩:=I.cell x c e;obtain⟨m,⟨o',es,M,j,q,_⟩,_⟩:=I.loc;rw[z,j]at ho;cases ho;rw[q]at B;cases B
theorem Inv.funs(I:Inv X pn G H s):s.heap.FunFrames X.base X.outer:=by
 have all:∀(l:List Env),(∀b∈frs l,b∈X.fs)->X.s₀.heap.FunFrames X.base l->s.heap.FunFrames X.base l:=by
  intro l
  induction l with
  |nil=>intro _ _;trivial
  |cons env r ih =>
   intro M hl;obtain⟨Z,⟨L,o,j,N,ho,hd⟩,hr⟩:=hl;have B:L∈X.fs:=M L (by unfold frs;rw[List.filterMap_cons,j];exact zao)
   obtain⟨sl,e⟩:=I.base.slot L o ho (I.ok.frf L B) B λz=>I.ok.exfs L z B;exact⟨Z,⟨L,_,j,N,e,hd⟩,ih (λb q=>M b (by unfold frs;rw[List.filterMap_cons,j];exact zal _ q)) hr⟩
 exact all X.outer (λ_ q=>q) I.ok.funs
theorem Inv.stack(I:Inv X pn G H s):s.heap.FunFrames X.base X.stack:=by
 rcases I.ok.stk with e|⟨e,hf⟩
 ·rw[e];exact I.funs
 rw[e];obtain⟨m,j,_⟩:=I.loc;refine .cons (by rw[I.ok.kind];decide) hf j ?_ I.funs
 exact Heap.get?_none_of_le (zak I.ok.bsz I.ok.above)
def Inv.stkSub(I:Inv X pn G H s):∀b∈frs X.stack,b∈X.env.locals::X.fs:=λb j=>by
 rcases I.ok.stk with e|⟨e,hf⟩
 ·rw[e]at j;exact zal _ j
 rw[e]at j;unfold frs at j;rw[List.filterMap_cons,hf]at j;exact j
def Inv.stkFree(I:Inv X pn G H s):∀b∈frs X.stack,H b=none:=λb j=>by
 rcases zam.mp (I.stkSub b j) with e|j
 ·rw[e];exact I.free
 obtain⟨_,o,ho,_⟩:=I.ok.funs.mem j;exact I.base.free b o ho (I.ok.frf b j) λz=>I.ok.exfs b z j
def Inv.step{t':Nat}{d':Drawn}{ch:List Addr}(I:Inv X pn G H s)(M:∀ b∈ch,(b∈X.ex\/X.s₀.heap.objs.size<=b)/\b≠X.env.locals/\(∀ x c,X.env.cells.lookup x=some c->c≠b)/\∀ p∈X.pn++pn,p.1≠b)(keep:∀ b o,b≠X.env.locals->b∉X.fs->b∉ch->s.heap.get? b=some o->H b=none->h'.get? b=some o)(slot:∀ b o,b≠X.env.locals->b∈X.fs->b∉ch->s.heap.get? b=some o->H b=none->∃ sl,h'.get? b=some {o with slots:=sl})(free:∀ b o,b∉ch->s.heap.get? b=some o->H b=none->H' b=none)(there:∀ b o,b∉ch->s.heap.get? b=some o->∃ o',h'.get? b=some o')(tups:∀ b xs,H b=some (.tup xs)->H' b=some (.tup xs))(frzs:∀ b o u,H b=some (.frz o u)->H' b=some (.frz o u))(tbls:∀ b ps,H b=some (.tbl ps)->∃ more,H' b=some (.tbl (ps++more)))(ns:∀ m,s.heap.Ns X.env.locals m->h'.Ns X.env.locals m)(a5:HOk X.prog X.w H' h')(hg:AllBare g') :
  Inv X pn G H' {s with heap:=h',gens:=g',drawn:=d',toks:=t'}:=by
 have a0:∀b o,X.s₀.heap.get? b=some o->b≠X.env.locals:=λb o e=>Nat.ne_of_lt (Nat.lt_of_lt_of_le (zae e) I.ok.above);have Z:∀b o,X.s₀.heap.get? b=some o->b∉X.ex->b∉ch:=λb o e j hb=>by
  rcases(M b hb).1 with z|z
  ·exact j z
  exact absurd (Nat.lt_of_lt_of_le (zae e) z) (Nat.lt_irrefl _)
 have N:∀x c,X.env.cells.lookup x=some c->∀v,s.heap.IsCell c v->h'.IsCell c v:=λx c e v Zh=>by
  obtain⟨o,ho,hd⟩:=Zh;have B:c∉ch:=λz=>(M c z).2.2.1 x c e rfl;by_cases hc:c∈X.fs
  ·obtain⟨sl,q⟩:=slot c o (I.cne x c e) hc B ho (I.freeC x c e);exact⟨_,q,hd⟩
  exact⟨o,keep c o (I.cne x c e) hc B ho (I.freeC x c e),hd⟩
 refine⟨I.ok,I.os,hg,⟨λb o e n hb j=>?_,λb o e n hb j=>?_,λb o e n j=>?_,λb o e j=>?_,λb xs e=>tups b xs (I.base.tups b xs e),λb o xs e=>frzs b o xs (I.base.frzs b o xs e),λb ps e=>?_⟩,?_,λx c e=>?_,?_,λx c e=>?_,λp hp=>?_,a5,I.len⟩
 ·exact keep b o (a0 b o e) hb (Z b o e j) (I.base.keep b o e n hb j) (I.base.free b o e n j)
 ·obtain⟨sl,e1⟩:=I.base.slot b o e n hb j;obtain⟨a4,e2⟩:=slot b _ (a0 b o e) hb (Z b o e j) e1 (I.base.free b o e n j);exact⟨a4,e2⟩
 ·obtain⟨o',e1⟩:=I.base.there b o e j;exact free b o' (Z b o e j) e1 (I.base.free b o e n j)
 ·obtain⟨o',e1⟩:=I.base.there b o e j;exact there b o' (Z b o e j) e1
 ·obtain⟨m1,e1⟩:=I.base.tbls b ps e;obtain⟨m2,e2⟩:=tbls b _ e1;exact⟨m1++m2,by rw[e2,Array.append_assoc]⟩
 ·obtain⟨m,hn,hl⟩:=I.loc;refine⟨m,ns m hn,λi x v e1 e2 e3=>?_⟩;obtain⟨u,r,l⟩:=hl i x v e1 e2 e3;refine⟨u,r,?_⟩;rcases l with l|⟨k,c,e,z⟩
  ·exact .inl l
  exact .inr ⟨k,c,e,N x c e _ z⟩
 ·obtain⟨v,z⟩:=I.cell x c e;exact⟨v,N x c e v z⟩
 ·obtain⟨m,⟨o,_,_,ho,_⟩,_⟩:=I.loc;exact free _ o (λz=>(M _ z).2.1 rfl) ho I.free
 ·obtain⟨v,o,ho,hd⟩:=I.cell x c e;exact free c o (λz=>(M c z).2.2.1 x c e rfl) ho (I.freeC x c e)
 obtain⟨e,n,ne,nf,d⟩:=I.pin p hp;have B:p.1∉ch:=λz=>(M p.1 z).2.2.2 p hp rfl;exact⟨keep p.1 p.2 ne nf B e n,free p.1 p.2 B e n,ne,nf,d⟩
def Inv.un{t':Nat}(I:Inv X pn G H s)(u:Un X.fs [] H H' s.heap h')(q:HOk X.prog X.w H' h'):Inv X pn G H' {s with heap:=h',toks:=t'}:=by
 obtain⟨m,⟨o,es,ep,ho,r⟩,_⟩:=id I.loc;obtain⟨sl,hL⟩:=u.any ho I.free (by simp)
 exact I.step (g':=s.gens) (d':=s.drawn) (ch:=[]) (λ_ z=>nomatch z) (λb o _ B _ e n=>u.keep b o e n B (by simp)) (λb o _ B _ e n=>u.slot b o e n B (by simp)) (λb o _ e n=>u.free b o e n (by simp)) (λb o _ e=>u.there b o e (by simp)) u.tups u.frzs u.tbls (λm' hm=>by
  obtain⟨o',M,N,j,Z⟩:=hm;rw[ho]at j;cases j;exact⟨_,M,N,hL,Z⟩) q I.bare
def Inv.call{t':Nat}{d':Drawn}(I:Inv X pn G H s)(u:Un (frs X.stack) ch H H' s.heap h')(M:HOk X.prog X.w H' h')(hg:AllBare g')(B:∀ b∈ch,(b∈X.ex\/X.s₀.heap.objs.size<=b)/\b≠X.env.locals/\(∀ x c,X.env.cells.lookup x=some c->c≠b)/\∀ p∈X.pn++pn,p.1≠b) :
  Inv X pn G H' {s with heap:=h',gens:=g',drawn:=d',toks:=t'}:=by
 obtain⟨m,⟨o,es,ep,ho,r⟩,_⟩:=id I.loc;obtain⟨sl,N⟩:=u.any ho I.free λz=>(B _ z).2.1 rfl;exact I.step (ch:=ch) B (λb o N hb j e n=>u.keep b o e n (λz=>(zam.mp (I.stkSub b z)).elim N hb) j) (λb o _ _ j e n=>u.any e n j) (λb o j e n=>u.free b o e n j) (λb o j e=>u.there b o e j) u.tups u.frzs u.tbls (λm' hm=>by
  obtain⟨o',Z,a0,q,r'⟩:=hm;rw[ho]at q;cases q;exact⟨_,Z,a0,N,r'⟩) M hg
def Inv.turned{t':Nat}{it:Addr}(I:Inv X pn G H s)(k:∀ b o,b≠it->s.heap.get? b=some o->h'.get? b=some o)(N:H it=none)(M:it≠X.env.locals)(h1:it∈X.ex\/X.s₀.heap.objs.size<=it)(h2:∀ x c,X.env.cells.lookup x=some c->c≠it)(h3:∀ p∈X.pn++pn,p.1≠it):Inv X pn G H {s with heap:=h',toks:=t'}:=by
 have B:∀b u,H b=some u->b≠it:=λb u e z=>by rw[z,N]at e;cases e
 refine I.step (g':=s.gens) (d':=s.drawn) (ch:=[it]) (λb hb=>?_) (λb o _ _ j e _=>k b o (λz=>j (by simp[z])) e) (λb o _ _ j e _=>⟨o.slots,k b o (λz=>j (by simp[z])) e⟩) (λ_ _ _ _ n=>n)
  (λb o j e=>⟨o,k b o (λz=>j (by simp[z])) e⟩) (λ_ _ e=>e) (λ_ _ _ e=>e) (λb ps e=>⟨#[],by rw[e];simp⟩) (λm Z=>?_) (λb u e=>?_) I.bare
 ·have e:b=it:=by simpa using hb
  subst e;exact⟨h1,M,h2,h3⟩
 ·obtain⟨o,es,ep,ho,r⟩:=Z;exact⟨o,es,ep,k _ o (Ne.symm M) ho,r⟩
 refine(I.hok b u e).stay (λc v j q=>k c v ?_ q) (λ_ q=>q) λ_ _ q=>q;rcases j with z|z
 ·rw[z];exact B b u e
 exact B c _ z
def Inv.tok(I:Inv X pn G H s)(t:Nat):Inv X pn G H {s with toks:=t}:=I.un (h':=s.heap) (t':=t) Un.refl I.hok
theorem Inv.kept(I:Inv X pn G H s)(k:∀ b u,s.heap.get? b=some u->h'.get? b=some u):Inv X pn G H {s with heap:=h',toks:=t'}:=I.un (Un.kept k) (I.hok.kept k)
theorem Inv.laid(I:Inv X pn G H s)(k:∀ b u,s.heap.get? b=some u->h'.get? b=some u)(j:s.heap.objs.size<=a)(new:wj X.prog X.w (upd H a o) h' a o) :
  Inv X pn G (upd H a o) {s with heap:=h',toks:=t'}:=I.un (Un.laid k j (I.hok.fresh j)) (I.hok.laid k j new)
theorem Inv.write(I:Inv X pn G H s)(q:Mut (H x))(B:e=x\/H e=some (.own x))(k:∀ b u,b≠e->s.heap.get? b=some u->h'.get? b=some u)(j:∃ u,h'.get? e=some u)(new:wj X.prog X.w (upd H x o) h' x o):Inv X pn G (upd H x o) {s with heap:=h',toks:=t'}:=I.un (Un.write q B k j) (I.hok.write q B k j new)
def Inv.weak(I:Inv X pn G H s)(hl:σ'.length=G.length)(w:∀ (i:Nat) v,σ'[i]?=some (some v)->G[i]?=some (some v)):Inv X pn σ' H s :=
 ⟨I.ok,I.os,I.bare,I.base,let ⟨m,hn,hl'⟩:=I.loc;⟨m,hn,λi x v e1 e2 j=>hl' i x v e1 (w i v e2) j⟩,I.cell,I.free,I.freeC,I.pin,I.hok,hl.trans I.len⟩
def Inv.pins_of(I:Inv X pn G H s)(h:∀ p∈pins',s.heap.get? p.1=some p.2/\H p.1=none/\p.1≠X.env.locals/\p.1∉X.fs/\∀ v,p.2.data≠.cell v):Inv X pins' G H s :=
 ⟨I.ok,I.os,I.bare,I.base,I.loc,I.cell,I.free,I.freeC,λp j=>(zas.mp j).elim (λz=>I.pin p (List.mem_append_left _ z)) (h p),I.hok,I.len⟩
def Vv{N:List Str}(q:N.Nodup){i j:Nat}{x:Str}(a:N[i]?=some x)(b:N[j]?=some x):i=j:=by
 obtain⟨h1,e1⟩:=zag.mp a;obtain⟨h2,e2⟩:=zag.mp b;exact(List.getElem_inj q).mp (e1.trans e2.symm)
def Yj(I:Inv X pn G H s)(hN:X.N.Nodup)(hi:X.N[i]?=some x)(hx:Loc X.env.scope x)(r:RelV v u)(h:∀ s',Inv X pn (G.set i (some v)) H s'->(∃ a,Heap.SameBut a s.heap s'.heap/\(a=X.env.locals\/X.env.cells.lookup x=some a))->Q () s')(hf:X.fn x=true\/X.env.scope.names.lookup x=some .local:=by first|exact .inl rfl|exact .inr rfl|assumption):wpAny M A (storeName X.env x u) Q E s:=by
 obtain⟨m,hn,hl⟩:=id I.loc;have a8:(X.env.scope.kind==.class || (X.env.scope.kind==.module&&X.env.locals != X.env.globals))=false:=by rw[I.ok.kind];rfl
 have a4:i<G.length:=by rw[I.len];exact(zag.mp hi).1
 have cne:=I.cne;have Z:∀{a:Addr}{h':Heap},(∃o,s.heap.get? a=some o/\H a=none)->Heap.SameBut a s.heap h'->HOk X.prog X.w H h':=λ{a h'} ha B b ob e=>by
  obtain⟨_,_,a0⟩:=ha;refine(I.hok b ob e).stay (λc w' hc q=>(B.2 c ?_).trans q) (λ_ q=>q) λ_ _ q=>q;rintro rfl;rcases hc with rfl|hc
  ·rw[a0]at e;cases e
  rw[a0]at hc;cases hc
 rcases hx with hk|hk
 ·refine wpAny_storeName_local hk hn (λh' b4 B=>?_) a8;obtain⟨oL,_,_,b0,_⟩:=id hn;refine h _ ⟨I.ok,I.os,I.bare,⟨λb o e n hb hx=>?_,λb o e n hb hx=>?_,I.base.free,λb o e hx=>?_,I.base.tups,I.base.frzs,I.base.tbls⟩,⟨_,b4,λj y v' e1 e2 e3=>?_⟩,λy c e=>?_,I.free,I.freeC,λp hp=>?_,Z ⟨oL,b0,I.free⟩ B,by simpa using I.len⟩ ⟨_,B,.inl rfl⟩
  ·exact(B.2 b (Nat.ne_of_lt (Nat.lt_of_lt_of_le (zae e) I.ok.above))).trans (I.base.keep b o e n hb hx)
  ·obtain⟨sl,e1⟩:=I.base.slot b o e n hb hx;exact⟨sl,(B.2 b (Nat.ne_of_lt (Nat.lt_of_lt_of_le (zae e) I.ok.above))).trans e1⟩
  ·obtain⟨o',e1⟩:=I.base.there b o e hx;exact⟨o',(B.2 b (Nat.ne_of_lt (Nat.lt_of_lt_of_le (zae e) I.ok.above))).trans e1⟩
  ·by_cases hj:j=i
   ·subst hj;rw[hi]at e1;cases e1;rw[List.getElem?_set_self a4]at e2;cases e2;exact⟨u,r,.inl ⟨hk,by simp⟩⟩
   rw[List.getElem?_set_ne (Ne.symm hj)]at e2;obtain⟨u',r',q⟩:=hl j y v' e1 e2 e3;refine⟨u',r',?_⟩;rcases q with⟨k,e⟩|⟨k,c,e,z⟩
   ·refine .inl ⟨k,?_⟩;have:y≠x:=λe=>hj (Vv hN e1 (e▸hi));simp[this,e]
   exact .inr ⟨k,c,e,z.sameBut B (cne y c e)⟩
  ·obtain⟨w',z⟩:=I.cell y c e;exact⟨w',z.sameBut B (cne y c e)⟩
  obtain⟨e,n,ne,nf,d⟩:=I.pin p hp;exact⟨(B.2 p.1 ne).trans e,n,ne,nf,d⟩
 have a5:X.fn x=true:=by
  rcases hf with z|z
  ·exact z
  rw[z]at hk;cases hk
 obtain⟨c,hc⟩:=I.ok.has x (.inl hk);obtain⟨w',z⟩:=I.cell x c hc;refine wpAny_storeName_cell I.ok.kind hk hc z (λh' a9 B=>?_);obtain⟨oc,a7,a6⟩:=id z;refine h {s with heap:=h'} ⟨I.ok,I.os,I.bare,⟨λb o e n hb hx=>?_,λb o e n hb hx=>?_,I.base.free,λb o e hx=>?_,I.base.tups,I.base.frzs,I.base.tbls⟩,⟨m,hn.sameBut B (Ne.symm (cne x c hc)),λj y v' e1 e2 e3=>?_⟩,λy c' e=>?_,I.free,I.freeC,λp hp=>?_,Z ⟨oc,a7,I.freeC x c hc⟩ B,by simpa using I.len⟩ ⟨c,B,.inr hc⟩
 ·exact(B.2 b (Nat.ne_of_lt (Nat.lt_of_lt_of_le (zae e) (I.ok.cab x c a5 hc)))).trans (I.base.keep b o e n hb hx)
 ·obtain⟨sl,e1⟩:=I.base.slot b o e n hb hx;exact⟨sl,(B.2 b (Nat.ne_of_lt (Nat.lt_of_lt_of_le (zae e) (I.ok.cab x c a5 hc)))).trans e1⟩
 ·obtain⟨o',e1⟩:=I.base.there b o e hx;exact⟨o',(B.2 b (Nat.ne_of_lt (Nat.lt_of_lt_of_le (zae e) (I.ok.cab x c a5 hc)))).trans e1⟩
 ·by_cases hj:j=i
  ·subst hj;rw[hi]at e1;cases e1;rw[List.getElem?_set_self a4]at e2;cases e2;exact⟨u,r,.inr ⟨.inl hk,c,hc,a9⟩⟩
  rw[List.getElem?_set_ne (Ne.symm hj)]at e2;obtain⟨u',r',q⟩:=hl j y v' e1 e2 e3;refine⟨u',r',?_⟩;rcases q with q|⟨k,c',e,z'⟩
  ·exact .inl q
  refine .inr ⟨k,c',e,z'.sameBut B ?_⟩;rintro rfl;exact hj (Vv hN e1 (I.ok.inj _ _ _ e hc▸hi))
 ·by_cases hcc:c'=c
  ·subst hcc;exact⟨_,a9⟩
  obtain⟨w2,z2⟩:=I.cell y c' e;exact⟨w2,z2.sameBut B hcc⟩
 obtain⟨e,n,ne,nf,d⟩:=I.pin p hp;refine⟨(B.2 p.1 ?_).trans e,n,ne,nf,d⟩;intro q;rw[q,a7]at e;have q':oc=p.2:=Option.some.inj e;exact d w' (by rw[<- q'];exact a6)
def Za(I:Inv X pn G H s)(B:X.N.Nodup)(hi:X.N[i]?=some x)(j:Loc X.env.scope x)(r:RelV v u)(h:∀ s',Inv X pn (G.set i (some v)) H s'->Q () s')(q:X.fn x=true\/X.env.scope.names.lookup x=some .local:=by first|exact .inl rfl|exact .inr rfl|assumption):wpAny M A (storeName X.env x u) Q E s :=
 Yj I B hi j r (λs' Z _=>h s' Z) q
def Inv.call'(I:Inv X pn G H s)(ho:s'.os=s.os)(u:Un (frs X.stack) ch H H' s.heap s'.heap)(j:HOk X.prog X.w H' s'.heap)(B:AllBare s'.gens)(q:∀ b∈ch,(b∈X.ex\/X.s₀.heap.objs.size<=b)/\b≠X.env.locals/\(∀ x c,X.env.cells.lookup x=some c->c≠b)/\∀ p∈X.pn++pn,p.1≠b):Inv X pn G H' s':=by
 obtain⟨h',g',d',t',o'⟩:=s';have e:o'=s.os:=ho;subst e;exact I.call (g':=g') (t':=t') (d':=d') u j B q
abbrev XK:=Value->Option Addr->Hp->Prop
abbrev St:=List (Option V)
abbrev VK:=V->Hp->Prop
abbrev TE:=St->Hp->VK->Prop
abbrev TT:=St->Hp->(Bool->Hp->Prop)->Prop
abbrev TA:=St->Hp->(List V->Hp->Prop)->Prop
structure Ends where
 nx:St->Hp->Prop
 rt:VK
 bk:St->Hp->Prop:=λ_ _=>False
 ct:St->Hp->Prop:=λ_ _=>False
abbrev TS:=Ends->St->Hp->Prop
def EP(X:Cx)(pn:List (Addr×Obj))(G:St)(Q:VK)(u:Value)(s':Shared):Prop:=∃v H',Inv X pn G H' s'/\RelV v u/\Q v H'
def TP(X:Cx)(pn:List (Addr×Obj))(G:St)(Q:Bool->Hp->Prop)(b:Bool)(s':Shared):Prop:=∃H',Inv X pn G H' s'/\Q b H'
def AP(X:Cx)(pn:List (Addr×Obj))(G:St)(Q:List V->Hp->Prop)(us:List Value)(s':Shared):Prop:=∃vs H',Inv X pn G H' s'/\Vals vs us/\Q vs H'
def SP(X:Cx)(pn:List (Addr×Obj))(D:Ends)(f:Flow)(s':Shared):Prop :=
 match f with
 |.next=>∃σ' H',Inv X pn σ' H' s'/\D.nx σ' H'
 |.brk=>∃σ' H',Inv X pn σ' H' s'/\D.bk σ' H'
 |.cont=>∃σ' H',Inv X pn σ' H' s'/\D.ct σ' H'
 |.ret u=>∃v σ' H',Inv X pn σ' H' s'/\RelV v u/\D.rt v H'
def PE(X:Cx)(e:Expr)(t:TE):Prop :=
 ∀(pn:List (Addr×Obj))(s:Shared)(G:St)(H:Hp)(Q:VK),Inv X pn G H s->t G H Q->wpAny (model X.prog X.w) X.A (eval e X.env) (EP X pn G Q) X.xe s
def PT(X:Cx)(e:Expr)(t:TT):Prop :=
 ∀(pn:List (Addr×Obj))(s:Shared)(G:St)(H:Hp)(Q:Bool->Hp->Prop),Inv X pn G H s->t G H Q->wpAny (model X.prog X.w) X.A (isTrue e X.env (eval e X.env)) (TP X pn G Q) X.xe s
def PW(X:Cx)(e:Expr)(t:TT):Prop :=
 ∀(whole:Sem Value)(pn:List (Addr×Obj))(s:Shared)(G:St)(H:Hp)(Q:Bool->Hp->Prop),Inv X pn G H s->t G H Q->wpAny (model X.prog X.w) X.A (isTrue e X.env whole) (TP X pn G Q) X.xe s
def PW.pt(h:PW X e t):PT X e t:=h _
def PA(X:Cx)(es:List Expr)(t:TA):Prop :=
 ∀(pos:Pos)(pn:List (Addr×Obj))(s:Shared)(G:St)(H:Hp)(Q:List V->Hp->Prop),Inv X pn G H s->t G H Q->wpAny (model X.prog X.w) X.A (spliced (backTo pos (starEach es X.env))) (AP X pn G Q) X.xe s
def PS(X:Cx)(st:Stmt)(t:TS):Prop :=
 ∀(pn:List (Addr×Obj))(s:Shared)(G:St)(H:Hp)(D:Ends),Inv X pn G H s->t D G H->wpAny (model X.prog X.w) X.A (exec st X.env) (SP X pn D) X.xe s
def PSs(X:Cx)(st:List Stmt)(t:TS):Prop :=
 ∀(pn:List (Addr×Obj))(s:Shared)(G:St)(H:Hp)(D:Ends),Inv X pn G H s->t D G H->wpAny (model X.prog X.w) X.A (execs st X.env) (SP X pn D) X.xe s
def thn{α:Type}{t:Sem α}{Q j:α->Shared->Prop}{E:Value->Shared->Prop}(h:wpAny M A t Q E s)(q:∀ a s,Q a s->j a s):wpAny M A t j E s:=wpAny_mono h q λ_ _ x=>x
def tVar(i:Nat):TE:=λG H Q=>∃v,G[i]?=some (some v)/\Q v H
def tC(v:V):TE:=λ_ H Q=>Q v H
abbrev D_(x:Str):Prop:=(x==("__debug__" : Str))=false
def uu(hN:X.N[i]?=some x)(hv:Vis X.env.scope x)(B:D_ x:=by decide)(M:(x==("__classdict__" : Str))=false:=by decide):PE X (.Name x pos) (tVar i):=by
 intro pn s G H Q I h;obtain⟨v,e,h⟩:=h;obtain⟨m,hn,hl⟩:=I.loc;obtain⟨u,r,l⟩:=hl i x v hN e hv;have fin:EP X pn G Q u s:=⟨v,H,I,r,h⟩;rcases l with⟨q,hm⟩|⟨q,c,Z,j⟩
 ·exact wpAny_Name (wpAny_loadName_local I.ok.kind q hn hm fin) B
 rcases q with q|q
 ·exact wpAny_Name (wpAny_loadName_cell I.ok.kind q Z j fin) B
 exact wpAny_Name (wpAny_loadName_free I.ok.kind q Z j fin M) B
def ui {i j pos}:PE X (.Constant (.int i) j pos) (tC (.int i)):=λ_ _ _ H _ I h=>wpAny_Constant_int ⟨.int i,H,I.tok _,⟨_,rfl⟩,h⟩
def Be {b j pos}:PE X (.Constant (.bool b) j pos) (tC (.bl b)):=λ_ _ _ H _ I h=>Constant_bool ⟨.bl b,H,I,rfl,h⟩
def Ef {j pos}:PE X (.Constant .none j pos) (tC .non):=λ_ _ _ H _ I h=>Constant_none ⟨.non,H,I,rfl,h⟩
def Ec {x j pos}:PE X (.Constant (.str x) j pos) (tC (.str x)):=λ_ _ _ H _ I h=>Calls.Constant_str ⟨.str x,H,I.tok _,⟨_,rfl⟩,h⟩
def Gl(X:Cx)(x:Str):Prop:=X.env.kindOf x=some .globalImplicit
def Wb{G:St}(I:Inv X pn G H s)(q:Gl X x)(j:X.mg x=some u)(h:Q u s)(B:D_ x:=by decide):wpAny (model X.prog X.w) X.A (eval (.Name x pos) X.env) Q E s :=
 Calls.Name_function_global I.ok.kind q (Calls.loadGlobal_global (by rw[I.ok.glob];exact I.mod.glob.keeps I.bk) j h) B
def je{G:St}(I:Inv X pn G H s)(M:Gl X x)(B:X.mg x=none)(j:bootBuiltins x=some u)(h:Q u s)(q:x≠"__name__":=by decide)(N:D_ x:=by decide):wpAny (model X.prog X.w) X.A (eval (.Name x pos) X.env) Q E s:=by
 obtain⟨Z,h1,h2⟩:=I.mod.blt;exact Calls.Name_function_global I.ok.kind M (Calls.loadGlobal_builtin (by rw[I.ok.glob];exact I.mod.glob.keeps I.bk) B (by rw[I.ok.blt];exact h1.keeps I.bk) ((h2 x q).trans j) h) N
def Jd(q:Gl X x)(j:X.mg x=some u)(r:RelV v u)(B:D_ x:=by decide):PE X (.Name x pos) (tC v) :=
 λ_ _ _ H _ I h=>Wb I q j ⟨v,H,I,r,h⟩ B
def Jf(M:Gl X x)(B:X.mg x=none)(j:bootBuiltins x=some u)(r:RelV v u)(q:x≠"__name__":=by decide)(N:D_ x:=by decide):PE X (.Name x pos) (tC v) :=
 λ_ _ _ H _ I h=>je I M B j ⟨v,H,I,r,h⟩ q N
section
variable{a b:Expr}{ta tb:TE}{pos:Pos}
def tB(t:TE):TT:=λG H Q=>t G H λx H1=>∃c,x=.bl c/\Q c H1
def E5{t:TE}(h:PE X e t)(N:∀ whole,isTrue e X.env whole=(do let v <- whole;standAt e.pos;holding [v] (truthy v)):=by intro _;rfl):PT X e (tB t):=by
 intro pn s G H Q I M;refine isTrue_plain (thn (h pn s G H _ I M) λv s1 Zh=>?_) (N _);obtain⟨x,H1,Z,j,B⟩:=Zh;obtain⟨d,rfl,q⟩:=B;cases j;exact wpAny_truthy_bool ⟨H1,Z,q⟩
variable{tA tB':TT}{rest:List Expr}
def tAnd(t u:TT):TT:=λG H Q=>t G H λc H1=>if c=true then u G H1 Q else Q false H1
def tOr(t u:TT):TT:=λG H Q=>t G H λc H1=>if c=true then Q true H1 else u G H1 Q
def tNot(t:TT):TT:=λG H Q=>t G H λc H1=>Q (!c) H1
def J1(j:PT X a tA):PW X (.BoolOp .And [a] pos) tA:=by
 intro q pn s G H Q I h;refine isTrue_and (thn (j pn s G H Q I h) λc s1 e=>?_);cases c with
 |true=>exact isTrue_and_nil e
 |false=>exact e
def Fy(j:PT X a tA):PW X (.BoolOp .Or [a] pos) tA:=by
 intro q pn s G H Q I h;refine isTrue_or (thn (j pn s G H Q I h) λc s1 e=>?_);cases c with
 |false=>exact isTrue_or_nil e
 |true=>exact e
def E1(N:PT X a tA)(M:PW X (.BoolOp .And (b::rest) pos) tB'):PW X (.BoolOp .And (a::b::rest) pos) (tAnd tA tB'):=by
 intro B pn s G H Q I h;refine isTrue_and (thn (N pn s G H _ I h) λc s1 Zh=>?_);obtain⟨H1,q,j⟩:=Zh;cases c with
 |true=>exact M B pn s1 G H1 Q q j
 |false=>exact⟨H1,q,j⟩
def Ba(N:PT X a tA)(M:PW X (.BoolOp .Or (b::rest) pos) tB'):PW X (.BoolOp .Or (a::b::rest) pos) (tOr tA tB'):=by
 intro B pn s G H Q I h;refine isTrue_or (thn (N pn s G H _ I h) λc s1 Zh=>?_);obtain⟨H1,q,j⟩:=Zh;cases c with
 |true=>exact⟨H1,q,j⟩
 |false=>exact M B pn s1 G H1 Q q j
def E6(j:PT X a tA):PT X (.UnaryOp .Not a pos) (tNot tA):=by
 intro pn s G H Q I h;exact isTrue_not (j pn s G H (λc H1=>Q (!c) H1) I h)
def B4(ta tb:TE):TE:=λG H Q=>ta G H λx H1=>∃c,x=.bl c/\if c=true then tb G H1 Q else Q (.bl false) H1
def Cw(ta:TE):TE:=λG H Q=>ta G H λx H1=>∃c,x=.bl c/\Q (.bl (!c)) H1
def Ed {op} (h:PE X a t):PE X (.BoolOp op [a] pos) t:=λpn s G H Q I j=>BoolOp_one (h pn s G H Q I j)
def Eg(N:PE X a ta)(M:PE X (.BoolOp .And (b::rest) pos) tb):PE X (.BoolOp .And (a::b::rest) pos) (B4 ta tb):=by
 intro pn s G H Q I h;refine BoolOp_and (thn (N pn s G H _ I h) λv s1 Zh=>?_);obtain⟨x,H1,q,B,j⟩:=Zh;obtain⟨c,rfl,j⟩:=j;cases B;refine wpAny_truthy_bool ?_;cases c with
 |true=>exact M pn s1 G H1 Q q j
 |false=>exact⟨.bl false,H1,q,rfl,j⟩
def Ee(B:PE X a ta):PE X (.UnaryOp .Not a pos) (Cw ta):=by
 intro pn s G H Q I h;refine UnaryOp_ (thn (B pn s G H _ I h) λv s1 Zh=>?_);obtain⟨x,H1,M,q,j⟩:=Zh;obtain⟨c,rfl,j⟩:=j;cases q;exact not_of (wpAny_truthy_bool ⟨.bl (!c),H1,M,rfl,j⟩)
def tIf(t:TT)(ta tb:TE):TE:=λG H Q=>t G H λc H1=>if c=true then ta G H1 Q else tb G H1 Q
def N3(B:PT X c tA)(N:PE X a ta)(M:PE X b tb):PE X (.IfExp c a b pos) (tIf tA ta tb):=by
 intro pn s G H Q I h;refine wpAny_IfExp (thn (B pn s G H _ I h) λd s1 Zh=>?_);obtain⟨H1,q,j⟩:=Zh;cases d with
 |true=>exact N pn s1 G H1 Q q j
 |false=>exact M pn s1 G H1 Q q j
end
def SqL(K:W.Frag)(H:Hp)(a:Addr)(xs:List V):Prop :=
 Rd H a (.lst xs) \/
  ∃(o:Obj)(its:Array Value)(n:Nat),K.lookup a=some o/\o.cls=.type "list"/\o.dict=none/\o.data=.seq its n/\its.size<=sizeLine/\Vals xs its.toList
def SqT(K:W.Frag)(H:Hp)(a:Addr)(xs:List V):Prop :=
 Rd H a (.tup xs) \/
  ∃(o:Obj)(its:Array Value)(n:Nat),K.lookup a=some o/\o.cls=.type "tuple"/\o.data=.seq its n/\its.size<=sizeLine/\Vals xs its.toList
def absV:Value->Option V
 |.none=>some .non
 |.bool b=>some (.bl b)
 |.int i _=>some (.int i)
 |.str x _=>some (.str x)
 |.bytes b _=>some (.byt b)
 |.float b _=>some (.flt b)
 |.ref a=>some (.ref a)
 |.type n=>some (.ty n)
 |_=>none
def RelV.abs(r:RelV x u):absV u=some x:=by
 cases x with
 |non=>cases r;rfl
 |bl _=>cases r;rfl
 |int _=>obtain⟨t,rfl⟩:=r;rfl
 |str _=>obtain⟨t,rfl⟩:=r;rfl
 |byt _=>obtain⟨t,rfl⟩:=r;rfl
 |flt _=>obtain⟨t,rfl⟩:=r;rfl
 |ref _=>cases r;rfl
 |ty _=>cases r;rfl
theorem RelV.inj(r:RelV x u)(q:RelV y u):x=y:=Option.some.inj (r.abs.symm.trans q.abs)
theorem Vals.inj:∀{xs ys:List V}{us:List Value},Vals xs us->Vals ys us->xs=ys
 |_,_,_,.nil,.nil=>rfl
 |_,_,_,.cons r t,.cons r' t'=>by rw[r.inj r',Vals.inj t t']
variable{G:St}{xs ys:List V}
def SqL.of{K:W.Frag}(h:H a=some (.lst xs)):SqL K H a xs:=.inl (.inl h)
def SqT.of{K:W.Frag}(h:H a=some (.tup xs)):SqT K H a xs:=.inl (.inl h)
def Inv.list(I:Inv X pn G H s)(h:SqL X.K H a xs):∃its:List Value,Vals xs its/\PlainL s.heap a its.toArray/\xs.length<=sizeLine:=by
 rcases h with h|⟨o,its,n,hk,hc,hd,hs,hz,r⟩
 ·obtain⟨z,its,n,r,e⟩:=h.ok I.hok;exact⟨its,r,⟨_,n,e,rfl,rfl,rfl⟩,z⟩
 refine⟨its.toList,r,⟨o,n,I.kIn a o hk,hc,hd,by simpa using hs⟩,?_⟩
 have e:=r.length;simp only[Array.length_toList]at e;omega
def Inv.tuple(I:Inv X pn G H s)(h:SqT X.K H a xs):∃its:List Value,Vals xs its/\IsTup s.heap a its.toArray/\xs.length<=sizeLine:=by
 rcases h with h|⟨o,its,n,hk,hc,hs,hz,r⟩
 ·obtain⟨z,its,r,p⟩:=h.ok I.hok;exact⟨its,r,p.1,z⟩
 refine⟨its.toList,r,⟨o,I.kIn a o hk,hc,n,by simpa using hs⟩,?_⟩
 have e:=r.length;simp only[Array.length_toList]at e;omega
def Inv.list_inj(I:Inv X pn G H s)(h:SqL X.K H a xs)(h':SqL X.K H a ys):xs=ys:=by
 obtain⟨its,r,⟨o,n,e,_,_,d⟩,_⟩:=I.list h;obtain⟨its',q,⟨o',B,j,_,_,d'⟩,_⟩:=I.list h';rw[e]at j;cases j;rw[d]at d'
 injection d' with d1 _
 have:its=its':=by simpa using congrArg Array.toList d1
 subst this;exact r.inj q
def Inv.tuple_inj(I:Inv X pn G H s)(h:SqT X.K H a xs)(h':SqT X.K H a ys):xs=ys:=by
 obtain⟨its,r,⟨o,e,_,n,d⟩,_⟩:=I.tuple h;obtain⟨its',q,⟨o',j,_,B,d'⟩,_⟩:=I.tuple h';rw[e]at j;cases j;rw[d]at d'
 injection d' with d1 _
 have:its=its':=by simpa using congrArg Array.toList d1
 subst this;exact r.inj q
abbrev Cx.wish(X:Cx)(E:Value->Shared->Prop):Cx:={X with xe:=E}
abbrev Cx.nox(X:Cx):Cx:=X.wish λ_ _=>False
theorem Cx.Ok.wish{X:Cx}(ok:X.Ok)(E:Value->Shared->Prop):(X.wish E).Ok :=
 ⟨ok.mod,ok.kind,ok.glob,ok.blt,ok.above,ok.inj,ok.has,ok.cab,ok.hd,ok.frames,ok.stk,ok.exf,ok.bs,ok.bsz,ok.noex,ok.exfs,ok.funs,ok.frf⟩
def Cx.Ok.unwish{X:Cx}{E:Value->Shared->Prop}(ok:(X.wish E).Ok):X.Ok :=
 ⟨ok.mod,ok.kind,ok.glob,ok.blt,ok.above,ok.inj,ok.has,ok.cab,ok.hd,ok.frames,ok.stk,ok.exf,ok.bs,ok.bsz,ok.noex,ok.exfs,ok.funs,ok.frf⟩
variable{E:Value->Shared->Prop}
theorem Inv.wish(I:Inv X pn G H s)(E:Value->Shared->Prop):Inv (X.wish E) pn G H s:=⟨I.ok.wish E,I.os,I.bare,I.base,I.loc,I.cell,I.free,I.freeC,I.pin,I.hok,I.len⟩
theorem Inv.unwish(I:Inv (X.wish E) pn G H s):Inv X pn G H s:=⟨I.ok.unwish,I.os,I.bare,I.base,I.loc,I.cell,I.free,I.freeC,I.pin,I.hok,I.len⟩
theorem SP.unwish{D:Ends}(h:SP (X.wish E) pn D f s'):SP X pn D f s':=by
 cases f with
 |next=>obtain⟨j,H',I,q⟩:=h;exact⟨j,H',I.unwish,q⟩
 |brk=>obtain⟨j,H',I,q⟩:=h;exact⟨j,H',I.unwish,q⟩
 |cont=>obtain⟨j,H',I,q⟩:=h;exact⟨j,H',I.unwish,q⟩
 |ret u=>obtain⟨v,j,H',I,r,q⟩:=h;exact⟨v,j,H',I.unwish,r,q⟩
theorem PSs.nox{st:List Stmt}{t:TS}(h:PSs X.nox st t):PSs X st t:=λpn s G H D I j =>
 wpAny_mono (h pn s G H D (I.wish _) j) (λ_ _ q=>q.unwish) λ_ _ z=>False.elim z
section
variable{st:Stmt}{rest:List Stmt}{t u:TS}{e:Expr}{te:TE}{pos:Pos}
def Cy:TS:=λD G H=>D.nx G H
def tSeq(t u:TS):TS:=λD G H=>t {D with nx:=u D} G H
def Zk:PSs X [] Cy:=λ_ _ G H _ I h=>wpAny_execs_nil ⟨G,H,I,h⟩
def ww(h1:PS X st t)(h2:PSs X rest u):PSs X (st::rest) (tSeq t u):=by
 intro pn s G H D I h;refine wpAny_execs_cons (thn (h1 pn s G H {D with nx:=u D} I h) λf s1 q=>?_);cases f with
 |next =>
  obtain⟨j,H',B,q⟩:=q;exact h2 pn s1 j H' D B q
 |ret v=>exact q
 |brk=>exact q
 |cont=>exact q
def rh(h1:PS X st t):PSs X [st] t:=by
 intro pn s G H D I h;refine wpAny_execs_cons (thn (h1 pn s G H D I h) λf s1 q=>?_);cases f with
 |next=>exact wpAny_execs_nil q
 |ret v=>exact q
 |brk=>exact q
 |cont=>exact q
def B3:TS:=λD G H=>D.ct G H
def W6:PS X (.Continue pos) B3:=λ_ _ G H _ I h=>wpAny_Continue ⟨G,H,I,h⟩
def Inv.quiet(I:Inv X pn G H s):interactive X.env=false:=by simp[interactive,I.ok.kind]
def Ur(te:TE):TS:=λD G H=>te G H λ_ H1=>D.nx G H1
def rj(B:PE X e te)(q:swapsWith e none pos.line X.env=pure false:=by rfl):PS X (.Expr e pos) (Ur te):=by
 intro pn s G H D I h;exact wpAny_Expr_any (thn (B pn s G H _ I h) λv s1 ⟨x,H1,M,N,j⟩=>⟨G,H1,M,j⟩) I.quiet q
def tRet(te:TE):TS:=λD G H=>te G H D.rt
def bh(B:PE X e te):PS X (.Return (some e) pos) (tRet te):=by
 intro pn s G H D I h;exact wpAny_Return_some (thn (B pn s G H _ I h) λv s1 ⟨x,H1,M,j,q⟩=>⟨x,G,H1,M,j,q⟩)
def Cu:TS:=λD _ H=>D.rt .non H
def J3:PS X (.Return none pos) Cu:=λ_ _ G H _ I h=>wpAny_Return_none ⟨.non,G,H,I,rfl,h⟩
def tIfS(c:TT)(t u:TS):TS:=λD G H=>c G H λb H1=>if b=true then t D G H1 else u D G H1
def Ox{a b:List Stmt}{tc:TT}(B:PT X c tc)(N:PSs X a t)(M:PSs X b u):PS X (.If c a b pos) (tIfS tc t u):=by
 intro pn s G H D I h;refine wpAny_If (thn (B pn s G H _ I h) λd s1 Zh=>?_);obtain⟨H1,q,j⟩:=Zh;cases d with
 |true=>exact N pn s1 G H1 D q j
 |false=>exact M pn s1 G H1 D q j
def Gs:TS:=λ_ _ _=>False
def Ow:PS X st Gs:=λ_ _ _ _ _ _ h=>h.elim
end
abbrev TG:=V->St->Hp->(St->Hp->Prop)->Prop
abbrev TGs:=List V->St->Hp->(St->Hp->Prop)->Prop
def PG(X:Cx)(j:Expr)(t:TG):Prop :=
 ∀(pn:List (Addr×Obj))(s:Shared)(G:St)(H:Hp)(v:V)(u:Value)(Q:St->Hp->Prop),Inv X pn G H s->RelV v u->t v G H Q ->
  wpAny (model X.prog X.w) X.A (assign j X.env u) (λ_ s'=>∃σ' H',Inv X pn σ' H' s'/\Q σ' H') X.xe s
def PGs(X:Cx)(ts:List Expr)(t:TGs):Prop :=
 ∀(pn:List (Addr×Obj))(s:Shared)(G:St)(H:Hp)(vs:List V)(us:List Value)(Q:St->Hp->Prop),Inv X pn G H s->Vals vs us->t vs G H Q ->
  wpAny (model X.prog X.w) X.A (assignInOrder ((assignEach ts X.env).map (·.2)) us) (λ_ s'=>∃σ' H',Inv X pn σ' H' s'/\Q σ' H') X.xe s
abbrev TSet:=V->V->V->Hp->(Hp->Prop)->Prop
def PSet(X:Cx)(t:TSet):Prop :=
 ∀(pn:List (Addr×Obj))(s:Shared)(G:St)(H:Hp)(o i v:V)(ov iv u:Value)(Q:Hp->Prop),Inv X pn G H s->RelV o ov->RelV i iv->RelV v u->t o i v H Q ->
  wpAny (model X.prog X.w) X.A (setItem ov iv u) (λ_ s'=>∃H',Inv X pn G H' s'/\Q H') X.xe s
abbrev TIp:=V->V->Hp->VK->Prop
def PIp(X:Cx)(j:Operator)(t:TIp):Prop :=
 ∀(pn:List (Addr×Obj))(s:Shared)(G:St)(H:Hp)(x y:V)(v u:Value)(Q:VK),Inv X pn G H s->RelV x v->RelV y u->t x y H Q ->
  wpAny (model X.prog X.w) X.A (inplaceOp j v u) (EP X pn G Q) X.xe s
section
variable{pos:Pos}
def wt(i:Nat):TG:=λv G H Q=>Q (G.set i (some v)) H
def zn(B:X.N.Nodup)(hi:X.N[i]?=some x)(j:Loc X.env.scope x)(q:X.fn x=true\/X.env.scope.names.lookup x=some .local:=by first|exact .inl rfl|exact .inr rfl|assumption):PG X (.Name x pos) (wt i):=by
 intro pn s G H v u Q I r h;exact wpAny_assign_Name (Za I B hi j r (λs' M=>⟨_,H,M,h⟩) q)
def gNil:TGs:=λvs G H Q=>vs=[]/\Q G H
def vo(t:TG)(u:TGs):TGs:=λvs G H Q=>∃v r,vs=v::r/\t v G H λj H'=>u r j H' Q
def vf:PGs X [] gNil:=by
 intro pn s G H vs us Q I r h;obtain⟨e,h⟩:=h;subst e;cases r;exact assignInOrder_nil ⟨G,H,I,h⟩
def yb(h1:PG X e t)(h2:PGs X es u)(B:(assignEach (e::es) X.env).map (·.2)=assign e X.env::(assignEach es X.env).map (·.2):=by rfl):PGs X (e::es) (vo t u):=by
 intro pn s G H vs us Q I r h;obtain⟨v,vr,e1,h⟩:=h;subst e1;cases r with
 |cons r rr =>
  rw[B];refine assignInOrder_cons (thn (h1 pn s G H _ _ _ I r h) λ_ s1 Zh=>?_);obtain⟨j,H1,M,q⟩:=Zh;exact h2 pn s1 j H1 _ _ Q M rr q
def gTup(K:W.Frag)(n:Nat)(t:TGs):TG:=λv G H Q=>∃a xs,v=.ref a/\SqT K H a xs/\xs.length=n/\t xs G H Q
def Eb(hc:X.calm=true)(h:PGs X es t)(hn:(assignEach es X.env).length=n:=by rfl)(q:(assignEach es X.env).findIdx? (·.1)=none:=by rfl):PG X (.Tuple es k pos) (gTup X.K n t):=by
 intro pn s G H v u Q I r j;obtain⟨a,xs,e1,Z,hl,j⟩:=j;subst e1;cases r;obtain⟨its,B,N,hz⟩:=I.tuple Z;refine assign_Tuple_tuple (I.ok.hd hc) N (by simp[hn,<- hl,B.length]) q λh' M=>?_
 have I1:Inv X pn G H {s with heap:=h'}:=I.kept (t':=s.toks) λb o e=>M b o (Nat.ne_of_lt (zae e)) e;exact h pn _ G H xs _ Q I1 (by simpa using B) j
def gSub(to ti:TE)(t:TSet):TG:=λv G H Q=>to G H λo H1=>ti G H1 λi H2=>t o i v H2 λj=>Q G j
def Re{o i:Expr}{to ti:TE}(ho:PE X o to)(hi:PE X i ti)(hs:PSet X t)(ha:∀ v,assign (.Subscript o i pos) X.env v=(do
   let j <- holding [v] (eval o X.env)
   let q <- holding [v,j] (eval i X.env)
   standAt pos
   holding [v,j,q] (setItem j q v)
   release [v,j,q] []):=by intro _;rfl):PG X (.Subscript o i pos) (gSub to ti t):=by
 intro pn s G H v u Q I r h;rw[ha];refine zaa (wpAny_holding (thn (ho pn s G H _ I h) λj s1 Zh=>?_));obtain⟨x,H1,I1,M,q1⟩:=Zh;refine zaa (wpAny_holding (thn (hi pn s1 G H1 _ I1 q1) λq s2 Zh=>?_));obtain⟨y,H2,I2,B,Z⟩:=Zh;refine zaa (wpAny_standAt (zaa (wpAny_holding (thn (hs pn s2 G H2 x y v j q u _ I2 M B r Z) λ_ s3 Zh=>?_))));obtain⟨H3,I3,N⟩:=Zh;exact wpAny_release ⟨G,H3,I3,N⟩
def tAsg(te:TE)(g:TG):TS:=λD G H=>te G H λx H1=>g x G H1 D.nx
def Yr{tg e:Expr}{te:TE}(he:PE X e te)(Z:PG X tg g)(N:swapsWithSole [tg] e pos.line X.env=pure false:=by rfl)(M:swappedStores [tg] e X.env=pure none:=by rfl)(h1:(assignEach [tg] X.env).map (·.2)=[assign tg X.env]:=by rfl):PS X (.Assign [tg] e pos) (tAsg te g):=by
 intro pn s G H D I h;refine wpAny_Assign_stores (thn (he pn s G H _ I h) λv s1 Zh=>?_) N M;obtain⟨x,H1,I1,j,B⟩:=Zh;rw[h1];exact thn (Z pn s1 G H1 x v _ I1 j B) λ_ s2 q=>q
def gh{i:Nat}{x:Str}{te:TE}(hN:X.N.Nodup)(hi:X.N[i]?=some x)(B:Loc X.env.scope x)(he:PE X e te)(M:swapsWith e (some (.Name x pos')) pos.line X.env=pure false:=by rfl)(Z:X.fn x=true\/X.env.scope.names.lookup x=some .local:=by first|exact .inl rfl|exact .inr rfl|assumption) :
  PS X (.Assign [.Name x pos'] e pos) (tAsg te (wt i)):=by
 intro pn s G H D I h;refine wpAny_Assign_Name (thn (he pn s G H _ I h) λv s1 Zh=>?_) M;obtain⟨y,H1,I1,j,q⟩:=Zh;exact Za I1 hN hi B j (λs2 I2=>⟨_,H1,I2,q⟩) Z
def tAug(i:Nat)(te:TE)(ti:TIp):TS:=λD G H=>∃x,G[i]?=some (some x)/\te G H λy H1=>ti x y H1 λz H2=>D.nx (G.set i (some z)) H2
def E8{i:Nat}{x:Str}{te:TE}(hN:X.N.Nodup)(hi:X.N[i]?=some x)(hx:Loc X.env.scope x)(he:PE X e te)(ho:PIp X op ti)(hf:X.fn x=true\/X.env.scope.names.lookup x=some .local:=by first|exact .inl rfl|exact .inr rfl|assumption) :
  PS X (.AugAssign (.Name x pos') op e pos) (tAug i te ti):=by
 intro pn s G H D I h;obtain⟨v,e1,h⟩:=h;obtain⟨m,hn,hl⟩:=I.loc;have Z:Vis X.env.scope x:=by rcases hx with k|k;exact .inl k;exact .inr (.inl k)
 obtain⟨u,r,l⟩:=hl i x v hi e1 Z;refine wpAny_AugAssign_Name ?_;have go:wpAny (model X.prog X.w) X.A (eval e X.env) (λw M=>wpAny (model X.prog X.w) X.A (inplaceOp op u w) (λr B=>wpAny (model X.prog X.w) X.A (storeName X.env x r) (λ_=>SP X pn D .next) X.xe B) X.xe M) X.xe s:=by
  refine thn (he pn s G H _ I h) λw s1 Zh=>?_;obtain⟨y,H1,I1,r1,q1⟩:=Zh;refine thn (ho pn s1 G H1 v y u w _ I1 r r1 q1) λz s2 Zh=>?_;obtain⟨zv,H2,I2,r2,q2⟩:=Zh;exact Za I2 hN hi hx r2 (λs3 I3=>⟨_,H2,I3,q2⟩) hf
 rcases l with⟨j,hm⟩|⟨j,c,hc,q⟩
 ·exact wpAny_loadName_local I.ok.kind j hn hm go
 rcases j with j|j
 ·exact wpAny_loadName_cell I.ok.kind j hc q go
 rcases hx with k|k
 ·have:X.env.scope.names.lookup x=some .free:=j;rw[k]at this;cases this
 have:X.env.scope.names.lookup x=some .free:=j;rw[k]at this;cases this
def ipI(f:Int->Int->Int):TIp:=λx y H Q=>∃i j,x=.int i/\y=.int j/\Q (.int (f i j)) H
def Dr:PIp X .Add (ipI λi j=>i+j):=by
 intro pn s G H x y v u Q I M B h;obtain⟨i,j,e1,e2,q⟩:=h;subst e1;subst e2;obtain⟨t,rfl⟩:=M;obtain⟨t',rfl⟩:=B;exact iadd_int ⟨.int _,H,I.tok _,⟨_,rfl⟩,q⟩
def Gq(c:TT)(tb:TS):TS:=λD G H=>∃W:Nat->St->Hp->Prop,(∃m,W m G H)/\∀m G H,W m G H ->
 c G H λb H1=>if b=true then ∃N:St->Hp->Prop,(∀σ' H',N σ' H'->∃m',m'<m/\W m' σ' H')/\tb {D with nx:=N,ct:=N,bk:=D.nx} G H1 else D.nx G H1
def Vn{tc:TT}{tb:TS}(hp:PassesOwn (model X.prog X.w) X.A X.env X.xe)(hc:PT X c tc)(hb:PSs X body tb):PS X (.While c body [] pos) (Gq tc tb):=by
 intro pn s G H D I h;obtain⟨W,⟨m0,w0⟩,B⟩:=h;refine wpAny_While (codeAny_whileLoop (λn s'=>∃σ' H',Inv X pn σ' H' s'/\W n σ' H') ?_ m0 ⟨G,H,I,w0⟩);rintro n s1 ⟨q,H1,I1,w1⟩;refine wpAny_passesOwn hp (thn (hc pn s1 q H1 _ I1 (B n q H1 w1)) λb s2 Zh=>?_);obtain⟨H2,I2,q2⟩:=Zh;cases b with
 |true =>
  obtain⟨N,hN,q2⟩:=q2;rw[if_pos rfl];refine wpAny_passesOwn hp (thn (hb pn s2 q H2 _ I2 q2) λf s3 Z=>?_);cases f with
  |next =>
   obtain⟨j,M,I3,n3⟩:=Z;obtain⟨m',hm,w3⟩:=hN j M n3;exact⟨m',hm,j,M,I3,w3⟩
  |cont =>
   obtain⟨j,M,I3,n3⟩:=Z;obtain⟨m',hm,w3⟩:=hN j M n3;exact⟨m',hm,j,M,I3,w3⟩
  |brk=>exact Z
  |ret v=>exact Z
 |false =>
  rw[if_neg Bool.false_ne_true];exact wpAny_execs_nil ⟨q,H2,I2,q2⟩
end
structure It where
 go:Nat->Hp->Prop
 yld:Nat->Hp->V->Hp->Prop
 stop:Nat->Hp->Prop
def FpOk(X:Cx)(pn:List (Addr×Obj))(H:Hp)(b:Addr):Prop :=
 H b=none/\b≠X.env.locals/\b∉X.fs/\(b∈X.ex\/X.s₀.heap.objs.size<=b)/\(∀x c,X.env.cells.lookup x=some c->c≠b)/\∀p∈X.pn++pn,p.1≠b
def Inv.fpOk(I:Inv X pn G H s)(j:s.heap.objs.size<=b)(M:H' b=none):FpOk X pn H' b:=by
 refine⟨M,Nat.ne_of_gt (Nat.lt_of_lt_of_le I.lt j),I.nofs j,.inr (zak I.sz j),λx c e z=>?_,λp B z=>?_⟩
 ·obtain⟨v,q⟩:=I.cell x c e;exact absurd (Nat.lt_of_lt_of_le q.lt (by rw[z];exact j)) (Nat.lt_irrefl _)
 exact absurd (Nat.lt_of_lt_of_le (zae (I.pin p B).1) (by rw[z];exact j)) (Nat.lt_irrefl _)
structure Turn(P:Program)(w:World)(K:W.Frag)(tg:Expr)(J:It)(fp:List Addr)(it:Addr)(tn:Nat->Heap->Prop):Prop where
 mem:it∈fp
 obj:∀i h,tn i h->∀b∈fp,∃o,h.get? b=some o/\∀v,o.data≠.cell v
 keep:∀i h h',tn i h->(∀b∈fp,∀o,h.get? b=some o->h'.get? b=some o)->tn i h'
 item:∀(X:Cx),X.prog=P->X.w=w->X.K=K->X.calm=true->∀(i:Nat)(pn:List (Addr×Obj))(s:Shared)(G:St)(H:Hp)(E:Value->Shared->Prop),Inv X pn G H s->(∀b∈fp,FpOk X pn H b)->tn i s.heap->J.go i H ->
  wpAny (model P w) X.A (pyNext (.ref it)) (λr s1=>∃u,r=some u /\
   wpAny (model P w) X.A (letOwnedTupleGo tg (.ref it) u) (λ_ s2=>∃x H',Inv X pn G H' s2/\RelV x u/\J.yld i H x H'/\tn (i+1) s2.heap/\∀b∈fp,H' b=none) E s1) E s
 done:∀(X:Cx),X.prog=P->X.w=w->X.K=K->X.calm=true->∀(i:Nat)(pn:List (Addr×Obj))(s:Shared)(G:St)(H:Hp)(E:Value->Shared->Prop),Inv X pn G H s->(∀b∈fp,FpOk X pn H b)->tn i s.heap->J.stop i H ->
  wpAny (model P w) X.A (pyNext (.ref it)) (λr s1=>r=none/\Inv X pn G H s1) E s
 self:∀(A:Around)(i:Nat)(s:Shared)(Q:Value->Shared->Prop)(E:Value->Shared->Prop),tn i s.heap->Q (.ref it) s->wpAny (model P w) A (pyIter (.ref it)) Q E s
abbrev TI:=St->Hp->(It->Hp->Prop)->Prop
def PIE(X:Cx)(pn:List (Addr×Obj))(G:St)(tg:Expr)(R:It->Hp->Prop)(j:Value)(s2:Shared):Prop :=
 ∃(it:Addr)(fp:List Addr)(tn:Nat->Heap->Prop)(J:It)(H':Hp),j=.ref it/\Inv X pn G H' s2/\Turn X.prog X.w X.K tg J fp it tn/\tn 0 s2.heap/\(∀b∈fp,FpOk X pn H' b)/\R J H'
def PI(X:Cx)(tg iter:Expr)(j:TI):Prop :=
 ∀(pn:List (Addr×Obj))(s:Shared)(G:St)(H:Hp)(R:It->Hp->Prop),Inv X pn G H s->j G H R ->
  wpAny (model X.prog X.w) X.A (eval iter X.env) (λv s1=>wpAny (model X.prog X.w) X.A (pyIter v) (PIE X pn G tg R) X.xe s1) X.xe s
def Qo{tg:Expr}{o:Obj}(ho:s.heap.get? it=some o)(I:o.cls=.type n)(B:o.data=.fields vs)(q:["enumerate","zip","dict_itemiterator","dict_reverseitemiterator","odict_iterator","itertools.zip_longest","itertools.pairwise"].contains n=false)(j:Q () s):wpAny M A (letOwnedTupleGo tg (.ref it) u) Q E s:=by
 unfold letOwnedTupleGo;cases tg <;> first
  |exact zab j
  | (cases u <;> first
    |exact zab j
    | (refine zaa (wpAny_load ho ?_)
       rw[I,B];show wpAny M A (if (["enumerate","zip","dict_itemiterator","dict_reverseitemiterator","odict_iterator","itertools.zip_longest","itertools.pairwise"].contains n&&vs[0]?==some (rawInt _))=true then _ else _) Q E s
       rw[if_neg (by intro h;rw[q,Bool.false_and]at h;cases h)]
       exact zab j))
def Itl(K:W.Frag)(a:Addr):It :=
 ⟨λi H=>∃xs x,SqL K H a xs/\xs[i]?=some x,λi H x H'=>H'=H/\∀xs,SqL K H a xs->xs[i]?=some x,λi H=>∃xs,SqL K H a xs/\xs.length<=i⟩
def Itt(K:W.Frag)(a:Addr):It :=
 ⟨λi H=>∃xs x,SqT K H a xs/\xs[i]?=some x,λi H x H'=>H'=H/\∀xs,SqT K H a xs->xs[i]?=some x,λi H=>∃xs,SqT K H a xs/\xs.length<=i⟩
def Itr(lo:Int)(n:Nat):It:=⟨λi _=>i<n,λi H x H'=>H'=H/\x=.int (lo+i),λi _=>n<=i⟩
def Tv{P:Program}{w:World}{K:W.Frag}{tg:Expr}(a it:Addr):Turn P w K tg (Itl K a) [it] it (λi h=>h.IsListIter it a i) where
 mem:=by simp
 obj:=λi h st b j=>by
  have e:b=it:=by simpa using j
  subst e;obtain⟨o,e,c,d⟩:=st;exact⟨o,e,λv z=>by rw[d]at z;cases z⟩
 keep:=λi h h' st k=>st.at λo e=>k it (by simp) o e
 item:=by
  intro X hP hw hK hc i pn s G H E I M st hg;subst hP hw hK;obtain⟨xs,x,B,Z⟩:=hg;obtain⟨its,N,p,hz⟩:=I.list B;obtain⟨u,hu,ru⟩:=N.get Z;obtain⟨f0,f1,f2,f3,f4,f5⟩:=M it (by simp)
  refine wpAny_pyNext_list_item st p.isList (x:=u) (by simpa using hu) λh' q sb=>?_
  have I1:Inv X pn G H {s with heap:=h'}:=I.turned (t':=s.toks) (λb o j e=>(sb.2 b j).trans e) f0 f1 f3 f4 f5;obtain⟨o,e,c,d⟩:=id q;exact⟨u,rfl,Qo (s:={s with heap:=h'}) e c d (by decide) ⟨x,H,I1,ru,⟨rfl,λys hy=>by rw[I.list_inj hy B];exact Z⟩,q,λb j=>(M b j).1⟩⟩
 done:=by
  intro X hP hw hK hc i pn s G H E I M st hg;subst hP hw hK;obtain⟨xs,B,Z⟩:=hg;obtain⟨its,N,p,hz⟩:=I.list B;obtain⟨f0,f1,f2,f3,f4,f5⟩:=M it (by simp)
  have hl:=N.length;exact wpAny_pyNext_list_end (I.ok.hd hc) st p.isList (by simp;omega) λh' eb=>⟨rfl,I.turned (t':=s.toks) (λb o j e=>eb b o j e) f0 f1 f3 f4 f5⟩
 self:=λ_ _ _ _ _ st h=>wpAny_pyIter_listiter st h
def Uo{P:Program}{w:World}{K:W.Frag}{tg:Expr}(a it:Addr):Turn P w K tg (Itt K a) [it] it (λi h=>h.IsTupleIter it a i) where
 mem:=by simp
 obj:=λi h st b j=>by
  have e:b=it:=by simpa using j
  subst e;obtain⟨o,e,c,d⟩:=st;exact⟨o,e,λv z=>by rw[d]at z;cases z⟩
 keep:=λi h h' st k=>st.at λo e=>k it (by simp) o e
 item:=by
  intro X hP hw hK hc i pn s G H E I M st hg;subst hP hw hK;obtain⟨xs,x,B,Z⟩:=hg;obtain⟨its,N,p,hz⟩:=I.tuple B;obtain⟨u,hu,ru⟩:=N.get Z;obtain⟨f0,f1,f2,f3,f4,f5⟩:=M it (by simp)
  refine wpAny_pyNext_tuple_item st (show s.heap.IsTuple a its.toArray from p) (x:=u) (by simpa using hu) λh' q sb=>?_
  have I1:Inv X pn G H {s with heap:=h'}:=I.turned (t':=s.toks) (λb o j e=>(sb.2 b j).trans e) f0 f1 f3 f4 f5;obtain⟨o,e,c,d⟩:=id q;exact⟨u,rfl,Qo (s:={s with heap:=h'}) e c d (by decide) ⟨x,H,I1,ru,⟨rfl,λys hy=>by rw[I.tuple_inj hy B];exact Z⟩,q,λb j=>(M b j).1⟩⟩
 done:=by
  intro X hP hw hK hc i pn s G H E I M st hg;subst hP hw hK;obtain⟨xs,B,Z⟩:=hg;obtain⟨its,N,p,hz⟩:=I.tuple B;obtain⟨f0,f1,f2,f3,f4,f5⟩:=M it (by simp)
  have hl:=N.length;exact wpAny_pyNext_tuple_end (I.ok.hd hc) st (show s.heap.IsTuple a its.toArray from p) (by simp;omega) λh' eb=>⟨rfl,I.turned (t':=s.toks) (λb o j e=>eb b o j e) f0 f1 f3 f4 f5⟩
 self:=λ_ _ _ _ _ st h=>wpAny_pyIter_tupleiter st h
def Up{P:Program}{w:World}{K:W.Frag}{tg:Expr}(it:Addr)(lo:Int)(n:Nat):Turn P w K tg (Itr lo n) [it] it (λi h=>IsRangeIter h it (lo+(i:Nat)*1) ((n:Int)-(i:Nat)) 1) where
 mem:=by simp
 obj:=λi h st b j=>by
  have e:b=it:=by simpa using j
  subst e;exact⟨_,st,λv z=>by
   have z':Data.fields _=Data.cell v:=z;cases z'⟩
 keep:=λi h h' st k=>k it (by simp) _ st
 item:=by
  intro X hP M hK Z i pn s G H E I B st N;subst hP M hK;obtain⟨f0,f1,f2,f3,f4,f5⟩:=B it (by simp)
  have W:=Walks.range (prog:=X.prog) (w:=X.w) (I.ok.hd Z) it lo 1 n;refine W.item i s _ _ N st λv h' tk hv q kk=>?_;obtain⟨t,rfl⟩:=hv;have I1:Inv X pn G H {s with heap:=h',toks:=tk}:=I.turned (λb o j e=>kk b o (by simpa using j) e) f0 f1 f3 f4 f5
  refine⟨_,rfl,Qo (s:={s with heap:=h',toks:=tk}) (n:="range_iterator") q rfl rfl (by decide) ⟨.int (lo+i),H,I1,⟨t,?_⟩,⟨rfl,rfl⟩,q,λb j=>(B b j).1⟩⟩
  rw[Int.mul_one]
 done:=by
  intro X hP M hK Z i pn s G H E I B st N;subst hP M hK;obtain⟨f0,f1,f2,f3,f4,f5⟩:=B it (by simp)
  exact wpAny_pyNext_range_end (I.ok.hd Z) st (by have:n<=i:=N;omega) λh' eb=>⟨rfl,I.turned (t':=s.toks) (λb o j e=>eb b o j e) f0 f1 f3 f4 f5⟩
 self:=λ_ _ _ _ _ st h=>wpAny_pyIter_rangeiter st h
section
variable{tg:Expr}
def Om{H:Hp}{R:It->Hp->Prop}{E:Value->Shared->Prop}{lo hi:Int}{tk:Nat}(I:Inv X pn G H s)(h1:-(2 ^ 62)<=lo)(h2:lo<2 ^ 62)(N:-(2 ^ 62)<=hi)(M:hi<2 ^ 62)(q:R (Itr lo (hi-lo).toNat) H):wpAny (model X.prog X.w) X.A (pyIter (.ref s.heap.objs.size)) (PIE X pn G tg R) E {s with heap:=s.heap.push {cls:=.type "range",data:=.fields #[.int lo t,.int hi u,.int 1 v]},toks:=tk}:=by
 refine wpAny_pyIter_range (IsRange.new ..) (small_one h1 h2 N M) ?_;have j:Inv X pn G H {s with heap:=s.heap.push {cls:=.type "range",data:=.fields #[.int lo t,.int hi u,.int 1 v]},toks:=tk}:=I.kept λb o e=>zac _ e;refine⟨(s.heap.push {cls:=.type "range",data:=.fields #[.int lo t,.int hi u,.int 1 v]}).objs.size,[(s.heap.push {cls:=.type "range",data:=.fields #[.int lo t,.int hi u,.int 1 v]}).objs.size],_,_,H,rfl,
  j.kept (t':=tk) λb o e=>zac _ e,Up _ lo (hi-lo).toNat,?_,λb B=>?_,q⟩
 ·have e1:lo+((0:Nat):Int)*1=lo:=by simp
  have e2:(((hi-lo).toNat:Nat):Int)-((0:Nat):Int)=Builtin.Range.rangeSize lo hi 1:=by rw[rangeSize_one];split <;> omega
  show IsRangeIter _ _ (lo+((0:Nat):Int)*1) ((((hi-lo).toNat:Nat):Int)-((0:Nat):Int)) 1;rw[e1,e2];exact zad _ rfl
 have e:b=(s.heap.push {cls:=.type "range",data:=.fields #[.int lo t,.int hi u,.int 1 v]}).objs.size:=by simpa using B
 subst e;exact j.fpOk (zaj _) (j.hok.fresh (zaj _))
def Bq(ta:TA):TI:=λG H R=>ta G H λvs H1=>∃j:Int,vs=[.int j]/\-(2 ^ 62)<=j/\j<2 ^ 62/\R (Itr 0 j.toNat) H1
def Rc{a:Expr}{ta:TA}{p pos:Pos}(hg:Gl X "range")(hm:X.mg "range" = none)(ha:PA X [a] ta)(Z:starEach [a] X.env=[(false,eval a X.env)]:=by rfl):PI X tg (.Call (.Name "range" p) [a] [] pos) (Bq ta):=by
 intro pn s G H R I h;refine Call_ (je I hg hm boot_range (PyProof.Rows.callWith_type1 (thn (ha pos pn s G H _ I h) λus s1 Zh=>?_) Z rfl));obtain⟨vs,H1,I1,M,B⟩:=Zh;obtain⟨j,e,B,N,q⟩:=B;subst e;cases M with
 |cons r rr =>
  cases rr
  obtain⟨t,rfl⟩:=r;exact call_range_1 (Om I1 (by omega) (by omega) B N (by simpa using q))
def tFor(q:TI)(g:TG)(tb:TS):TS:=λD G H=>q G H λJ H1=>∃W:Nat->Nat->St->Hp->Prop,(∃m,W 0 m G H1)/\∀i m G H,W i m G H ->
 (J.stop i H/\D.nx G H)\/(J.go i H/\∃N:St->Hp->Prop,(∀σ' H',N σ' H'->∃m',m'<m/\W (i+1) m' σ' H')/\∀x H',J.yld i H x H'->g x G H' λj H2=>tb {D with nx:=N,ct:=N,bk:=D.nx} j H2)
def Ys(fp:List Addr)(h:Heap):List (Addr×Obj):=fp.filterMap λb=>(h.get? b).map λo=>(b,o)
def sk{o:Obj}(j:b∈fp)(e:h.get? b=some o):(b,o)∈Ys fp h:=List.mem_filterMap.mpr ⟨b,j,by rw[e];rfl⟩
def Q1(j:p∈Ys fp h):p.1∈fp/\h.get? p.1=some p.2:=by
 obtain⟨b,B,e⟩:=List.mem_filterMap.mp j;cases q:h.get? b with
 |none=>rw[q]at e;cases e
 |some o =>
  rw[q]at e;have I:(b,o)=p:=Option.some.inj e;subst I;exact⟨B,q⟩
def Inv.pinned(I:Inv X pn G H s)(M:∀ b∈fp,FpOk X pn H b)(ho:∀ b∈fp,∃ o,s.heap.get? b=some o/\∀ v,o.data≠.cell v):Inv X (pn++Ys fp s.heap) G H s :=
 I.pins_of λp B=>(zas.mp B).elim (λz=>I.pin p (List.mem_append_right _ z)) λz=>by
  obtain⟨j,e⟩:=Q1 z;obtain⟨f0,Z,N,_⟩:=M p.1 j;obtain⟨o,q,d⟩:=ho p.1 j;rw[e]at q;cases q;exact⟨e,f0,Z,N,d⟩
def Inv.unpinned(I:Inv X (pn++pl) G H s):Inv X pn G H s:=I.pins_of λp j=>I.pin p (List.mem_append_right _ (List.mem_append_left _ j))
def E7{wi:TI}{tb:TS}(hp:PassesOwn (model X.prog X.w) X.A X.env X.xe)(hc:X.calm=true)(hi:PI X tg iter wi)(hg:PG X tg g)(M:PSs X body tb)(hs:∀ x,foldedSetIterable iter X.env x=pure x:=by intro _;rfl):PS X (.For tg iter body [] pos) (tFor wi g tb):=by
 intro pn s G H D I h;refine wpAny_For (thn (hi pn s G H _ I h) λv s1 h1=>thn h1 λb5 s2 h2=>?_) hs;obtain⟨it,fp,tn,J,H2,e,I2,T,a9,f2,W,⟨m0,w0⟩,a4⟩:=h2;subst e;have B:∀{H':Hp},(∀b∈fp,H' b=none)->∀b∈fp,FpOk X pn H' b:=λhn b M=>⟨hn b M,(f2 b M).2⟩;refine codeAny_forLoop_any (λn s'=>∃i σ' H',Inv X pn σ' H' s'/\tn i s'.heap/\(∀b∈fp,H' b=none)/\W i n σ' H') ?_ m0 ⟨0,G,H2,I2,a9,λb M=>(f2 b M).1,w0⟩;rintro n s3 ⟨i,q,H3,I3,a6,a7,w3⟩;rcases a4 i n q H3 w3 with⟨a5,qn⟩|⟨go,N,hN,step⟩
 ·refine wpAny_passesOwn hp (thn (T.done X rfl rfl rfl hc i pn s3 q H3 X.xe I3 (B a7) a6 a5) λr s4 ⟨hr,I4⟩=>?_);subst hr;exact wpAny_execs_nil ⟨q,H3,I4,qn⟩
 refine wpAny_passesOwn hp (thn (T.item X rfl rfl rfl hc i pn s3 q H3 X.xe I3 (B a7) a6 go) λr s4 Zh=>?_);obtain⟨u,hr,h4⟩:=Zh;subst hr;refine wpAny_passesOwn hp (thn h4 λ_ s5 Zh=>?_);obtain⟨x,H5,I5,r5,y5,a0,b0⟩:=Zh;have b4:=I5.pinned (B b0) (T.obj _ _ a0);refine wpAny_passesOwn hp (thn (hg _ s5 q H5 x u _ b4 r5 (step x H5 y5)) λ_ s6 Zh=>?_);obtain⟨a8,H6,I6,q6⟩:=Zh;refine wpAny_passesOwn hp (thn (M _ s6 a8 H6 _ I6 q6) λf s7 q7=>?_);have Z:∀{j:St}{H7:Hp},Inv X (pn++Ys fp s5.heap) j H7 s7->N j H7->∃m,m<n/\∃i σ' H',Inv X pn σ' H' s7/\tn i s7.heap/\(∀b∈fp,H' b=none)/\W i m σ' H':=λ{j H7} I7 n7=>by
  obtain⟨m',hm,w7⟩:=hN j H7 n7;refine⟨m',hm,i+1,j,H7,I7.unpinned,T.keep _ _ _ a0 λb M o e=>(I7.pin (b,o) (List.mem_append_right _ (List.mem_append_right _ (sk M e)))).1,λb M=>?_,w7⟩;obtain⟨o,e,d⟩:=T.obj _ _ a0 b M;exact(I7.pin (b,o) (List.mem_append_right _ (List.mem_append_right _ (sk M e)))).2.1
 cases f with
 |next=>obtain⟨j,H7,I7,n7⟩:=q7;exact Z I7 n7
 |cont=>obtain⟨j,H7,I7,n7⟩:=q7;exact Z I7 n7
 |brk=>obtain⟨j,H7,I7,q7⟩:=q7;exact⟨j,H7,I7.unpinned,q7⟩
 |ret v=>obtain⟨x7,j,H7,I7,r7,q7⟩:=q7;exact⟨x7,j,H7,I7.unpinned,r7,q7⟩
end
abbrev R2:=V->V->Hp->VK->Prop
def OpR(X:Cx)(f:Value->Value->Sem Value)(r:R2):Prop :=
 ∀(pn:List (Addr×Obj))(s:Shared)(G:St)(H:Hp)(x y:V)(v u:Value)(Q:VK),Inv X pn G H s->RelV x v->RelV y u->r x y H Q ->
  wpAny (model X.prog X.w) X.A (f v u) (EP X pn G Q) X.xe s
def UnR(X:Cx)(f:Value->Sem Value)(r:V->Hp->VK->Prop):Prop :=
 ∀(pn:List (Addr×Obj))(s:Shared)(G:St)(H:Hp)(x:V)(v:Value)(Q:VK),Inv X pn G H s->RelV x v->r x H Q ->
  wpAny (model X.prog X.w) X.A (f v) (EP X pn G Q) X.xe s
def ux(X:Cx)(f:Value)(r:List V->Hp->VK->Prop):Prop :=
 ∀(pn:List (Addr×Obj))(s:Shared)(G:St)(H:Hp)(xs:List V)(us:List Value)(Q:VK),Inv X pn G H s->Vals xs us->r xs H Q ->
  wpAny (model X.prog X.w) X.A (call f us) (EP X pn G Q) X.xe s
def TruR(X:Cx)(r:V->Hp->(Bool->Hp->Prop)->Prop):Prop :=
 ∀(pn:List (Addr×Obj))(s:Shared)(G:St)(H:Hp)(x:V)(v:Value)(Q:Bool->Hp->Prop),Inv X pn G H s->RelV x v->r x H Q ->
  wpAny (model X.prog X.w) X.A (truthy v) (TP X pn G Q) X.xe s
def tOp(r:R2)(ta tb:TE):TE:=λG H Q=>ta G H λx H1=>tb G H1 λy H2=>r x y H2 Q
def tUn(r:V->Hp->VK->Prop)(ta:TE):TE:=λG H Q=>ta G H λx H1=>r x H1 Q
def rI(C:Int->Int->Prop)(g:Int->Int->V):R2:=λx y H Q=>∃i j,x=.int i/\y=.int j/\C i j/\Q (g i j) H
def rI0(g:Int->Int->V):R2:=λx y H Q=>∃i j,x=.int i/\y=.int j/\Q (g i j) H
def rU(g:Int->V):V->Hp->VK->Prop:=λx H Q=>∃i,x=.int i/\Q (g i) H
section
variable{a b:Expr}{ta tb:TE}{pos:Pos}
def binT(ha:PE X a ta)(hb:PE X b tb){H:Hp}{R:V->V->Hp->Prop}(I:Inv X pn G H s)(h:ta G H λx H1=>tb G H1 λy H2=>R x y H2){Q:Value->Shared->Prop}{f:Value->Value->Sem Value}(hf:∀ v u s2 x y H2,Inv X pn G H2 s2->RelV x v->RelV y u->R x y H2->wpAny (model X.prog X.w) X.A (f v u) Q X.xe s2) :
  wpAny (model X.prog X.w) X.A (eval a X.env) (λv q=>wpAny (model X.prog X.w) X.A (eval b X.env) (λu j=>wpAny (model X.prog X.w) X.A (f v u) Q X.xe j) X.xe q) X.xe s:=by
 refine thn (ha pn s G H _ I h) λv s1 Zh=>?_;obtain⟨x,H1,I1,M,Z⟩:=Zh;refine thn (hb pn s1 G H1 _ I1 Z) λu s2 Zh=>?_;obtain⟨y,H2,I2,B,N⟩:=Zh;exact hf v u s2 x y H2 I2 M B N
def Uv(ho:OpR X (binaryOp op) r)(N:PE X a ta)(M:PE X b tb):PE X (.BinOp a op b pos) (tOp r ta tb):=by
 intro pn s G H Q I h;exact wpAny_BinOp (binT N M I h λv u s2 x y H2 Z B j q=>ho pn s2 G H2 x y v u Q Z B j q)
def Bd{r:V->Hp->VK->Prop}(ho:UnR X (unaryOp op) r)(B:PE X a ta):PE X (.UnaryOp op a pos) (tUn r ta):=by
 intro pn s G H Q I h;exact UnaryOp_ (thn (B pn s G H _ I h) λv s1 ⟨x,H1,M,j,q⟩=>ho pn s1 G H1 x v Q M j q)
def opI{f:Value->Value->Sem Value}{C:Int->Int->Prop}{g:Int->Int->Int}(B:∀ (i j:Int) (t u:Tok) (s:Shared) (Q:Value->Shared->Prop) (E:Value->Shared->Prop),C i j->Q (.int (g i j) s.toks) {s with toks:=s.toks+1}->wpAny (model X.prog X.w) X.A (f (.int i t) (.int j u)) Q E s) :
  OpR X f (rI C λi j=>.int (g i j)):=by
 intro pn s G H x y v u Q I N M h;obtain⟨i,j,rfl,rfl,Z,q⟩:=h;obtain⟨t,rfl⟩:=N;obtain⟨t',rfl⟩:=M;exact B i j t t' s _ _ Z ⟨.int (g i j),H,I.tok _,⟨_,rfl⟩,q⟩
def opI0{f:Value->Value->Sem Value}{g:Int->Int->Int}(B:∀ (i j:Int) (t u:Tok) (s:Shared) (Q:Value->Shared->Prop) (E:Value->Shared->Prop),Q (.int (g i j) s.toks) {s with toks:=s.toks+1}->wpAny (model X.prog X.w) X.A (f (.int i t) (.int j u)) Q E s) :
  OpR X f (rI0 λi j=>.int (g i j)):=by
 intro pn s G H x y v u Q I N M h;obtain⟨i,j,rfl,rfl,q⟩:=h;obtain⟨t,rfl⟩:=N;obtain⟨t',rfl⟩:=M;exact B i j t t' s _ _ ⟨.int (g i j),H,I.tok _,⟨_,rfl⟩,q⟩
def opB0{f:Value->Value->Sem Value}{g:Int->Int->Bool}(B:∀ (i j:Int) (t u:Tok) (s:Shared) (Q:Value->Shared->Prop) (E:Value->Shared->Prop),Q (.bool (g i j)) s->wpAny (model X.prog X.w) X.A (f (.int i t) (.int j u)) Q E s) :
  OpR X f (rI0 λi j=>.bl (g i j)):=by
 intro pn s G H x y v u Q I N M h;obtain⟨i,j,rfl,rfl,q⟩:=h;obtain⟨t,rfl⟩:=N;obtain⟨t',rfl⟩:=M;exact B i j t t' s _ _ ⟨.bl (g i j),H,I,rfl,q⟩
def CPow(i j:Int):Prop:=0<=j/\j<=1000000/\i.natAbs<2 ^ 64
def Lg:OpR X (binaryOp .Add) (rI0 λi j=>.int (i+j)):=opI0 λ_ _ _ _ _ _ _ q=>add_int q
def Lb:OpR X (binaryOp .Sub) (rI0 λi j=>.int (i-j)):=opI0 λ_ _ _ _ _ _ _ q=>sub_int q
def Rq:OpR X (binaryOp .Mod) (rI (λ_ j=>j≠0) λi j=>.int (i.fmod j)):=opI λ_ _ _ _ _ _ _ B q=>mod_int' B q
def Lc:OpR X (binaryOp .Pow) (rI CPow λi j=>.int (i ^ j.toNat)):=opI λ_ _ _ _ _ _ _ B q=>pow_int_small B.1 B.2.1 B.2.2 q
def unI{f:Value->Sem Value}{g:Int->Int}(j:∀ (i:Int) (t:Tok) (s:Shared) (Q:Value->Shared->Prop) (E:Value->Shared->Prop),Q (.int (g i) s.toks) {s with toks:=s.toks+1}->wpAny (model X.prog X.w) X.A (f (.int i t)) Q E s) :
  UnR X f (rU λi=>.int (g i)):=by
 intro pn s G H x v Q I B h;obtain⟨i,rfl,q⟩:=h;obtain⟨t,rfl⟩:=B;exact j i t s _ _ ⟨.int (g i),H,I.tok _,⟨_,rfl⟩,q⟩
def Gm:UnR X (unaryOp .USub) (rU λi=>.int (-i)):=unI λ_ _ _ _ _ q=>neg_int q
def P3(I:Inv X pn G H s)(q:Q (.bl k) H)(e:k=k'):EP X pn G Q (.bool k') s:=by
 subst e;exact⟨.bl k,H,I,rfl,q⟩
def Ej:OpR X (compareOp .Lt) (rI0 λi j=>.bl (decide (i<j))):=opB0 λ_ _ _ _ _ _ _ q=>lt_int q
def Bg:OpR X (compareOp .LtE) (rI0 λi j=>.bl (decide (i<=j))):=opB0 λ_ _ _ _ _ _ _ q=>le_int q
def Em:OpR X (compareOp .Gt) (rI0 λi j=>.bl (decide (j<i))):=opB0 λ_ _ _ _ _ _ _ q=>gt_int q
def Bh:OpR X (compareOp .GtE) (rI0 λi j=>.bl (decide (j<=i))):=opB0 λ_ _ _ _ _ _ _ q=>ge_int q
def Rr:OpR X (compareOp .In) (λx y H Q=>∃i j,x=.str i/\y=.str j/\Q (.bl (!(Builtin.Str.occurrences j i 0 j.length 1).isEmpty)) H):=by
 intro pn s G H x y v u Q I M B h;obtain⟨i,j,rfl,rfl,q⟩:=h;obtain⟨t,rfl⟩:=M;obtain⟨t',rfl⟩:=B;exact in_str (P3 I q rfl)
def Ek:OpR X (compareOp .Is) (λx y H Q=>y=.non/\Q (.bl (decide (x=.non))) H):=by
 intro pn s G H x y v u Q I j B h;obtain⟨rfl,q⟩:=h;cases B;refine is_none_gen (P3 I q ?_);cases x <;> first
  |(cases j;rfl)
  |(obtain⟨t,rfl⟩:=j;rfl)
def Jh:OpR X (compareOp .IsNot) (λx y H Q=>y=.non/\Q (.bl (!decide (x=.non))) H):=by
 intro pn s G H x y v u Q I j B h;obtain⟨rfl,q⟩:=h;cases B;refine isnot_none_gen (P3 I q ?_);cases x <;> first
  |(cases j;rfl)
  |(obtain⟨t,rfl⟩:=j;rfl)
def OpR.or(h:OpR X f r)(h':OpR X f r'):OpR X f (λx y H Q=>r x y H Q\/r' x y H Q):=by
 intro pn s G H x y v u Q I B j q;rcases q with q|q
 ·exact h pn s G H x y v u Q I B j q
 exact h' pn s G H x y v u Q I B j q
def uc(b:Expr)(h:op≠.In:=by decide)(h2:op≠.NotIn:=by decide):behindInMarks op b=false:=by
 have e1:(op==CmpOp.In)=false:=by cases op <;> first|rfl|exact absurd rfl h
 have e2:(op==CmpOp.NotIn)=false:=by cases op <;> first|rfl|exact absurd rfl h2
 cases b <;> simp[behindInMarks,e1,e2]
def Rk(ho:OpR X (compareOp op) r)(Z:PE X a ta)(N:PE X b tb)(M:behindInMarks op b=false):PE X (.Compare a [op] [b] pos) (tOp r ta tb):=by
 intro pn s G H Q I h;exact wpAny_Compare1 (binT Z N I h λv u s2 x y H2 I2 B j q=>ho pn s2 G H2 x y v u Q I2 B j q) M
def Ct(t:TE):TT:=λG H Q=>t G H λx H'=>∃k,x=.bl k/\Q k H'
def R9(ho:OpR X (compareOp op) r)(ha:PE X a ta)(hb:PE X b tb)(hm:behindInMarks op b=false):PT X (.Compare a [op] [b] pos) (Ct (tOp r ta tb)):=by
 intro pn s G H Q I h;refine wpAny_isTrue_Compare1 (thn (ha pn s G H _ I h) λv s1 ⟨x,H1,I1,B,Z⟩=>thn (hb pn s1 G H1 _ I1 Z) λu s2 ⟨y,H2,I2,q,N⟩ =>
  thn (ho pn s2 G H2 x y v u _ I2 B q N) λc s3 ⟨z,H3,I3,j,k,e,M⟩=>?_) hm
 subst e;cases j;exact wpAny_truthy_bool ⟨H3,I3,M⟩
def TruV(K:W.Frag)(x:V)(H:Hp)(k:Bool):Prop :=
 match x with
 |.non=>k=false
 |.bl b=>k=b
 |.int i=>k=(i != 0)
 |.str y=>y.length<=sizeLine/\k=((y.length:Int) != 0)
 |.byt y=>y.size<=sizeLine/\k=((y.size:Int) != 0)
 |.ref p=>(∃xs,SqL K H p xs/\k=!xs.isEmpty)\/(∃xs,SqT K H p xs/\k=!xs.isEmpty)\/∃kvs,H p=some (.dK kvs)/\k=!kvs.isEmpty
 |_=>False
def T9{κ:Type}{j:List (κ×V)}{vs:List (κ×Value)}(r:KV j vs):(!vs.isEmpty)=!j.isEmpty:=by
 cases r <;> rfl
def bo{xs:List V}{its:List Value}(r:Vals xs its):(!its.toArray.isEmpty)=!xs.isEmpty:=by
 cases r <;> simp
def qm:(sizeLine:Nat)<2 ^ 63:=by rw[sizeLine_eq];decide
def Gn:TruR X (λx H Q=>∃k,TruV X.K x H k/\Q k H):=by
 intro pn s G H x v Q I N h;obtain⟨k,e,q⟩:=h;have hl:=qm;have hs:sizeLine=16777216:=sizeLine_eq;cases x with
 |non =>
  cases N
  have j:k=false:=e;subst j;exact truthy_none ⟨H,I,q⟩
 |bl b =>
  cases N
  have j:k=b:=e;subst j;exact wpAny_truthy_bool ⟨H,I,q⟩
 |int i =>
  obtain⟨t,rfl⟩:=N;have j:k=(i != 0):=e;subst j;exact PySem.P.truthy_int ⟨H,I,q⟩
 |str y =>
  obtain⟨t,rfl⟩:=N;obtain⟨hy,j⟩:y.length<=sizeLine/\k=((y.length:Int) != 0):=e;subst j;exact PySem.P.truthy_str (by omega) ⟨H,I.tok _,q⟩
 |byt y =>
  obtain⟨t,rfl⟩:=N;obtain⟨hy,j⟩:y.size<=sizeLine/\k=((y.size:Int) != 0):=e;subst j;exact W.truthy_bytes (by omega) ⟨H,I.tok _,q⟩
 |ref p =>
  cases N
  have j:(∃xs,SqL X.K H p xs/\k=!xs.isEmpty)\/(∃xs,SqT X.K H p xs/\k=!xs.isEmpty)\/∃B,H p=some (.dK B)/\k=!B.isEmpty:=e;rcases j with⟨xs,Z,j⟩|⟨xs,Z,j⟩|⟨B,Z,j⟩
  ·subst j;obtain⟨its,r,pl,hz⟩:=I.list Z;have M:=r.length;exact wpAny_truthy_list pl.isList (by simp only[zap];omega) ⟨H,I.tok _,by rw[bo r];exact q⟩
  ·subst j;obtain⟨its,r,pl,hz⟩:=I.tuple Z;have M:=r.length;exact truthy_tuple pl (by simp only[zap];omega) ⟨H,I.tok _,by rw[bo r];exact q⟩
  subst j;obtain⟨hz,hS,vs,r,m⟩:B.length<=sizeLine/\(p==sysModules)=false/\∃vs,KV B vs/\s.heap.DictOf (yq X.prog X.w) p vs:=I.hok p _ Z;have M:B.length=vs.length:=Paired.length r;exact wpAny_truthy_dict hS m (by omega) ⟨H,I.tok _,by rw[T9 r];exact q⟩
 |_=>exact(show False from e).elim
def Ov(M:PE X a ta)(B:∀ whole,isTrue a X.env whole=(do let v <- whole;standAt a.pos;holding [v] (truthy v))) :
  PT X a (λG H Q=>ta G H λx H'=>∃k,TruV X.K x H' k/\Q k H'):=by
 intro pn s G H Q I h;exact isTrue_plain (thn (M pn s G H _ I h) λv s1 ⟨x,H1,N,j,q⟩=>Gn pn s1 G H1 x v Q N j q) (B _)
def Ux:OpR X (binaryOp .Add) (λx y H Q=>∃i j,x=.str i/\y=.str j/\i.length+j.length<=sizeLine/\Q (.str (i++j)) H):=by
 intro pn s G H x y v u Q I M B h;obtain⟨i,j,rfl,rfl,N,q⟩:=h;obtain⟨t,rfl⟩:=M;obtain⟨t',rfl⟩:=B;exact add_str (λt' tk=>⟨.str (i++j),H,I.tok _,⟨_,rfl⟩,q⟩) N
def jw{x:V}{us:List Value}(r:Vals [x] us):∃u,us=[u]/\RelV x u:=by
 cases r with
 |cons r1 r2=>cases r2;exact⟨_,rfl,r1⟩
def Pz(r:Vals [x,y] us):∃u w',us=[u,w']/\RelV x u/\RelV y w':=by
 cases r with
 |cons r1 r2 =>
  cases r2 with
  |cons r3 r4=>cases r4;exact⟨_,_,rfl,r1,r3⟩
def Po(B:X.calm=true):ux X (.builtin "min") (λxs H Q=>∃i j,xs=[.int i,.int j]/\Q (.int (if j<i then j else i)) H):=by
 intro pn s G H xs us Q I r h;obtain⟨i,j,rfl,q⟩:=h;obtain⟨u,M,rfl,⟨t,rfl⟩,⟨t',rfl⟩⟩:=Pz r;refine min_two_ints (I.ok.hd B) λh' tk k=>⟨_,H,I.kept k,?_,q⟩;by_cases hj:j<i
 ·rw[if_pos hj,if_pos hj];exact⟨_,rfl⟩
 rw[if_neg hj,if_neg hj];exact⟨_,rfl⟩
def Pp:ux X (.type "int") (λxs H Q=>(∃i,xs=[.int i]/\Q (.int i) H)\/∃k,xs=[.bl k]/\Q (.int (if k then 1 else 0)) H):=by
 intro pn s G H xs us Q I r h;rcases h with⟨i,rfl,q⟩|⟨k,rfl,q⟩
 ·obtain⟨u,rfl,t,rfl⟩:=jw r;exact call_int_int ⟨.int i,H,I,⟨_,rfl⟩,q⟩
 obtain⟨u,rfl,j⟩:=jw r;cases j;exact call_int_bool ⟨.int (if k then 1 else 0),H,I.tok _,⟨_,rfl⟩,q⟩
end
structure ObjM(h:Heap)(x dx C:Addr)(mA:Str->Option Value):Prop where
 obj:h.get? x=some (W.instObj C dx)
 ns:h.Ns1 dx mA
 ne:dx≠x
def Q6{h:Heap}{mA:Str->Option Value}(n:h.Ns1 dx mA):∃od,h.get? dx=some od/\∀name,W.lookIn name od=some (mA name):=by
 obtain⟨o,es,ep,ho,N,M,_,I⟩:=n;refine⟨o,ho,λname=>?_⟩;have e:=I name;unfold nsFind findBy at e;rw[<- Array.find?_toList]at e;unfold W.lookIn;rw[N]
 dsimp only
 split
 ·rename_i y q;rw[q]at e;exact congrArg some e
 rename_i q;rw[q]at e;have a:es.toList.any (·.refKey)=false:=by
  rw[List.any_eq_false];intro y B;obtain⟨z,t,j⟩:=M y (Array.mem_toList_iff.mp B);simp[DictEntry.refKey,j]
 have Z:¬ es.toList.any (·.refKey)=true:=by rw[a];exact Bool.false_ne_true
 rw[if_neg Z];exact congrArg some e
def ObjM.look(I:ObjM h x dx C mA):∃od,W.InstAt h x (W.instObj C dx) C (some od)/\∀name,W.lookIn name od=some (mA name) :=
 let ⟨od,ho,hl⟩:=Q6 I.ns
 ⟨od,⟨I.obj,rfl,rfl,ho⟩,hl⟩
variable{prog:Program}{A:Around}{K:W.Frag}{x dx C f:Addr}{mA:Str->Option Value}{name:Str}{v:Value}
def Hh(X:K.In s.heap)(I:ObjM s.heap x dx C mA)(M:W.plainGet K C name=true)(B:W.hasDictIn K C=true)(N:W.findIn K (.ref C) name=some none)(q:mA name=some v)(j:W.handedIn v=true)(h:Q v {s with toks:=s.toks+1}) :
  wpAny (model prog w) A (getAttr (.ref x) name expr) Q E s:=by
 obtain⟨Z,J,hl⟩:=I.look;exact W.get_value X J (W.plainGet_of M).1 (W.findObj_own B N rfl (by rw[hl,q])) j h
def Nu(X:K.In s.heap)(I:ObjM s.heap x dx C mA)(j:W.plainGet K C name=true)(N:W.findIn K (.ref C) name=some (some (.ref f)))(M:W.isFn K (.ref f)=true)(B:mA name=none)(h:Q (.ref f,[.ref x]) s) :
  wpAny (model prog w) A (getMethod (.ref x) name pl) Q E s:=by
 obtain⟨q,J,hl⟩:=I.look;exact W.method_fn X J (W.plainGet_of j).1 (W.plainGet_of j).2 N (beq_iff_eq.mp M) (by show(W.lookIn name q).map (·.isSome)=some false;rw[hl,B];rfl) h
def Km(X:K.In s.heap)(I:ObjM s.heap x dx C mA)(hs:W.findIn K (.ref C) "__setattr__" = some (some (.builtin "object.__setattr__")))(hp:W.plainOver K C=true)(ht:W.takerIn K C name=some none)(hh:W.hasDictIn K C=true)(hw:PySem.Within mA ns)(hsz:ns.length<=sizeLine)(h:∀ h',ObjM h' x dx C (λy=>if y=name then some v else mA y)->Heap.SameBut dx s.heap h'->Q () {s with heap:=h',toks:=s.toks+2}) :
  wpAny (model prog w) A (setAttr (.ref x) name v) Q E s:=by
 obtain⟨od,J,hl⟩:=I.look;refine W.set_plain X J hs (W.osa_open (s:={s with toks:=s.toks+1}) (r:=none) X J hp ht λb=>?_);obtain⟨cd,hc,M⟩:=W.any_some hh;have Z:s.heap.get? x=some ⟨.ref C,some dx,.plain,#[]⟩:=I.obj;refine zaa (zab (zaa (zaa (wpAny_loadPart Z (zaa (W.Looks.here (s:={s with toks:=s.toks+1}) (W.looks_clsIn X hc) ?_))))));rw[M];refine zab (a:=some dx) (zaa (zab (zaa ?_)));refine wpAny_nsSet1 (s:={s with toks:=s.toks+1}) I.ns λh' q j=>?_;obtain⟨oD,a0,a4,B,hdD,N⟩:=q.count (PySem.Within.cons name v hw);refine zaa (wpAny_lookBehind B (by rw[hdD];exact pastItsLine_dict (zak N (by rw[zLc];omega))) ?_)
 exact zab (h _ ⟨(j.2 _ (Ne.symm I.ne)).trans I.obj,q,I.ne⟩ j)
def N9(X:K.In s.heap)(q:W.makesIn K C=true)(hi:W.findIn K (.ref C) "__init__" = some (some (.ref f)))(B:W.typeIn K (.ref f)=some (.type "function"))(h:codeAny (model prog w) (A.under (.builtin "type.__call__" ⟨.ref C::vs,kw⟩)) (.call (.ref f) ⟨.ref (s.heap.objs.size+1)::vs,kw⟩) (W.InitBack (s.heap.objs.size+1) R)
   {s with heap:=(s.heap.push W.emptyDict).push (W.instObj C s.heap.objs.size)}) :
  codeAny (model prog w) A (.call (.ref C) ⟨vs,kw⟩) R s:=by
 obtain⟨M,g,d,t,I⟩:=s;exact W.make_core (W.makes_of X q) (W.looks_findIn X hi) (λj=>W.bind_fn X j B) (.inl rfl) h
def putF(f:Str)(v:V):List (Str×V)->List (Str×V)
 |[]=>[(f,v)]
 |(g,x)::r=>if g=f then(g,v)::r else(g,x)::putF f v r
theorem gq(f g:Str)(v:V):∀fs:List (Str×V),(putF f v fs).lookup g=if g=f then some v else fs.lookup g
 |[]=>by
  show List.lookup g [(f,v)]=_;by_cases h:g=f
  ·have j:(g==f)=true:=beq_iff_eq.mpr h;simp only[List.lookup,j,if_pos h]
  have j:(g==f)=false:=beq_eq_false_iff_ne.mpr h;simp only[List.lookup,j,if_neg h]
 |(k,x)::r=>by
  have q:=gq f g v r;rw[show putF f v ((k,x)::r)=(if k=f then(k,v)::r else(k,x)::putF f v r) from rfl]
  by_cases hk:k=f
  ·rw[if_pos hk];by_cases h:g=k
   ·have j:(g==k)=true:=beq_iff_eq.mpr h;simp only[List.lookup,j,if_pos (h.trans hk)]
   have j:(g==k)=false:=beq_eq_false_iff_ne.mpr h;simp only[List.lookup,j,if_neg (λe:g=f=>h (e.trans hk.symm))]
  rw[if_neg hk];by_cases h:g=k
  ·have j:(g==k)=true:=beq_iff_eq.mpr h;simp only[List.lookup,j,if_neg (λe:g=f=>hk (h.symm.trans e))]
  have j:(g==k)=false:=beq_eq_false_iff_ne.mpr h;simp only[List.lookup,j];exact q
theorem fg(f:Str)(v:V):∀fs:List (Str×V),f∈(putF f v fs).map (·.1)/\∀g,g∈fs.map (·.1)->g∈(putF f v fs).map (·.1)
 |[]=>⟨by simp[putF],λg h=>by simp at h⟩
 |(k,x)::r=>by
  obtain⟨i1,i2⟩:=fg f v r;rw[show putF f v ((k,x)::r)=(if k=f then(k,v)::r else(k,x)::putF f v r) from rfl]
  by_cases hk:k=f
  ·rw[if_pos hk];subst hk;exact⟨by simp,λg h=>by simpa using h⟩
  rw[if_neg hk];refine⟨?_,λg h=>?_⟩
  ·rw[List.map_cons];exact zal _ i1
  rw[List.map_cons]at h ⊢;rcases zam.mp h with e|e
  ·exact zam.mpr (.inl e)
  exact zal _ (i2 g e)
theorem gy(f:Str)(v:V):∀fs:List (Str×V),(putF f v fs).length<=fs.length+1
 |[]=>by simp[putF]
 |(k,x)::r=>by
  have j:=gy f v r;rw[show putF f v ((k,x)::r)=(if k=f then(k,v)::r else(k,x)::putF f v r) from rfl]
  by_cases hk:k=f
  ·rw[if_pos hk,zLc,zLc];omega
  rw[if_neg hk,zLc,zLc];omega
def RelO.some_of{v:V}{o:Option Value}(r:RelO (some v) o):∃u,o=some u/\RelV v u:=by
 cases o with
 |none=>exact(show False from r).elim
 |some u=>exact⟨u,rfl,r⟩
def RelO.none_of{o:Option Value}(r:RelO none o):o=none:=by
 cases o with
 |none=>rfl
 |some u=>exact(show False from r).elim
def Qn{v:V}(r:RelV v u):W.handedIn u=true:=by
 cases v with
 |non=>cases (show u=Value.none from r);rfl
 |bl b=>cases (show u=Value.bool b from r);rfl
 |int i=>obtain⟨t,e⟩:=(show ∃t,u=Value.int i t from r);cases e;rfl
 |str x=>obtain⟨t,e⟩:=(show ∃t,u=Value.str x t from r);cases e;rfl
 |byt b=>obtain⟨t,e⟩:=(show ∃t,u=Value.bytes b t from r);cases e;rfl
 |flt b=>obtain⟨t,e⟩:=(show ∃t,u=Value.float b t from r);cases e;rfl
 |ref a=>cases (show u=Value.ref a from r);rfl
 |ty n=>cases (show u=Value.type n from r);rfl
variable{fs:List (Str×V)}
def Zv(j:HOk P w H h)(e:H a=some (.ins C dx fs)):∃mA,ObjM h a dx C mA/\(∀f,RelO (fs.lookup f) (mA f))/\PySem.Within mA (fs.map (·.1))/\fs.length<=1000/\H dx=some (.own a):=by
 obtain⟨d,z,ne,B,mA,n,r,q⟩:=(show wj P w H h a (.ins C dx fs) from j a _ e);exact⟨mA,⟨B,n,ne⟩,r,q,z,d⟩
structure Cls(K:W.Frag)(C:Addr):Prop where
 pg:W.plainGet K C Str.empty=true
 hd:W.hasDictIn K C=true
 po:W.plainOver K C=true
 sa:W.findIn K (.ref C) "__setattr__" = some (some (.builtin "object.__setattr__"))
def Cls.get{K:W.Frag}{C:Addr}(c:Cls K C)(f:Str):W.plainGet K C f=true:=c.pg
def ji(K:W.Frag)(C:Addr)(f:Str):Prop:=W.findIn K (.ref C) f=some none
def ji.taker{K:W.Frag}{C:Addr}{f:Str}(n:ji K C f):W.takerIn K C f=some none:=by
 unfold W.takerIn;rw[show W.findIn K (.ref C) f=some none from n];rfl
structure Con(K:W.Frag)(C:Addr)(f:Str)(v:V)(u:Value):Prop where
 at_:W.findIn K (.ref C) f=some (some u)
 rel:RelV v u
 get:W.specialIn K u "__get__" = some none
 cp:W.copiedNames.contains f=false
structure Meth(K:W.Frag)(C:Addr)(m:Str)(f:Addr):Prop where
 at_:W.findIn K (.ref C) m=some (some (.ref f))
 fn:W.isFn K (.ref f)=true
 kp:W.keepIn K (.ref f)=true
variable{f:Str}{v:V}
def Ta(I:Inv X pn G H s)(e:H a=some (.ins C dx fs))(c:Cls X.K C)(n:ji X.K C f)(l:fs.lookup f=some v)(h:∀ u s',Inv X pn G H s'->RelV v u->Q u s'):wpAny (model X.prog X.w) A (getAttr (.ref a) f b) Q E s:=by
 obtain⟨mA,O,r,_,_,_⟩:=Zv I.hok e;obtain⟨u,hu,j⟩:=RelO.some_of (v:=v) (o:=mA f) (by rw[<- l];exact r f)
 exact Hh I.kIn O (c.get f) c.hd n hu (Qn j) (h u _ (I.tok _) j)
def bq(I:Inv X pn G H s)(e:H a=some (.ins C dx fs))(c:Cls X.K C)(k:Meth X.K C m g)(l:fs.lookup m=none)(h:Q (.ref g,[.ref a]) s):wpAny (model X.prog X.w) A (getMethod (.ref a) m pl) Q E s:=by
 obtain⟨mA,O,r,_,_,_⟩:=Zv I.hok e;have j:mA m=none:=RelO.none_of (by rw[<- l];exact r m)
 exact Nu I.kIn O (c.get m) k.at_ k.fn j h
def Us(I:Inv X pn G H s)(e:H a=some (.ins C dx fs))(c:Cls X.K C)(n:ji X.K C f)(hl:fs.length<1000)(M:RelV y u)(h:∀ s',Inv X pn G (upd H a (.ins C dx (putF f y fs))) s'->Q () s'):wpAny (model X.prog X.w) A (setAttr (.ref a) f u) Q E s:=by
 obtain⟨mA,O,r,j,_,ho⟩:=Zv I.hok e;have N:(fs.map (·.1)).length<=sizeLine:=by rw[zLm,sizeLine_eq];omega
 refine Km I.kIn O c.sa c.po n.taker c.hd j N λh' O' B=>h _ ?_;have hd:∃o,h'.get? dx=some o:=let ⟨o,_,_,e',_⟩:=O'.ns;⟨o,e'⟩
 refine I.write (x:=a) (e:=dx) (by rw[e];exact True.intro) (.inr ho) (λb q hb z=>(B.2 b hb).trans z) hd ?_
 refine⟨by rw[y0 O.ne];exact ho,?_,O.ne,O'.obj,_,O'.ns,λg=>?_,λg Z=>?_⟩
 ·have:=gy f y fs;omega
 ·show RelO ((putF f y fs).lookup g) (if g=f then some u else mA g)
  rw[gq];by_cases q:g=f
  ·rw[if_pos q,if_pos q];exact M
  rw[if_neg q,if_neg q];exact r g
 by_cases q:g=f
 ·rw[q];exact(fg f y fs).1
 refine(fg f y fs).2 g (j g λz=>Z ?_);show(if g=f then some u else mA g)=none
 rw[if_neg q];exact z
def Inv.made(I:Inv X pn G H s):Inv X pn G (upd (upd H s.heap.objs.size (.own (s.heap.objs.size+1))) (s.heap.objs.size+1) (.ins C s.heap.objs.size []))
  {s with heap:=(s.heap.push W.emptyDict).push (W.instObj C s.heap.objs.size)}:=by
 have e1:(s.heap.push W.emptyDict).get? s.heap.objs.size=some W.emptyDict:=zad s.heap rfl;have e2:((s.heap.push W.emptyDict).push (W.instObj C s.heap.objs.size)).get? (s.heap.objs.size+1)=some (W.instObj C s.heap.objs.size):=by
  have:=zad (s.heap.push W.emptyDict) (o:=W.instObj C s.heap.objs.size) rfl
  rwa [Heap.size_push]at this
 have M:(s.heap.push W.emptyDict).Ns s.heap.objs.size (λ_=>none):=⟨W.emptyDict,#[],_,e1,rfl,(λe B=>absurd B (by simp)),λ_=>rfl⟩
 have N:=I.laid (a:=s.heap.objs.size) (o:=.own (s.heap.objs.size+1)) (h':=s.heap.push W.emptyDict) (t':=s.toks) (λb u q=>zac _ q) (zaj _) ⟨_,e1⟩;refine N.laid (a:=s.heap.objs.size+1) (o:=.ins C s.heap.objs.size []) (t':=s.toks) (λb u q=>zac _ q) (Nat.le_of_eq (Heap.size_push _ _)) ?_;have ne:s.heap.objs.size≠s.heap.objs.size+1:=Nat.ne_of_lt (Nat.lt_succ_self _);refine⟨by rw[y0 ne,zm],Nat.zero_le _,ne,e2,λ_=>none,(Heap.Ns1.of_empty M).at λo q=>zac _ q,λ_=>True.intro,λy j=>absurd rfl j⟩
def Gc(q:attributeBase e f env (eval e env)=eval e env)(h:wpAny (model prog w) A (eval e env) (λo j=>wpAny (model prog w) A (getAttr o f true) Q E j) E s):wpAny (model prog w) A (eval (.Attribute e f pos) env) Q E s :=
 Attribute_any_ h (by rw[arm_eval_Attribute,q])
def tFld(K:W.Frag)(ta:TE)(f:Str):TE:=λG H Q=>ta G H λx H1=>∃a C dx fs v,x=.ref a/\H1 a=some (.ins C dx fs)/\Cls K C/\ji K C f/\fs.lookup f=some v/\Q v H1
def sFld(K:W.Frag)(ta tv:TE)(f:Str):TS:=λD G H=>tv G H λy H1=>ta G H1 λx H2=>∃a C dx fs,x=.ref a/\H2 a=some (.ins C dx fs)/\Cls K C/\ji K C f/\fs.length<1000 /\
 D.nx G (upd H2 a (.ins C dx (putF f y fs)))
section
variable{o e value:Expr}{pos pos':Pos}{ta tv:TE}
def L9(M:PE X e ta)(N:attributeBase e f X.env (eval e X.env)=eval e X.env):PE X (.Attribute e f pos) (tFld X.K ta f):=by
 intro pn s G H Q I h;refine Gc N (thn (M pn s G H _ I h) λu s1 Zh=>?_);obtain⟨x,H1,I1,j,a,C,dx,fs,v,ex,Z,c,n,l,q⟩:=Zh;subst ex;obtain rfl:u=Value.ref a:=j;exact Ta I1 Z c n l λu' s2 I2 B=>⟨v,H1,I2,B,q⟩
def L7(ha:PE X o ta)(Z:PE X value tv)(hs:swapsWith value (some (.Attribute o f pos')) pos.line X.env=pure false):PS X (.Assign [.Attribute o f pos'] value pos) (sFld X.K ta tv f):=by
 intro pn s G H D I h;refine plainObj_wpAny_Assign_Attribute (thn (Z pn s G H _ I h) λu s1 ⟨y,H1,I1,j,q⟩=>thn (ha pn s1 G H1 _ I1 q) λN s2 Zh=>?_) hs;obtain⟨x,H2,I2,B,a,C,dx,fs,ex,ea,c,n,l,M⟩:=Zh;subst ex;obtain rfl:N=Value.ref a:=B;exact Us I2 ea c n l j λs3 I3=>⟨G,_,I3,M⟩
end
variable{Q:Value->Shared->Prop}{c:Value}{b:Bool}
inductive TyOf(K:W.Frag)(H:Hp):V->Value->Prop where
 |non:TyOf K H .non (.type "NoneType")
 |bl (x:Bool):TyOf K H (.bl x) (.type "bool")
 |int (i:Int):TyOf K H (.int i) (.type "int")
 |str (x:Str):TyOf K H (.str x) (.type "str")
 |flt (x:UInt64):TyOf K H (.flt x) (.type "float")
 |lst {a:Addr} {xs:List V} (e:H a=some (.lst xs)):TyOf K H (.ref a) (.type "list")
 |frz {a:Addr} {o:Obj} {xs:List V} (e:H a=some (.frz o (.lst xs))):TyOf K H (.ref a) (.type "list")
 |tup {a:Addr} {xs:List V} (e:H a=some (.tup xs)):TyOf K H (.ref a) (.type "tuple")
 |dK {a:Addr} {kvs:List (Key×V)} (e:H a=some (.dK kvs)):TyOf K H (.ref a) (.type "dict")
 |dT {a:Addr} {kvs:List (List Key×V)} (e:H a=some (.dT kvs)):TyOf K H (.ref a) (.type "dict")
 |ins {a C dx:Addr} {fs:List (Str×V)} (e:H a=some (.ins C dx fs)) (cl:Cls K C) (ha:W.findIn K (.ref C) "__class__" = some (some (.builtin "object.__class__")))
   (hn:W.specialIn K (.builtin "object.__class__") "__get__" = some (some (.builtin "getset_descriptor.__get__"))) (htk:W.takesIn K (.builtin "object.__class__")=some true)
   (hm:W.mroIn K C (.type "object")=some true):TyOf K H (.ref a) (.ref C)
def uk{x:V}(I:Inv X pn G H s)(j:RelV x u)(B:TyOf X.K H x t)(e:W.kitOne X.K t c=some b)(h:∀ tk,Q (.bool b) {s with toks:=tk}) :
  wpAny (model X.prog X.w) A (call (.builtin "isinstance") [u,c]) Q E s:=by
 cases B with
 |non=>cases (show u=Value.none from j);exact W.kia_one W.kitx_none I.kIn True.intro e (λz=>nomatch z) h
 |bl y=>cases (show u=Value.bool y from j);exact W.kia_one W.kitx_bool I.kIn True.intro e (λz=>nomatch z) h
 |int i=>obtain⟨t,q⟩:=(show ∃t,u=Value.int i t from j);cases q;exact W.kia_one W.kitx_int I.kIn True.intro e (λz=>nomatch z) h
 |str y=>obtain⟨t,q⟩:=(show ∃t,u=Value.str y t from j);cases q;exact W.kia_one W.kitx_str I.kIn True.intro e (λz=>nomatch z) h
 |flt y=>obtain⟨t,q⟩:=(show ∃t,u=Value.float y t from j);cases q;exact W.kia_one W.kitx_float I.kIn True.intro e (λz=>nomatch z) h
 |@lst a xs ea =>
  cases (show u=Value.ref a from j)
  obtain⟨_,_,n,_,h1⟩:=(show wj X.prog X.w H s.heap a (.lst xs) from I.hok a _ ea);exact W.kia_one W.kitx_list I.kIn ⟨_,h1,rfl⟩ e (λz=>nomatch z) h
 |@frz a ob xs ea =>
  cases (show u=Value.ref a from j)
  obtain⟨_,_,_,n,_,h1⟩:=(show wj X.prog X.w H s.heap a (.frz ob (.lst xs)) from I.hok a _ ea);exact W.kia_one W.kitx_list I.kIn ⟨_,h1,rfl⟩ e (λz=>nomatch z) h
 |@tup a xs ea =>
  cases (show u=Value.ref a from j)
  obtain⟨_,_,_,p⟩:=(show wj X.prog X.w H s.heap a (.tup xs) from I.hok a _ ea);obtain⟨o,h1,h2,_⟩:=p.1;exact W.kia_one W.kitx_tuple I.kIn ⟨o,h1,h2⟩ e (λz=>nomatch z) h
 |@dK a kvs ea =>
  cases (show u=Value.ref a from j)
  obtain⟨_,_,vs,_,p⟩:=(show wj X.prog X.w H s.heap a (.dK kvs) from I.hok a _ ea);obtain⟨o,es,M,h1,h2,_⟩:=p;exact W.kia_one W.kitx_dict I.kIn ⟨o,h1,h2.1⟩ e (λz=>nomatch z) h
 |@dT a kvs ea =>
  cases (show u=Value.ref a from j)
  obtain⟨_,_,xs,_,o,es,M,h1,h2,_⟩:=(show wj X.prog X.w H s.heap a (.dT kvs) from I.hok a _ ea);exact W.kia_one W.kitx_dict I.kIn ⟨o,h1,h2.1⟩ e (λz=>nomatch z) h
 |@ins a C dx fs ea cl ha hn htk hm =>
  cases (show u=Value.ref a from j)
  obtain⟨mA,O,_⟩:=Zv I.hok ea;obtain⟨N,J,_⟩:=O.look;exact W.kia_one (W.kitx_own (cl.get _) cl.hd ha hn htk hm) I.kIn J e (λz=>nomatch z) h
structure Room(k:Nat)(A:Around):Prop where
 hd:A.handled=none
 dp:A.depth+3*k+5<recursionLimit
 un:A.units+16*k+200<cLine
def Room.mono{j k:Nat}{A:Around}(r:Room k A)(h:j<=k):Room j A:=⟨r.hd,by have:=r.dp;omega,by have:=r.un;omega⟩
theorem Room.d{k k2:Nat}{A:Around}(h:Room k2 A)(e:k<=k2:=by omega):Room k A:=h.mono e
theorem Room.e{k j:Nat}{A:Around}(h:Room j A)(e:Nat.ble k j=true):Room k A:=h.mono (Nat.le_of_ble_eq_true e)
theorem Room.deeper{k:Nat}{A:Around}(r:Room (k+1) A)(env:Env):Room k (A.deeper env) :=
 ⟨r.hd,by have:=r.dp;show A.depth+1+3*k+5<_;omega,by have:=r.un;show A.units+3+16*k+200<_;omega⟩
def T4{A:Around}{us:List Value}{j:List (Str×Value)}:(A.under (.builtin "type.__call__" ⟨.ref C::us,j⟩)).depth=A.depth+1:=by
 first|rfl|simp[Around.under,Code.weight,Code.isCreation,Code.isGuard,Code.isCaller,Code.frames,Code.isFrame,guardIds]
def T3{A:Around}{us:List Value}{j:List (Str×Value)}:(A.under (.builtin "type.__call__" ⟨.ref C::us,j⟩)).units=A.units+1:=by
 first|rfl|simp[Around.under,Code.cUnits,Code.frames,Code.isFrame]
def Room.make{k:Nat}{A:Around}(r:Room (k+1) A)(C:Addr)(us:List Value)(j:List (Str×Value)):Room k (A.under (.builtin "type.__call__" ⟨.ref C::us,j⟩)) :=
 ⟨r.hd,by have:=r.dp;rw[T4];omega,by have:=r.un;rw[T3];omega⟩
theorem Room.depth{k:Nat}{A:Around}(r:Room k A):A.depth<recursionLimit:=by have:=r.dp;omega
theorem Room.units{k:Nat}{A:Around}(r:Room k A):A.units+64<cLine:=by have:=r.un;omega
def tNil:TA:=λ_ H Q=>Q [] H
def Sb(ta:TE)(j:TA):TA:=λG H Q=>ta G H λx H1=>j G H1 λxs H2=>Q (x::xs) H2
section
variable{e:Expr}{es:List Expr}{te:TE}{t:TA}{pos:Pos}
def sw:PA X [] tNil:=λ_ _ _ _ H Q I h=>Calls.spliced_nil ⟨[],H,I,.nil,h⟩
abbrev S_(X:Cx)(e:Expr)(es:List Expr):Prop:=starEach (e::es) X.env=(false,eval e X.env)::starEach es X.env
abbrev B_(X:Cx)(es:List Expr)(p:Pos):Prop:=(backTo p (starEach es X.env)).any (·.1)=false
def u0(Z:PE X e te)(hr:PA X es t)(N:S_ X e es:=by rfl):PA X (e::es) (Sb te t):=by
 intro pos pn s G H Q I h;rw[N];show wpAny _ _ (spliced ((false,eval e X.env)::backTo pos (starEach es X.env))) _ _ s;refine Calls.spliced_cons (thn (Z pn s G H _ I h) λu s1 Zh=>?_);obtain⟨x,H1,I1,q,M⟩:=Zh;exact thn (hr pos pn s1 G H1 _ I1 M) λus s2 ⟨xs,H2,I2,j,B⟩=>⟨x::xs,H2,I2,.cons q j,B⟩
def tTup(t:TA):TE:=λG H Q=>t G H λxs H1=>xs.length<=sizeLine/\∀p,H1 p=none->Q (.ref p) (upd H1 p (.tup xs))
def tLst(t:TA):TE:=λG H Q=>t G H λxs H1=>xs.length<=sizeLine/\∀p,H1 p=none->Q (.ref p) (upd H1 p (.lst xs))
def Rg {x1} (h:PA X es t):PE X (.Tuple es x1 pos) (tTup t):=by
 intro pn s G H Q I B;refine wpAny_Tuple_spliced (thn (h pos pn s G H _ I B) λus s1 ⟨xs,H1,j,r,z,q⟩=>⟨by rw[<- r.length];exact z,?_⟩)
 have M:H1 s1.heap.objs.size=none:=j.hok.fresh (zaj _);refine⟨.ref s1.heap.objs.size,upd H1 s1.heap.objs.size (.tup xs),j.laid (t':=s1.toks) (λb u e=>zac _ e) (zaj _) ?_,rfl,q _ M⟩;exact⟨z,us,r,⟨_,zad _ rfl,rfl,_,rfl⟩,_,zad _ rfl,rfl⟩
def L8(h:PA X es t):PE X (.List es pos) (tLst t):=by
 intro pn s G H Q I B;refine wpAny_List_spliced (thn (h pos pn s G H _ I B) λus s1 ⟨xs,H1,j,r,z,q⟩=>⟨by rw[<- r.length];exact z,?_⟩)
 have M:H1 s1.heap.objs.size=none:=j.hok.fresh (zaj _);refine⟨.ref s1.heap.objs.size,upd H1 s1.heap.objs.size (.lst xs),j.laid (t':=s1.toks) (λb u e=>zac _ e) (zaj _) ?_,rfl,q _ M⟩;exact⟨z,us,0,r,zad _ rfl⟩
end
abbrev Sp:=List V->Hp->VK->XK->Prop
abbrev CXT:=List Env->Hp->Shared->XK->Value->Shared->Prop
structure Env0(P:Program)(w:World)(K:W.Frag)(mg:Str->Option Value)(base:Heap)(A:Around)(outer:List Env)(s:Shared)(H:Hp):Prop where
 frames:A.frames=some outer
 mod:Mod K mg base
 bs:∀b o,base.get? b=some o->s.heap.get? b=some o/\H b=none
 bsz:base.objs.size<=s.heap.objs.size
 funs:s.heap.FunFrames base outer
 frf:∀b∈frs outer,H b=none
 hok:HOk P w H s.heap
 bare:AllBare s.gens
def CE(outer:List Env)(P:Program)(w:World)(H:Hp)(s:Shared)(Q:VK)(u:Value)(s':Shared):Prop :=
 ∃v H',s'.os=s.os/\AllBare s'.gens/\Un (frs outer) [] H H' s.heap s'.heap/\HOk P w H' s'.heap/\RelV v u/\Q v H'
def CR(CX:CXT)(outer:List Env)(P:Program)(w:World)(H:Hp)(s:Shared)(Q:VK)(E:XK)(r:Result)(s':Shared):Prop :=
 match r with
 |.ok (.ret u)=>CE outer P w H s Q u s'
 |.ok _=>False
 |.error e=>CX outer H s E e s'
structure FnOk(P:Program)(w:World)(K:W.Frag)(mg:Str->Option Value)(base:Heap)(CX:CXT)(k:Nat)(f:Addr)(fd:FuncData)(ps:List Str)(sp:Sp):Prop where
 len:∀vs H Q E,sp vs H Q E->vs.length=ps.length
 run:∀(A:Around)(outer:List Env)(s:Shared)(H:Hp)(args:Args)(us:List Value)(vs:List V)(Q:VK)(E:XK),Room k A->Env0 P w K mg base A outer s H->BindsTo s fd args (ps.zip us)->Vals vs us->sp vs H Q E ->
  codeAny (model P w) A (.call (.ref f) args) (CR CX outer P w H s Q E) s
def Env0.make{P:Program}{w:World}{K:W.Frag}{mg:Str->Option Value}{base:Heap}{A:Around}{outer:List Env}{s:Shared}{H:Hp}(e:Env0 P w K mg base A outer s H)(C:Addr)(us:List Value)(j:List (Str×Value)) :
  Env0 P w K mg base (A.under (.builtin "type.__call__" ⟨.ref C::us,j⟩)) outer s H:=⟨by first|exact e.frames|(simpa [Around.under,Code.envs,Code.isFrame,pushEnvs] using e.frames),e.mod,e.bs,e.bsz,e.funs,e.frf,e.hok,e.bare⟩
variable{s':Shared}
def Inv.env0(I:Inv X pn G H s):Env0 X.prog X.w X.K X.mg X.base X.A X.stack s H :=
 ⟨I.ok.frames,I.ok.mod,I.bs,zak I.ok.bsz I.sz,I.stack,I.stkFree,I.hok,I.bare⟩
def Inv.after{Q:VK}(I:Inv X pn G H s)(h:CE X.stack X.prog X.w H s Q u s'):EP X pn G Q u s':=by
 obtain⟨v,H',os,j,un,M,r,q⟩:=h;obtain⟨N,g,d,t,B⟩:=s';obtain rfl:B=s.os:=os;exact⟨v,H',I.call (h':=N) (g':=g) (d':=d) (t':=t) (ch:=[]) un M j (λb z=>absurd z (by simp)),r,q⟩
def Gx(sp:Sp)(dvs:List V)(E:XK)(t:TA):TE:=λG H Q=>t G H λvs H1=>sp (vs++dvs) H1 Q E
def O6(C:Addr)(m:Str)(sp:Sp)(dvs:List V)(E:XK)(ta:TE)(t:TA):TE:=λG H Q=>ta G H λx H1=>∃a dx fs,x=.ref a/\H1 a=some (.ins C dx fs)/\fs.lookup m=none /\
 t G H1 λvs H2=>sp (x::(vs++dvs)) H2 Q E
def Z9(C:Addr)(sp:Sp)(dvs:List V)(E:XK)(t:TA):TE:=λG H Q=>t G H λvs H1=>∀x dx,H1 x=none->H1 dx=none->dx≠x ->
 sp (.ref x::(vs++dvs)) (upd (upd H1 dx (.own x)) x (.ins C dx [])) (λv H2=>v=.non/\Q (.ref x) H2) E
def ua(K:W.Frag)(fd:FuncData)(ps:List Str)(ds:List Value):Prop :=
 ∀(s:Shared)(us:List Value),K.In s.heap->(us++ds).length=ps.length->BindsTo s fd ⟨us,[]⟩ (ps.zip (us++ds))
def ua.all{K:W.Frag}{fd:FuncData}{ps:List Str}(h:∀ us:List Value,us.length=ps.length->bindArgs fd ⟨us,[]⟩=pure (ps.zip us)):ua K fd ps []:=λs us _ hl=>by
 rw[List.append_nil]at hl ⊢;exact .of_eq (h us hl)
def dq(CX:CXT)(X:Cx)(E:XK):Prop:=∀(pn:List (Addr×Obj))(G:St)(H:Hp)(s:Shared)(e:Value)(s':Shared),Inv X pn G H s->CX X.stack H s E e s'->X.xe e s'
section
variable{CX:CXT}{k:Nat}{f:Addr}{fd:FuncData}{ps:List Str}{sp:Sp}{dvs:List V}{ds:List Value}{E:XK}{x m:Str}{p pos apos:Pos}{e o:Expr}{es:List Expr}{ta:TE}{t:TA}
def So{Q:VK}(F:FnOk X.prog X.w X.K X.mg X.base CX k f fd ps sp)(hr:Room k X.A)(N:ua X.K fd ps ds)(M:Vals dvs ds)(B:dq CX X E)(I:Inv X pn G H s)(r:Vals vs us)(h:sp (vs++dvs) H Q E):wpAny (model X.prog X.w) X.A (call (.ref f) us) (EP X pn G Q) X.xe s:=by
 have q:Vals (vs++dvs) (us++ds):=r.append M;have hl:(us++ds).length=ps.length:=by rw[<- q.length];exact F.len _ _ _ _ h
 refine wpAny_call (codeAny_mono (F.run X.A X.stack s H ⟨us,[]⟩ (us++ds) (vs++dvs) Q E hr I.env0 (N s us I.kIn hl) q h) λr s' j=>?_);cases r with
 |error e=>exact B pn G H s e s' I j
 |ok fl =>
  cases fl with
  |ret u=>exact I.after j
  |next=>exact False.elim j
  |brk=>exact False.elim j
  |cont=>exact False.elim j
def Rm(F:FnOk X.prog X.w X.K X.mg X.base CX k f fd ps sp)(hr:Room k X.A)(hg:Gl X x)(Z:X.mg x=some (.ref f))(hk:W.keepIn X.K (.ref f)=true)(hb:ua X.K fd ps ds)(hd:Vals dvs ds)(N:dq CX X E)(ha:PA X (e::es) t)(B:D_ x:=by decide)(he:S_ X e es:=by rfl)(j:B_ X es pos:=by rfl) :
  PE X (.Call (.Name x p) (e::es) [] pos) (Gx sp dvs E t):=by
 intro pn s G H Q I h;refine wpAny_Call_Name_kw (Wb I hg Z ?_ B);refine W.callWith_K (h₀:=X.base) I.ok.mod.kin hk (thn (ha pos pn s G H _ I h) λus s1 ⟨vs,H1,M,r,q⟩=>⟨M.kIn,?_⟩) he j;exact So F hr hb hd N M r q
def Rh{pl:Sem Bool}(he:PE X o ta)(c:Cls X.K C)(N:Meth X.K C m f)(F:FnOk X.prog X.w X.K X.mg X.base CX k f fd ps sp)(hr:Room k X.A)(hb:ua X.K fd ps ds)(hd:Vals dvs ds)(hx:dq CX X E)(ha:PA X (e::es) t)(j:S_ X e es:=by rfl)(B:B_ X es pos:=by rfl)(ht:eval (.Call (.Attribute o m apos) (e::es) [] pos) X.env=(do
   let M <- eval o X.env
   standAt apos.atName
   let (f,first) <- holding [M] (getMethod M m pl)
   callWith pos f first (backTo pos (starEach (e::es) X.env)) (backToKw pos (keywordEach [] X.env))):=by rfl) :
  PE X (.Call (.Attribute o m apos) (e::es) [] pos) (O6 C m sp dvs E ta t):=by
 intro pn s G H Q I h;refine W.methodCall_KW (pl:=pl) (thn (he pn s G H _ I h) λu s1 Zh=>?_) ht;obtain⟨x,H1,I1,rx,a,dx,fs,ex,ea,l,q⟩:=Zh;subst ex;obtain rfl:u=Value.ref a:=rx;refine bq I1 ea c N l ?_;refine W.callWith_K (first:=[.ref a]) (h₀:=X.base) I.ok.mod.kin N.kp (thn (ha pos pn s1 G H1 _ I1 q) λus s2 ⟨vs,H2,Z,r,q2⟩=>⟨Z.kIn,?_⟩) j B
 exact So (us:=.ref a::us) (vs:=.ref a::vs) F hr hb hd hx Z (.cons rfl r) q2
def Vq{pl:Sem Bool}(he:PE X o ta)(c:Cls X.K C)(M:Meth X.K C m f)(F:FnOk X.prog X.w X.K X.mg X.base CX k f fd ps sp)(hr:Room k X.A)(hb:ua X.K fd ps ds)(hd:Vals dvs ds)(Z:dq CX X E)(ht:eval (.Call (.Attribute o m apos) [] [] pos) X.env=(do
   let B <- eval o X.env
   standAt apos.atName
   let (f,first) <- holding [B] (getMethod B m pl)
   callWith pos f first (backTo pos (starEach [] X.env)) (backToKw pos (keywordEach [] X.env))):=by rfl) :
  PE X (.Call (.Attribute o m apos) [] [] pos) (O6 C m sp dvs E ta tNil):=by
 intro pn s G H Q I h;refine W.methodCall_KW (pl:=pl) (thn (he pn s G H _ I h) λu s1 Zh=>?_) ht;obtain⟨x,H1,j,N,a,dx,fs,ex,ea,l,q⟩:=Zh;subst ex;obtain rfl:u=Value.ref a:=N;refine bq j ea c M l ?_;exact W.callWith_K0 (first:=[.ref a]) j.kIn M.kp (So (us:=[.ref a]) (vs:=[.ref a]) F hr hb hd Z j (.cons rfl .nil) q)
structure Mk(K:W.Frag)(C f:Addr):Prop where
 makes:W.makesIn K C=true
 init:W.findIn K (.ref C) "__init__" = some (some (.ref f))
 fn:W.isFn K (.ref f)=true
 kp:W.keepIn K (.ref C)=true
def Of{Q:VK}(M:Mk X.K C f)(F:FnOk X.prog X.w X.K X.mg X.base CX k f fd ps sp)(hr:Room (k+1) X.A)(hb:ua X.K fd ps ds)(hd:Vals dvs ds)(hx:dq CX X E)(I:Inv X pn G H s)(r:Vals vs us)(h:∀ x dx,H x=none->H dx=none->dx≠x->sp (.ref x::(vs++dvs)) (upd (upd H dx (.own x)) x (.ins C dx [])) (λv H2=>v=.non/\Q (.ref x) H2) E) :
  wpAny (model X.prog X.w) X.A (call (.ref C) us) (EP X pn G Q) X.xe s:=by
 have N:=h (s.heap.objs.size+1) s.heap.objs.size (I.hok.fresh (Nat.le_succ _)) (I.hok.fresh (zaj _)) (Nat.ne_of_lt (Nat.lt_succ_self _));have q:=Inv.made (C:=C) I;have B:Vals (V.ref (s.heap.objs.size+1)::(vs++dvs)) (Value.ref (s.heap.objs.size+1)::(us++ds)):=.cons rfl (r.append hd);have hl:(Value.ref (s.heap.objs.size+1)::us++ds).length=ps.length:=by
  have e:=B.length;rw[F.len _ _ _ _ N]at e;exact e.symm
 refine wpAny_call (N9 (f:=f) I.kIn M.makes M.init (beq_iff_eq.mp M.fn) (codeAny_mono (F.run _ X.stack _ _ ⟨Value.ref (s.heap.objs.size+1)::us,[]⟩ (Value.ref (s.heap.objs.size+1)::(us++ds)) _ _ E (hr.make C us [])
  (q.env0.make C us []) (hb _ (Value.ref (s.heap.objs.size+1)::us) q.kIn hl) B N) λr s' j=>?_))
 cases r with
 |error e=>exact hx pn G _ _ e s' q j
 |ok fl =>
  cases fl with
  |ret u =>
   obtain⟨v,H',I3,Z,ev,q3⟩:=q.after j;subst ev;exact⟨Z,⟨V.ref (s.heap.objs.size+1),H',I3,rfl,q3⟩⟩
  |next=>exact False.elim j
  |brk=>exact False.elim j
  |cont=>exact False.elim j
def Jc(M:Mk X.K C f)(F:FnOk X.prog X.w X.K X.mg X.base CX k f fd ps sp)(hr:Room (k+1) X.A)(hg:Gl X x)(hm:X.mg x=some (.ref C))(hb:ua X.K fd ps ds)(hd:Vals dvs ds)(Z:dq CX X E)(ha:PA X (e::es) t)(B:D_ x:=by decide)(he:S_ X e es:=by rfl)(j:B_ X es pos:=by rfl) :
  PE X (.Call (.Name x p) (e::es) [] pos) (Z9 C sp dvs E t):=by
 intro pn s G H Q I h;refine wpAny_Call_Name_kw (Wb I hg hm ?_ B);refine W.callWith_K (h₀:=X.base) I.ok.mod.kin M.kp (thn (ha pos pn s G H _ I h) λus s1 ⟨vs,H1,N,r,q⟩=>⟨N.kIn,?_⟩) he j;exact Of M F hr hb hd Z N r q
end
structure zu(N P:List Str)(sc:Scope):Prop where
 kind:sc.kind=.function
 co:sc.isCoroutine=false
 gen:sc.isGenerator=false
 nd:N.Nodup
 pre:N.take P.length=P
 par:∀x∈P,sc.names.lookup x=some .local\/sc.names.lookup x=some .cell
 nofree:∀y∈sc.names,y.2≠.free
theorem Xn{j:Str->Option NameKind}{x:Str}:∀{binds:List (Str×Value)}{m:Str->Option Value},(∀v,(x,v)∉binds)->bindL j binds m x=m x
 |[],_,_=>rfl
 |(n,v)::r,m,h=>by
  unfold bindL;rw[Xn λw q=>h w (zal _ q)];split
  ·have:x≠n:=by rintro rfl;exact h v zao
   simp[this]
  rfl
theorem Xp{j:Str->Option NameKind}{x:Str}:∀{binds:List (Str×Value)}{m:Str->Option Value},(∀v,(x,v)∉binds)->bindC j binds m x=m x
 |[],_,_=>rfl
 |(n,v)::r,m,h=>by
  unfold bindC;rw[Xp λw q=>h w (zal _ q)];split
  ·rfl
  have:x≠n:=by rintro rfl;exact h v zao
  simp[this]
theorem Xo{j:Str->Option NameKind}{x:Str}{v:Value}:∀{P:List Str}{vs:List Value}{i:Nat}{m:Str->Option Value},P.Nodup->P[i]?=some x->vs[i]?=some v->j x=some .local ->
  bindL j (P.zip vs) m x=some v
 |[],_,_,_,_,h,_,_=>by simp at h
 |_::_,[],_,_,_,_,h,_=>by simp at h
 |p::P,w::vs,0,m,nd,h1,h2,hk=>by
  simp at h1 h2;subst h1;subst h2;show bindL j ((p,w)::P.zip vs) m p=_;unfold bindL;rw[Xn λv q=>(List.nodup_cons.mp nd).1 (List.of_mem_zip q).1,if_pos hk];simp
 |p::P,w::vs,i+1,m,nd,h1,h2,hk=>by
  show bindL j ((p,w)::P.zip vs) m x=_;unfold bindL;exact Xo (i:=i) (List.nodup_cons.mp nd).2 (by simpa using h1) (by simpa using h2) hk
theorem Xq{j:Str->Option NameKind}{x:Str}{v:Value}:∀{P:List Str}{vs:List Value}{i:Nat}{m:Str->Option Value},P.Nodup->P[i]?=some x->vs[i]?=some v->j x≠some .local ->
  bindC j (P.zip vs) m x=some v
 |[],_,_,_,_,h,_,_=>by simp at h
 |_::_,[],_,_,_,_,h,_=>by simp at h
 |p::P,w::vs,0,m,nd,h1,h2,hk=>by
  simp at h1 h2;subst h1;subst h2;show bindC j ((p,w)::P.zip vs) m p=_;unfold bindC;rw[Xp λv q=>(List.nodup_cons.mp nd).1 (List.of_mem_zip q).1,if_neg hk];simp
 |p::P,w::vs,i+1,m,nd,h1,h2,hk=>by
  show bindC j ((p,w)::P.zip vs) m x=_;unfold bindC;exact Xq (i:=i) (List.nodup_cons.mp nd).2 (by simpa using h1) (by simpa using h2) hk
def start(N:List Str)(vs:List V):St:=vs.map some++List.replicate (N.length-vs.length) none
def cxOf(CX:CXT)(P:Program)(w:World)(K:W.Frag)(mg:Str->Option Value)(base:Heap)(N:List Str)(j:Str)(scope:Scope)(f:Addr)(B:Value)(A:Around)(outer:List Env)(s:Shared)(H:Hp)(E:XK):Cx where
 prog:=P
 w:=w
 K:=K
 mg:=mg
 base:=base
 A:=A.deeper (envOfC j scope s.heap.objs.size f B)
 N:=N
 s₀:=s
 H_:=H
 env:=envOfC j scope s.heap.objs.size f B
 outer:=outer
 stack:=envOfC j scope s.heap.objs.size f B::outer
 ex:=[]
 calm:=true
 fn:=λ_=>true
 pn:=[]
 xe:=λe s'=>wpAny (model P w) (A.deeper (envOfC j scope s.heap.objs.size f B)) (leaving (envOfC j scope s.heap.objs.size f B) e) (λ_ q=>CX outer H s E e q) (λI q=>CX outer H s E I q) s'
def Ug{j:Scope}{n:Nat}{x:Str}(h:j.names.lookup x=some .cell):∃c,(cellsFrom n j.names []).lookup x=some c:=by
 have q:=W.cellsFrom_some j.names n [] (.inl h);exact Option.isSome_iff_exists.mp q
def Qj{CX:CXT}{P:Program}{w:World}{K:W.Frag}{mg:Str->Option Value}{base:Heap}{N ps:List Str}{j:Str}{scope:Scope}{f:Addr}{cd:Value}{A:Around}{outer:List Env}{s s1:Shared}{H:Hp}{E:XK}{us:List Value}{vs:List V}(S:zu N ps scope)(hd:A.handled=none)(B:Env0 P w K mg base A outer s H)(hl:vs.length=ps.length)(r:Vals vs us)(x:InCallC s s.heap.objs.size (bindL (envOfC j scope s.heap.objs.size f cd).kindOf (ps.zip us) λ_=>none) (cellsFrom (s.heap.objs.size+1) scope.names []) (bindC (envOfC j scope s.heap.objs.size f cd).kindOf (ps.zip us) λ_=>none) s1) :
  Inv (cxOf CX P w K mg base N j scope f cd A outer s H E) [] (start N vs) H s1:=by
 have a0:ps.length<=N.length:=by have:=congrArg List.length S.pre;rw[List.length_take]at this;omega
 obtain⟨h1,tk,rfl,hk⟩:=x.done;have I:∀b:Addr,b∉(cxOf CX P w K mg base N j scope f cd A outer s H E).ex:=λb z=>absurd (show b∈([]:List Addr) from z) (by simp)
 refine⟨⟨B.mod,S.kind,rfl,rfl,zaj _,λy z c h1 h2=>?_,λy M=>?_,λy c _ h=>?_,λ_=>hd,Around.frames_deeper B.frames,.inr ⟨rfl,rfl⟩,λb z=>absurd z (I b),B.bs,B.bsz,λb _ _=>I b,λb z=>absurd z (I b),B.funs,B.frf⟩,
  rfl,B.bare,Un.kept hk,⟨_,x.toInCall.ns,λi y v h1 h2 h3=>?_⟩,λy c h=>⟨_,x.cell y c h⟩,B.hok.fresh (zaj _),λy c h=>?_,λp hp=>absurd (show p∈([]:List (Addr×Obj)) from hp) (by simp),B.hok.kept hk,?_⟩
 ·exact name_of_addr x.apart (PySem.mem_of_lookup h1) (PySem.mem_of_lookup h2)
 ·have M:scope.names.lookup y=some .cell\/scope.names.lookup y=some .free:=M;rcases M with M|M
  ·exact Ug M
  exact absurd rfl (S.nofree _ (PySem.mem_of_lookup M))
 ·exact Nat.le_of_lt (x.above y c (PySem.mem_of_lookup h))
 ·have hi:i<vs.length:=by
   unfold start at h2;by_cases hi:i<vs.length
   ·exact hi
   rw[List.getElem?_append_right (by simpa using hi)]at h2
   rw[List.getElem?_replicate]at h2;split at h2 <;> cases h2
  have ha:vs[i]?=some v:=by
   unfold start at h2;rw[List.getElem?_append_left (by simpa using hi),zai]at h2
   cases e:vs[i]? with
   |none=>rw[e]at h2;cases h2
   |some a=>rw[e]at h2;cases h2;rfl
  obtain⟨u,hu,rv⟩:=r.get ha;have hp:ps[i]?=some y:=by
   rw[<- S.pre,List.getElem?_take_of_lt (by omega)];exact h1
  have Z:ps.Nodup:=by rw[<- S.pre];exact S.nd.sublist (List.take_sublist _ _)
  refine⟨u,rv,?_⟩;rcases S.par y (zan hp) with k|k
  ·exact .inl ⟨k,Xo Z hp hu k⟩
  obtain⟨c,e⟩:=Ug (n:=s.heap.objs.size+1) k;refine .inr ⟨.inl k,c,e,?_⟩;have q:=x.cell y c e;rw[Xq Z hp hu (by show scope.names.lookup y≠_;rw[k];decide)]at q
  exact q
 ·exact B.hok.fresh (Nat.le_of_lt (x.above y c (PySem.mem_of_lookup h)))
 unfold start;show _=N.length;rw[zLa,zLm,List.length_replicate];omega
def Dx{K:W.Frag}{mg:Str->Option Value}{k:Nat}{f:Addr}{dV kV a0 pm qZ ct oc:Value}{an od:Option Addr}{a4:Array (Option Value)}{sp:Sp}(lk:K.lookup f=some ⟨oc,od,.func (W.fnOf name qual params body scope dV kV a0 pm an qZ ct),a4⟩)(a6:W.codeIn K qZ qual=true)(S:zu N ps scope)(len:∀ vs H Q E,sp vs H Q E->vs.length=ps.length)(qY:∀ (A:Around) (outer:List Env) (s:Shared) (H:Hp) (vs:List V) (Q:VK) (E:XK),Room k (A.deeper (envOfC qual scope s.heap.objs.size f qZ))->sp vs H Q E ->
   ∃ t,PSs (cxOf CX P w K mg base N qual scope f qZ A outer s H E) body t/\t {nx:=λ_ H'=>Q .non H',rt:=Q} (start N vs) H) :
  FnOk P w K mg base CX (k+1) f (W.fnOf name qual params body scope dV kV a0 pm an qZ ct) ps sp:=by
 refine⟨len,λA outer s H a7 us vs Q E hr e0 hb r Z=>?_⟩;have hl:=len _ _ _ _ Z;have KX:K.In s.heap:=e0.mod.kin.keeps λb o e=>(e0.bs b o e).1;have a5:s.heap.NoLimit:=e0.mod.nolimit.keeps λb o e=>(e0.bs b o e).1;have B:∀y∈ps.zip us,scope.names.lookup y.1=some .local\/(scope.names.lookup y.1=some .cell/\((cellsFrom (s.heap.objs.size+1) scope.names []).lookup y.1).isSome=true):=λ⟨n,v⟩ hy=>by
  rcases S.par n (List.of_mem_zip hy).1 with q|q
  ·exact .inl q
  exact .inr ⟨q,W.cellsFrom_some _ _ _ (.inl q)⟩
 refine codeAny_call_function hr.depth (KX _ _ lk) rfl S.co S.gen rfl (W.codeRec_of KX a6) (hb _ _ _ _ ?_);refine wpAny_newFunctionEnv_cells S.kind B λenv he s1 x=>?_;subst he;refine⟨a5.keeps x.toInCall.keep,codeAny_func ?_⟩;obtain⟨t,ht,hq⟩:=qY A outer s H vs Q E (hr.deeper _) Z;have I:Inv (cxOf CX P w K mg base N qual scope f qZ A outer s H E) [] (start N vs) H s1:=Qj S hr.hd e0 hl r x;refine wpAny_mono (ht [] s1 (start N vs) H _ I hq) (λfl s' M=>?_) λe s' M=>M;have fin:∀{j:St}{H':Hp}{v:V}{u:Value},Inv (cxOf CX P w K mg base N qual scope f qZ A outer s H E) [] j H' s'->RelV v u->Q v H'->CE outer P w H s Q u s' :=
  λ{j H' v u} J rv q=>⟨v,H',J.os,J.bare,J.base,J.hok,rv,q⟩
 cases fl with
 |ret u =>
  obtain⟨v,j,H',J,rv,q⟩:=M;exact fin J rv q
 |next =>
  obtain⟨j,H',J,q⟩:=M;exact fin (v:=V.non) (u:=Value.none) J rfl q
 |brk =>
  obtain⟨_,_,_,q⟩:=M;exact False.elim q
 |cont =>
  obtain⟨_,_,_,q⟩:=M;exact False.elim q
section
variable{x:Str}{p pos:Pos}{e:Expr}{es:List Expr}{t:TA}{id T:String}{r:List V->Hp->VK->Prop}
def tCB(r:List V->Hp->VK->Prop)(t:TA):TE:=λG H Q=>t G H λvs H1=>r vs H1 Q
def Vr(hc:ux X (.builtin id) r)(hg:Gl X x)(hm:X.mg x=none)(N:bootBuiltins x=some (.builtin id))(ha:PA X (e::es) t)(Z:x≠"__name__":=by decide)(q:D_ x:=by decide)(he:S_ X e es:=by rfl)(j:B_ X es pos:=by rfl):PE X (.Call (.Name x p) (e::es) [] pos) (tCB r t):=by
 intro pn s G H Q I h;refine wpAny_Call_Name_kw (je I hg hm N ?_ Z q);exact PyProof.Rows.callWith_builtin1 (thn (ha pos pn s G H _ I h) λus s1 ⟨vs,H1,I1,B,M⟩=>hc pn s1 G H1 vs us Q I1 B M) he j
def Rl(hc:ux X (.type T) r)(hg:Gl X x)(hm:X.mg x=none)(N:bootBuiltins x=some (.type T))(ha:PA X (e::es) t)(Z:x≠"__name__":=by decide)(q:D_ x:=by decide)(he:S_ X e es:=by rfl)(j:B_ X es pos:=by rfl):PE X (.Call (.Name x p) (e::es) [] pos) (tCB r t):=by
 intro pn s G H Q I h;refine wpAny_Call_Name_kw (je I hg hm N ?_ Z q);exact PyProof.Rows.callWith_type1 (thn (ha pos pn s G H _ I h) λus s1 ⟨vs,H1,I1,B,M⟩=>hc pn s1 G H1 vs us Q I1 B M) he j
end
section
open PySem.SeqAt
open PySem.AutoSeq1 (wpAny_loadPart')
open PySem.MeetsSeq PySem.MeetsSeq2 PySem.MeetsSeq3
end
def cat_tup{t b:Addr}(ht:IsTup s.heap t vs.toArray)(hb:IsTup s.heap b ws.toArray)(hv:vs≠[])(h1:ws=[]->Q (.ref t) s)(h2:ws≠[]->Q (.ref s.heap.objs.size) {s with heap:=s.heap.push {cls:=.type "tuple",data:=.seq (vs++ws).toArray}})(hsz:vs.length+ws.length<=sizeLine):wpAny (model prog w) A (binaryOp .Add (.ref t) (.ref b)) Q E s:=by
 obtain⟨⟨cls,dd,data,Z⟩,ho,hc,n,hd⟩:=id ht;obtain⟨⟨a0,M,N,q⟩,j,I,n2,B⟩:=id hb;simp only at hc hd I B;subst hc hd I B;have e:vs.toArray++ws.toArray=(vs++ws).toArray:=by simp
 by_cases hw:ws=[]
 ·exact concat_meets ⟨_,ho,rfl⟩ ⟨_,j,rfl⟩ noFill_tuple_add seq_tuple_add PySem.F.slot_tuple_add PySem.F.entry_tuple_add (PySem.F.args_tuple_add_2 _ _)
   (tuple_addW1 t b vs.toArray ws.toArray n n2 dd M Z q (by simpa using hv) (by simp[hw])) ⟨ho,j,h1 hw⟩
 refine concat_meets ⟨_,ho,rfl⟩ ⟨_,j,rfl⟩ noFill_tuple_add seq_tuple_add PySem.F.slot_tuple_add PySem.F.entry_tuple_add (PySem.F.args_tuple_add_2 _ _)
  (tuple_addW2 t b vs.toArray ws.toArray n n2 dd M Z q (by simpa using hv) (by simpa using hw) (by rw[zap,zap];exact hsz)) ⟨ho,j,?_⟩
 rw[e];exact h2 hw
def sIx(n d:Nat):Option Int->Nat
 |none=>d
 |some v=>if v<0 then(v+(n:Int)).toNat else min v.toNat n
def sIx_none(n d:Nat):sIx n d none=d:=rfl
def sIx_nat(n d k:Nat):sIx n d (some (k:Int))=min k n:=by
 show(if (k:Int)<0 then((k:Int)+(n:Int)).toNat else min (k:Int).toNat n)=min k n
 rw[if_neg (by omega),Int.toNat_natCast]
def Fc(n d:Nat)(j:d<=n)(o:Option Int):sIx n d o<=n:=by
 cases o with
 |none=>exact j
 |some v =>
  show(if v<0 then(v+(n:Int)).toNat else min v.toNat n)<=n
  by_cases hv:v<0
  ·rw[if_pos hv];omega
  rw[if_neg hv];exact Nat.min_le_right _ _
def Pm(v:Int)(n d:Nat):(if v<0 then max (v+(n:Int)) 0 else min v (n:Int))=((sIx n d (some v):Nat):Int):=by
 show(if v<0 then max (v+(n:Int)) 0 else min v (n:Int))=(((if v<0 then(v+(n:Int)).toNat else min v.toNat n):Nat):Int)
 by_cases hv:v<0
 ·simp only[if_pos hv];omega
 simp only[if_neg hv];omega
def Tj(lo hi:Option Int)(n:Nat):Builtin.Slice.sliceAdjust lo hi 1 (n:Int)=(((sIx n 0 lo:Nat):Int),((sIx n n hi:Nat):Int)):=by
 have h1:¬ ((1:Int)<0):=by omega
 unfold Builtin.Slice.sliceAdjust;simp only[h1,if_false];refine Prod.ext ?_ ?_
 ·cases lo with
  |none=>rfl
  |some v=>exact Pm v n 0
 cases hi with
 |none=>rfl
 |some v=>exact Pm v n n
def Ut(i j:Nat):Builtin.Slice.slicePlaces (i:Int) (j:Int) 1=j-i:=by
 unfold Builtin.Slice.slicePlaces;have h1:(1:Int) > 0:=by omega
 simp only[h1,if_true,Int.ediv_one];split <;> omega
def cr{v:Value}{o:Option Int}{Q:Option Int->Shared->Prop}(p:IsPart v o)(h:Q o s):wpAny (model prog w) A (Builtin.Slice.slicePartIndex v) Q E s:=by
 cases p with
 |none=>exact slicePart_none h
 |int i t=>exact slicePart_int h
def jj{M:Addr}{I B:Value}{lo hi:Option Int}{n:Nat}{Q:Int×Int×Nat->Shared->Prop}(Z:s.heap.IsSliceOf M I B .none)(pl:IsPart I lo)(N:IsPart B hi)(h:Q (((sIx n 0 lo:Nat):Int),1,sIx n n hi-sIx n 0 lo) s):wpAny (model prog w) A (Builtin.Slice.sliceApplied (.ref M) (pure (n:Int))) Q E s:=by
 obtain⟨os,j,a0,q⟩:=id Z;unfold Builtin.Slice.sliceApplied Builtin.Slice.sliceFields;refine zaa (zaa (wpAny_field j q (x:=I) rfl (zaa (wpAny_field j q (x:=B) rfl (zaa (wpAny_field j q (x:=.none) rfl (zab ?_)))))));refine zaa (slicePart_none ?_);show wpAny _ _ (if ((1:Int)==0)=true then _ else _) _ _ s
 rw[if_neg (by decide)]
 refine zaa (cr pl (zaa (cr N (zaa (zab ?_)))));show wpAny _ _ (match Builtin.Slice.sliceAdjust lo hi 1 (n:Int) with|(lo,hi)=>pure (lo,(1:Int),Builtin.Slice.slicePlaces lo hi 1)) _ _ s
 rw[Tj lo hi n];show wpAny _ _ (pure (((sIx n 0 lo:Nat):Int),(1:Int),Builtin.Slice.slicePlaces ((sIx n 0 lo:Nat):Int) ((sIx n n hi:Nat):Int) 1)) _ _ s;rw[Ut];exact zab h
def N0(xs:Array Value)(i k:Nat):((List.range k).filterMap λ(m:Nat)=>xs[((i:Int)+(m:Int)*1).toNat]?).toArray=((xs.toList.drop i).take k).toArray:=by
 have e:(λ(m:Nat)=>xs[((i:Int)+(m:Int)*1).toNat]?)=λm=>xs[i+m]?:=by
  funext m
  have:((i:Int)+(m:Int)*1).toNat=i+m:=by omega
  rw[this]
 rw[e];have:=pick_run xs i k;rw[List.filterMap_map]at this;have e2:((λx=>xs[x]?) ∘ λx=>i+x)=λm=>xs[i+m]?:=rfl;rw[e2]at this;rw[this]
def getItem_tuple_cut{t I:Addr}{items:Array Value}{vl vu:Value}{lo hi:Option Int}{Q:Value->Shared->Prop}(B:IsTup s.heap t items)(hs:s.heap.IsSliceOf I vl vu .none)(pl:IsPart vl lo)(pu:IsPart vu hi)(hw:¬ (sIx items.size 0 lo=0/\sIx items.size items.size hi=items.size))(h:Q (.ref s.heap.objs.size) {s with heap:=s.heap.push {cls:=.type "tuple",data:=.seq ((items.toList.drop (sIx items.size 0 lo)).take (sIx items.size items.size hi-sIx items.size 0 lo)).toArray}})(hsz:items.size<=sizeLine):wpAny (model prog w) A (getItem (.ref t) (.ref I)) Q E s:=by
 have j:sizeOk (.seq ((items.toList.drop (sIx items.size 0 lo)).take (sIx items.size items.size hi-sIx items.size 0 lo)).toArray):=by
  show((items.toList.drop (sIx items.size 0 lo)).take (sIx items.size items.size hi-sIx items.size 0 lo)).toArray.size<=sizeLine;rw[zap,List.length_take,List.length_drop,Array.length_toList];omega
 have hj:sIx items.size items.size hi<=items.size:=Fc _ _ (zaj _) hi;obtain⟨os,M,Z,a4⟩:=id hs;have a0:s.TypeIs (.ref I) "slice":=⟨os,M,Z⟩;unfold getItem
 try with_reducible refine wpAny_holding ?_
 first|refine zaa (zab ?_)|skip
 refine zaa (wpAny_sequenceKey B.typeIs (by decide) ?_)
 refine zaa (wpAny_callSpecial?_slot (name:=Str.ofString "__getitem__") B.typeIs PyProof.Rows.slot_tuple_getitem
  (wpAny_call_entry PyProof.Rows.slot_tuple_getitem B.typeIs entry_tuple_getitem ?_ (args_tuple_getitem _ _)))
 show wpAny _ _ (Builtin.Tuple.tupleItemsOf (.ref t) >>= _) _ _ s;refine zaa (tupleItemsOf_ B ?_);refine zaa (wpAny_typeOf a0 ?_);rw[if_pos (by decide)]
 refine zaa (jj hs pl pu ?_);have N:¬ ((((sIx items.size 0 lo:Nat):Int)==0&&(1:Int)==1&&(sIx items.size items.size hi-sIx items.size 0 lo)==items.size)=true):=by
  intro q;rw[Bool.and_eq_true,Bool.and_eq_true]at q;have q1:((sIx items.size 0 lo:Nat):Int)=0:=eq_of_beq q.1.1;have q2:sIx items.size items.size hi-sIx items.size 0 lo=items.size:=eq_of_beq q.2;exact hw ⟨by omega,by omega⟩
 show wpAny _ _ (if (((sIx items.size 0 lo:Nat):Int)==0&&(1:Int)==1&&(sIx items.size items.size hi-sIx items.size 0 lo)==items.size)=true then _ else _) _ _ s
 rw[if_neg N,N0]
 first
  |exact zaa (m:=Builtin.Tuple.tupleExact _) (wpAny_newObj_type (zab ⟨_,rfl,zab h⟩) j)
  |exact zaa (m:=Builtin.Tuple.tupleExact _) (wpAny_newObj_type (zaa (zab (zab ⟨_,rfl,zab h⟩))) j)
  |exact zaa (zaa (m:=Builtin.Tuple.tupleExact _) (wpAny_newObj_type (zab (zab ⟨_,rfl,zab h⟩)) j))
  |exact zaa (zaa (m:=Builtin.Tuple.tupleExact _) (wpAny_newObj_type (zab ⟨_,rfl,zab h⟩) j))
abbrev TO:=St->Hp->(Option Int->Hp->Prop)->Prop
def PO(X:Cx)(e:Option Expr)(t:TO):Prop :=
 ∀(pn:List (Addr×Obj))(s:Shared)(G:St)(H:Hp)(Q:Option Int->Hp->Prop),Inv X pn G H s->t G H Q ->
  wpAny (model X.prog X.w) X.A (evalPart e X.env) (λu s'=>∃o H',Inv X pn G H' s'/\IsPart u o/\Q o H') X.xe s
def Kc:TO:=λ_ H Q=>Q none H
def Cv(t:TE):TO:=λG H Q=>t G H λx H1=>∃i,x=.int i/\Q (some i) H1
section
variable{e:Expr}{te:TE}{lo hi:Option Expr}{tl th:TO}{pos p2:Pos}
def J6:PO X none Kc:=by
 intro pn s G H Q I h;rw[evalPart_none];exact zab ⟨none,H,I,.none,h⟩
def J5(h:PE X e te):PO X (some e) (Cv te):=by
 intro pn s G H Q I M;rw[evalPart_some];refine thn (h pn s G H _ I M) λu s1 Zh=>?_;obtain⟨x,H1,N,j,B⟩:=Zh;obtain⟨i,rfl,q⟩:=B;obtain⟨t,rfl⟩:=j;exact⟨some i,H1,N,.int i t,q⟩
def SlR(X:Cx)(r:V->Option Int->Option Int->Hp->VK->Prop):Prop :=
 ∀(pn:List (Addr×Obj))(s:Shared)(G:St)(H:Hp)(x:V)(v vl vu:Value)(lo hi:Option Int)(sl:Addr)(Q:VK),Inv X pn G H s->RelV x v->s.heap.IsSliceOf sl vl vu .none->IsPart vl lo->IsPart vu hi->r x lo hi H Q ->
  ∃T id,typeLookup (.type T) "__getitem__" = pure (some (.builtin id))/\s.TypeIs v T/\wpAny (model X.prog X.w) X.A (getItem v (.ref sl)) (EP X pn G Q) X.xe s
def SlR.or(h:SlR X r)(h':SlR X r'):SlR X (λx lo hi H Q=>r x lo hi H Q\/r' x lo hi H Q):=by
 intro pn s G H x v B j lo hi M Q I N hs pl Z q;rcases q with q|q
 ·exact h pn s G H x v B j lo hi M Q I N hs pl Z q
 exact h' pn s G H x v B j lo hi M Q I N hs pl Z q
def tSl(r:V->Option Int->Option Int->Hp->VK->Prop)(te:TE)(tl th:TO):TE:=λG H Q=>te G H λx H1=>tl G H1 λl H2=>th G H2 λu j=>r x l u j Q
def N2{r:V->Option Int->Option Int->Hp->VK->Prop}(hr:SlR X r)(he:PE X e te)(hl:PO X lo tl)(hu:PO X hi th):PE X (.Subscript e (.Slice lo hi none p2) pos) (tSl r te tl th):=by
 intro pn s G H Q I h;refine Subscript_ (thn (he pn s G H _ I h) λv s1 Zh=>?_);obtain⟨x,H1,I1,Z,q1⟩:=Zh;refine wpAny_Slice (thn (hl pn s1 G H1 _ I1 q1) λM s2 ⟨l,H2,I2,pl,q2⟩=>thn (hu pn s2 G H2 _ I2 q2) λB j Zh=>?_);obtain⟨u,N,I3,pu,q3⟩:=Zh;rw[evalPart_none];refine zab ?_;have I4:Inv X pn G N {j with heap:=j.heap.push {cls:=.type "slice",data:=.fields #[M,B,.none]}}:=I3.kept (t':=j.toks) λb ob q=>zac _ q;obtain⟨T,id,hT,ht,hg⟩:=hr pn {j with heap:=j.heap.push {cls:=.type "slice",data:=.fields #[M,B,.none]}} G N x v M B l u j.heap.objs.size Q I4 Z (Heap.IsSliceOf.new ..) pl pu q3;show wpAny (model X.prog X.w) X.A (subscriptTail e (.Slice lo hi none p2) v (.ref j.heap.objs.size)) (EP X pn G Q) X.xe {j with heap:=j.heap.push {cls:=.type "slice",data:=.fields #[M,B,.none]}};exact tail_any (ops:=[.ref j.heap.objs.size,v]) ht hT hg (by with_unfolding_all rfl)
def cutV(xs:List V)(lo hi:Option Int):List V:=(xs.drop (ZZ.sIx xs.length 0 lo)).take (ZZ.sIx xs.length xs.length hi-ZZ.sIx xs.length 0 lo)
def dg(xs:List V)(lo hi:Option Int):(cutV xs lo hi).length<=xs.length:=by
 unfold cutV;rw[List.length_take,List.length_drop];omega
def rSlT(K:W.Frag):V->Option Int->Option Int->Hp->VK->Prop:=λx lo hi H Q=>∃a xs,x=.ref a/\SqT K H a xs /\
 ¬ (ZZ.sIx xs.length 0 lo=0/\ZZ.sIx xs.length xs.length hi=xs.length)/\∀p,H p=none->Q (.ref p) (upd H p (.tup (cutV xs lo hi)))
def Gz:SlR X (rSlT X.K):=by
 intro pn s G H x v vl vu lo hi sl Q I N hs pl Z h;obtain⟨a,xs,rfl,hx,hw,q⟩:=h;cases N;obtain⟨its,r,M,B⟩:=I.tuple hx;have j:its.toArray.size=xs.length:=by rw[zap];exact r.length.symm
 refine⟨"tuple",_,PyProof.Rows.slot_tuple_getitem.lookup,M.typeIs,?_⟩;refine ZZ.getItem_tuple_cut M hs pl Z (by rw[j];exact hw) ?_ (by rw[j];exact B)
 rw[j];refine⟨.ref s.heap.objs.size,_,I.laid (t':=s.toks) (o:=.tup (cutV xs lo hi)) (λb ob q=>zac _ q) (zaj _) ?_,rfl,q _ (I.hok.fresh (zaj _))⟩;exact⟨zak (dg xs lo hi) B,_,(r.drop (ZZ.sIx xs.length 0 lo)).take (ZZ.sIx xs.length xs.length hi-ZZ.sIx xs.length 0 lo),IsTup.new _ _,_,zad _ rfl,rfl⟩
def Fp(K:W.Frag):R2:=λx y H Q=>∃a b xs ys,x=.ref a/\y=.ref b/\SqT K H a xs/\SqT K H b ys/\xs≠[]/\xs.length+ys.length<=sizeLine /\
 (ys=[]->Q (.ref a) H)/\(ys≠[]->∀p,H p=none->Q (.ref p) (upd H p (.tup (xs++ys))))
def Vals.nil_iff(r:Vals xs us):us=[] ↔ xs=[]:=by
 cases r with
 |nil=>simp
 |cons _ _=>simp
def Ru:OpR X (binaryOp .Add) (Fp X.K):=by
 intro pn s G H x y v u Q I rx Z h;obtain⟨a,b,xs,ys,rfl,rfl,ha,hb,hx,N,q1,q2⟩:=h;cases rx;cases Z;obtain⟨its,B,p1,_⟩:=I.tuple ha;obtain⟨M,j,p2,_⟩:=I.tuple hb;refine ZZ.cat_tup p1 p2 (λz=>hx (B.nil_iff.mp z)) (λz=>⟨.ref a,H,I,rfl,q1 (j.nil_iff.mp z)⟩) (λz=>?_) (by rw[<- B.length,<- j.length];exact N)
 refine⟨.ref s.heap.objs.size,_,I.laid (t':=s.toks) (o:=.tup (xs++ys)) (λb ob q=>zac _ q) (zaj _) ?_,rfl,q2 (λw=>z (j.nil_iff.mpr w)) _ (I.hok.fresh (zaj _))⟩;exact⟨by rw[zLa];exact N,_,B.append j,IsTup.new _ _,_,zad _ rfl,rfl⟩
end
def ixN(n:Nat)(i:Int):Option Nat:=if 0<=i then(if i<n then some i.toNat else none) else if -(n:Int)<=i then some (i+n).toNat else none
def atI{α:Type}(xs:List α)(i:Int):Option α:=(ixN xs.length i).bind λj=>xs[j]?
def Wd(h:ixN n i=some j):seqIndex? i n=some j/\j<n/\-(n:Int)<=i/\i<n:=by
 unfold ixN at h;by_cases h0:0<=i
 ·rw[if_pos h0]at h;by_cases h1:i<n
  ·rw[if_pos h1]at h;have e:i.toNat=j:=Option.some.inj h;exact⟨by rw[seqIndex_of h0 h1,e],by omega,by omega,h1⟩
  rw[if_neg h1]at h;cases h
 rw[if_neg h0]at h;by_cases h1:-(n:Int)<=i
 ·rw[if_pos h1]at h;have e:(i+n).toNat=j:=Option.some.inj h;exact⟨by rw[seqIndex_neg (by omega) h1,e],by omega,h1,by omega⟩
 rw[if_neg h1]at h;cases h
def V1{α:Type}{xs:List α}{i:Int}{v:α}(h:atI xs i=some v):∃j,seqIndex? i xs.length=some j/\xs[j]?=some v/\j<xs.length/\-(xs.length:Int)<=i/\i<xs.length:=by
 unfold atI at h;cases e:ixN xs.length i with
 |none=>rw[e]at h;cases h
 |some j =>
  rw[e]at h;obtain⟨h1,h2,B,q⟩:=Wd e;exact⟨j,h1,h,h2,B,q⟩
def Ye{α:Type}{xs:List α}{j:Nat}{v:α}(h:xs[j]?=some v):atI xs (j:Int)=some v:=by
 have q:j<xs.length:=(zag.mp h).1;have e:ixN xs.length (j:Int)=some j:=by
  unfold ixN;rw[if_pos (by omega),if_pos (by omega)];simp
 unfold atI;rw[e];exact h
def Ui{α:Type}(xs:List α)(v:α):atI (xs++[v]) (-1)=some v:=by
 have hl:(xs++[v]).length=xs.length+1:=by simp
 have e:ixN (xs++[v]).length (-1)=some xs.length:=by
  unfold ixN;rw[hl,if_neg (by decide),if_pos (by omega)]
  congr 1
  omega
 unfold atI;rw[e];show(xs++[v])[xs.length]?=some v;simp
def kz(b:Expr):Prop:=∀o i,subscripted b false o i=operate [o,i] (getItem o i)
def IxR(X:Cx)(r:R2):Prop :=
 ∀(value slice:Expr)(pn:List (Addr×Obj))(s:Shared)(G:St)(H:Hp)(x y:V)(v u:Value)(Q:VK),Inv X pn G H s->RelV x v->RelV y u->r x y H Q ->
  subscripted slice false v u=operate [v,u] (getItem v u)->wpAny (model X.prog X.w) X.A (subscriptTail value slice v u) (EP X pn G Q) X.xe s
def MtR(X:Cx)(id:String)(r:V->List V->Hp->VK->Prop):Prop :=
 ∀(pn:List (Addr×Obj))(s:Shared)(G:St)(H:Hp)(x:V)(xs:List V)(v:Value)(us:List Value)(Q:VK),Inv X pn G H s->RelV x v->Vals xs us->r x xs H Q ->
  wpAny (model X.prog X.w) X.A (call (.builtin id) (v::us)) (EP X pn G Q) X.xe s
section
variable{a b:Expr}{ta tb:TE}{pos:Pos}
def IxR.or(h:IxR X r)(h':IxR X r'):IxR X (λx y H Q=>r x y H Q\/r' x y H Q):=by
 intro value j pn s G H x y v u Q I M B q N;rcases q with q|q
 ·exact h value j pn s G H x y v u Q I M B q N
 exact h' value j pn s G H x y v u Q I M B q N
def gj(hr:IxR X r)(Z:PE X a ta)(N:PE X b tb)(M:kz b):PE X (.Subscript a b pos) (tOp r ta tb):=by
 intro pn s G H Q I h;exact Subscript_ (binT Z N I h λv u s2 x y H2 I2 B j q=>hr a b pn s2 G H2 x y v u Q I2 B j q (M _ _))
def rIxL(K:W.Frag):R2:=λx y H Q=>∃p xs i v,x=.ref p/\y=.int i/\SqL K H p xs/\atI xs i=some v/\Q v H
def rIxT(K:W.Frag):R2:=λx y H Q=>∃p xs i v,x=.ref p/\y=.int i/\SqT K H p xs/\atI xs i=some v/\Q v H
def rIxS:R2:=λx y H Q=>∃z i c,x=.str z/\y=.int i/\z.length<=sizeLine/\atI z.cps.toList i=some c/\Q (.str ⟨#[c]⟩) H
def t8:IxR X (rIxL X.K):=by
 intro value B pn s G H x y v u Q I rx ry h Z;obtain⟨p,xs,i,z,rfl,rfl,hq,he,q⟩:=h;cases rx;obtain⟨t,rfl⟩:=ry;obtain⟨its,r,pl,hz⟩:=I.list hq;obtain⟨j,h1,h2,h3,h4,h5⟩:=V1 he;obtain⟨w,ew,M⟩:=r.get h2;have hl:=r.length;have hn:=qm;have fin:EP X pn G Q w s:=⟨z,H,I,M,q⟩;by_cases h0:0<=i
 ·have N:i.toNat=j:=by
   rw[seqIndex_of h0 h5]at h1;exact Option.some.inj h1
  exact item_listR pl.isList h0 (by omega) (by rw[N];simpa using ew) fin Z
 have N:(i+(its.toArray.size:Int)).toNat=j:=by
  rw[seqIndex_neg (by omega) h4]at h1
  rw[zap,<- hl];exact Option.some.inj h1
 exact subscriptTail_builtinR (x:=w) pl.isList.typeIs slot_list_getitem.lookup
  (wpAny_getItem_list_neg (Q:=λr s'=>r=w/\EP X pn G Q r s') pl.isList (by omega) (by rw[zap] <;> omega) (by omega) (by rw[N];simpa using ew) ⟨rfl,fin⟩) Z
def Di:IxR X (rIxT X.K):=by
 intro value B pn s G H x y v u Q I Z N h hs;obtain⟨p,xs,i,z,rfl,rfl,hq,he,q⟩:=h;cases Z;obtain⟨t,rfl⟩:=N;obtain⟨its,r,pl,hz⟩:=I.tuple hq;obtain⟨j,h1,h2,h3,h4,h5⟩:=V1 he;obtain⟨w,ew,M⟩:=r.get h2;have hl:=r.length;have hn:=qm;have fin:EP X pn G Q w s:=⟨z,H,I,M,q⟩;exact subscriptTail_builtinR (x:=w) pl.typeIs slot_tuple_getitem.lookup
  (getItem_tuple (j:=j) (Q:=λr s'=>r=w/\EP X pn G Q r s') pl (by omega) (by omega) (by rw[zap,<- hl];exact h1) (by simpa using ew) ⟨rfl,fin⟩) hs
def Dj:IxR X rIxS:=by
 intro value B pn s G H x y v u Q I N M h Z;obtain⟨z,i,c,rfl,rfl,hz,he,q⟩:=h;obtain⟨t,rfl⟩:=N;obtain⟨t',rfl⟩:=M;obtain⟨j,h1,h2,h3,h4,h5⟩:=V1 he;have hl:z.cps.toList.length=z.length:=by simp[Str.length]
 rw[hl]at h1 h4 h5;have hn:=qm;exact tail_any (typeIs_str s z t) slot_str_getitem.lookup (getItem_str (c:=c) (by
  have e1:decide (i < -(2 ^ 63:Int))=false:=decide_eq_false (by omega)
  have e2:decide (i ≥ 2 ^ 63)=false:=decide_eq_false (by omega)
  rw[e1,e2,Bool.or_false]) (by rw[h1];simpa using h2) ⟨.str ⟨#[c]⟩,H,I.tok _,⟨_,rfl⟩,q⟩) Z
def rIx(K:W.Frag):R2:=λx y H Q=>rIxL K x y H Q\/rIxT K x y H Q\/rIxS x y H Q
def Ll:IxR X (rIx X.K):=t8.or (Di.or Dj)
def T2(its:List Value)(n j:Nat)(u:Value):Obj.mapSeq (·.setIfInBounds j u) {cls:=.type "list",data:=.seq its.toArray n}={cls:=.type "list",data:=.seq (its.set j u).toArray n}:=by
 simp[Obj.mapSeq]
theorem Inv.lst(I:Inv X pn G H s)(h:H p=some (.lst xs)) :
  ∃(its:List Value)(n:Nat),Vals xs its/\s.heap.get? p=some {cls:=.type "list",data:=.seq its.toArray n}/\xs.length<=sizeLine:=by
 obtain⟨z,its,n,r,e⟩:=I.hok p _ h;exact⟨its,n,r,e,z⟩
def Inv.lstUpd{H:Hp}{its its':List Value}{n j:Nat}{f:Obj->Obj}(I:Inv X pn G H s)(h:H p=some (.lst xs))(ho:s.heap.get? p=some {cls:=.type "list",data:=.seq its.toArray n})(B:f {cls:=.type "list",data:=.seq its.toArray n}={cls:=.type "list",data:=.seq its'.toArray j})(r:Vals ys its')(M:ys.length<=sizeLine)(t:Nat) :
  Inv X pn G (upd H p (.lst ys)) {s with heap:=s.heap.update p f,toks:=t}:=by
 have e:(s.heap.update p f).get? p=some {cls:=.type "list",data:=.seq its'.toArray j}:=by
  rw[Heap.get?_update_self f ho (by rw[B] <;> rfl),B]
 refine I.write (x:=p) (e:=p) (by rw[h];trivial) (.inl rfl) (λb u N q=>(Heap.get?_update_other _ _ (Ne.symm N)).trans q) ⟨_,e⟩ ?_
 exact⟨M,its',j,r,e⟩
def B9:V->V->V->Hp->(Hp->Prop)->Prop:=λo i v H Q=>∃p xs k j,o=.ref p/\i=.int k/\H p=some (.lst xs)/\ixN xs.length k=some j/\Q (upd H p (.lst (xs.set j v)))
def Zf:PSet X B9:=by
 intro pn s G H o i v ov iv u Q I ro ri rv h;obtain⟨p,xs,k,j,rfl,rfl,M,hj,q⟩:=h;cases ro;obtain⟨t,rfl⟩:=ri;obtain⟨its,n,r,ho,hz⟩:=I.lst M;obtain⟨h1,h2,Z,N⟩:=Wd hj;have hl:=r.length;have hn:=qm;have I':Inv X pn G (upd H p (.lst (xs.set j v))) {s with heap:=s.heap.update p (Obj.mapSeq (·.setIfInBounds j u))} :=
  I.lstUpd M ho (T2 its n j u) (r.set rv j) (by rw[List.length_set];exact hz) s.toks
 by_cases h0:0<=k
 ·have B:k.toNat=j:=by
   rw[seqIndex_of h0 N]at h1;exact Option.some.inj h1
  exact W.ki_setAt ho h0 (by omega) (by rw[zap,<- hl];exact N) (by rw[B];exact⟨_,I',q⟩)
 have B:(k+(its.toArray.size:Int)).toNat=j:=by
  rw[seqIndex_neg (by omega) Z]at h1
  rw[zap,<- hl];exact Option.some.inj h1
 exact W.ki_setBack ho (by omega) (by rw[zap,<- hl];exact Z) (by omega) (by rw[B];exact⟨_,I',q⟩)
def Yl(lo hi:Option Int)(n:Nat):(sliceBounds lo hi none n).1=((ZZ.sIx n 0 lo:Nat):Int)/\(sliceBounds lo hi none n).2.1=((ZZ.sIx n n hi:Nat):Int)/\(sliceBounds lo hi none n).2.2=1:=by
 refine⟨?_,?_,rfl⟩
 ·cases lo with
  |none=>simp[sliceBounds,ZZ.sIx]
  |some i =>
   simp only[sliceBounds,ZZ.sIx,Option.getD_none,show(1:Int) > 0 by decide,if_true]
   by_cases h:i<0
   ·simp only[h,if_true] <;> omega
   simp only[h,if_false] <;> omega
 cases hi with
 |none=>simp[sliceBounds,ZZ.sIx]
 |some i =>
  simp only[sliceBounds,ZZ.sIx,Option.getD_none,show(1:Int) > 0 by decide,if_true]
  by_cases h:i<0
  ·simp only[h,if_true] <;> omega
  simp only[h,if_false] <;> omega
def Ze(its:List Value)(lo hi:Option Int):slicePick its.toArray lo hi none=((its.drop (ZZ.sIx its.length 0 lo)).take (ZZ.sIx its.length its.length hi-ZZ.sIx its.length 0 lo)).toArray:=by
 obtain⟨h1,h2,j⟩:=Yl lo hi its.toArray.size;unfold slicePick;rw[h1,h2,j];simp only[sliceRange_one,pick_run,zap] <;> rfl
def rSlL(K:W.Frag):V->Option Int->Option Int->Hp->VK->Prop:=λx lo hi H Q=>∃a xs,x=.ref a/\SqL K H a xs/\∀p,H p=none->Q (.ref p) (upd H p (.lst (cutV xs lo hi)))
def Kj:SlR X (rSlL X.K):=by
 intro pn s G H x v vl vu lo hi sl Q I M hs pl N h;obtain⟨a,xs,rfl,hx,q⟩:=h;cases M;obtain⟨its,r,B,Z⟩:=I.list hx;have j:=r.length;refine⟨"list",_,slot_list_getitem.lookup,B.isList.typeIs,?_⟩;refine wpAny_getItem_list_slice B.isList hs pl N .none (by simp) ?_ (by rw[zap] <;> omega)
 rw[Ze,<- j];refine⟨.ref s.heap.objs.size,_,I.laid (t':=s.toks) (o:=.lst (cutV xs lo hi)) (λb ob q=>zac _ q) (zaj _) ?_,rfl,q _ (I.hok.fresh (zaj _))⟩;exact⟨zak (dg xs lo hi) Z,_,0,(r.drop (ZZ.sIx xs.length 0 lo)).take (ZZ.sIx xs.length xs.length hi-ZZ.sIx xs.length 0 lo),zad _ rfl⟩
def dw:V->Bool
 |.non=>true
 |.bl _=>true
 |.int _=>true
 |.str _=>true
 |_=>false
def eqV:V->V->Bool
 |.non,.non=>true
 |.bl a,.bl b=>a==b
 |.bl a,.int b=>(if a then 1 else 0)==b
 |.int a,.bl b=>a==(if b then 1 else 0)
 |.int a,.int b=>a==b
 |.str a,.str b=>a==b
 |_,_=>false
def C7{y x:V}{u v:Value}(q:RelV y u)(j:RelV x v)(I:dw y=true)(B:dw x=true):SeqAt.EqAt A s u v (eqV y x):=by
 cases y with
 |non =>
  cases q
  cases x with
  |non=>cases j;exact SeqAt.EqAt.same _
  |bl b=>cases j;exact SeqAt.EqAt.none_bool b
  |int b=>obtain⟨t,rfl⟩:=j;exact SeqAt.EqAt.none_int b t
  |str b=>obtain⟨t,rfl⟩:=j;exact SeqAt.EqAt.none_str b t
  |_=>exact absurd (show false=true from B) Bool.false_ne_true
 |bl a =>
  cases q
  cases x with
  |non=>cases j;exact SeqAt.EqAt.bool_none a
  |bl b=>cases j;exact SeqAt.EqAt.bool_bool a b
  |int b=>obtain⟨t,rfl⟩:=j;exact SeqAt.EqAt.bool_int a b t
  |str b=>obtain⟨t,rfl⟩:=j;exact SeqAt.EqAt.bool_str a b t
  |_=>exact absurd (show false=true from B) Bool.false_ne_true
 |int a =>
  obtain⟨t',rfl⟩:=q;cases x with
  |non=>cases j;exact SeqAt.EqAt.int_none a t'
  |bl b=>cases j;exact SeqAt.EqAt.int_bool a t' b
  |int b=>obtain⟨t,rfl⟩:=j;exact SeqAt.EqAt.int_int a t' b t
  |str b=>obtain⟨t,rfl⟩:=j;exact SeqAt.EqAt.int_str a t' b t
  |_=>exact absurd (show false=true from B) Bool.false_ne_true
 |str a =>
  obtain⟨t',rfl⟩:=q;cases x with
  |non=>cases j;exact SeqAt.EqAt.str_none a t'
  |bl b=>cases j;exact SeqAt.EqAt.str_bool a t' b
  |int b=>obtain⟨t,rfl⟩:=j;exact SeqAt.EqAt.str_int a t' b t
  |str b=>obtain⟨t,rfl⟩:=j;exact SeqAt.EqAt.str_str a t' b t
  |_=>exact absurd (show false=true from B) Bool.false_ne_true
 |_=>exact absurd (show false=true from I) Bool.false_ne_true
def eqU(x:V)(u:Value):Bool:=match u with
 |.none=>eqV .non x
 |.bool b=>eqV (.bl b) x
 |.int i _=>eqV (.int i) x
 |.str z _=>eqV (.str z) x
 |_=>false
def Ls{x y:V}(r:RelV y u)(f:dw y=true):eqU x u=eqV y x:=by
 cases y with
 |non=>cases r;rfl
 |bl b=>cases r;rfl
 |int i=>obtain⟨t,rfl⟩:=r;rfl
 |str z=>obtain⟨t,rfl⟩:=r;rfl
 |_=>exact absurd (show false=true from f) Bool.false_ne_true
theorem V2{x:V}:∀{xs:List V}{us:List Value},Vals xs us->xs.all dw=true->us.any (eqU x)=xs.any λy=>eqV y x
 |_,_,.nil,_=>rfl
 |y::xs,u::us,.cons r t,f=>by
  rw[List.all_cons,Bool.and_eq_true]at f;rw[List.any_cons,List.any_cons,Ls r f.1,V2 t f.2]
theorem Zm{x:V}{v:Value}(j:RelV x v)(q:dw x=true):∀{xs:List V}{us:List Value},Vals xs us->xs.all dw=true->∀u∈us,SeqAt.EqAt A s u v (eqU x u)
 |_,_,.nil,_=>λu hu=>by cases hu
 |y::xs,u::us,.cons r t,f=>λB hu=>by
  rw[List.all_cons,Bool.and_eq_true]at f;rcases zam.mp hu with rfl|hu
  ·rw[Ls r f.1];exact C7 r j f.1 q
  exact Zm j q t f.2 B hu
def inV(x:V)(xs:List V):Bool:=xs.any λy=>eqV y x
def rIn(K:W.Frag)(j:Bool):R2:=λx y H Q=>∃p xs,y=.ref p/\(SqL K H p xs\/SqT K H p xs)/\dw x=true/\xs.all dw=true/\Q (.bl (if j then !inV x xs else inV x xs)) H
def Rt:OpR X (compareOp .In) (rIn X.K false):=by
 intro pn s G H x y v u Q I M Z h;obtain⟨p,xs,rfl,j,N,fs,q⟩:=h;cases Z;rcases j with j|j
 ·obtain⟨its,r,pl,hz⟩:=I.list j;refine SeqAt.in_listAt (eqU x) pl.isList (λw B=>Zm M N r fs w (by simpa using B)) ⟨.bl _,H,I,rfl,?_⟩
  rw[show its.toArray.any (eqU x)=its.any (eqU x) by simp,V2 r fs]
  exact q
 obtain⟨its,r,pl,hz⟩:=I.tuple j;refine SeqAt.in_tupleAt (eqU x) pl (λw B=>Zm M N r fs w (by simpa using B)) ⟨.bl _,H,I,rfl,?_⟩
 rw[show its.toArray.any (eqU x)=its.any (eqU x) by simp,V2 r fs]
 exact q
def jh:ux X (.builtin "len") (λxs H Q=>∃p ys,xs=[.ref p]/\(SqL X.K H p ys\/SqT X.K H p ys)/\Q (.int ys.length) H):=by
 intro pn s G H xs us Q I r h;obtain⟨p,ys,rfl,B,q⟩:=h;obtain⟨u,rfl,N⟩:=jw r;cases N;have hn:=qm;rcases B with B|B
 ·obtain⟨its,M,pl,Z⟩:=I.list B;have j:=M.length;exact Calls.call_len_list pl.isList (by simp only[zap] <;> omega) ⟨.int ys.length,H,I.tok _,⟨s.toks+1,by rw[zap,j]⟩,q⟩
 obtain⟨its,M,pl,Z⟩:=I.tuple B;have j:=M.length;exact len_tuple pl (by simp only[zap] <;> omega) ⟨.int ys.length,H,I.tok _,⟨s.toks+1,by rw[zap,j]⟩,q⟩
def Xk:ux X (.builtin "len") (λxs H Q=>∃z,xs=[.str z]/\z.length<=sizeLine/\Q (.int z.length) H):=by
 intro pn s G H xs us Q I r h;obtain⟨z,rfl,j,q⟩:=h;obtain⟨u,rfl,t,rfl⟩:=jw r;have B:=qm;exact len_str (by omega) ⟨.int z.length,H,I.tok _,⟨_,rfl⟩,q⟩
def ux.or{f:Value}{r j:List V->Hp->VK->Prop}(h:ux X f r)(h':ux X f j):ux X f (λxs H Q=>r xs H Q\/j xs H Q):=by
 intro pn s G H xs us Q I rs q;rcases q with q|q
 ·exact h pn s G H xs us Q I rs q
 exact h' pn s G H xs us Q I rs q
def Xj:ux X (.type "list") (λxs H Q=>∃p ys,xs=[.ref p]/\(SqL X.K H p ys\/SqT X.K H p ys)/\∀l,H l=none->Q (.ref l) (upd H l (.lst ys))):=by
 intro pn s G H xs us Q I r h;obtain⟨p,ys,rfl,Z,q⟩:=h;obtain⟨u,rfl,rx⟩:=jw r;cases rx;have fin:∀(its:List Value),Vals ys its->ys.length<=sizeLine->∀(h':Heap)(B:Nat),(∀b o',s.heap.get? b=some o'->h'.get? b=some o') ->
   h'.get? s.heap.objs.size=some {cls:=.type "list",dict:=none,data:=.seq its.toArray B,slots:=#[]}->EP X pn G Q (.ref s.heap.objs.size) {s with heap:=h'}:=λits j N h' B M e =>
  ⟨.ref s.heap.objs.size,_,I.laid (t':=s.toks) M (zaj _) (show wj X.prog X.w _ h' _ (.lst ys) from⟨N,its,B,j,e⟩),rfl,q _ (I.hok.fresh (zaj _))⟩
 rcases Z with Z|Z
 ·obtain⟨its,j,pl,N⟩:=I.list Z;have a0:=j.length;obtain⟨o,ho,hc,n,hd⟩:=pl.isList;exact call_list_seq p (.inl rfl) ho hc hd (λh' B M e=>fin its j N h' B M e) (by simp only[zap] <;> omega)
 obtain⟨its,j,pl,N⟩:=I.tuple Z;have a0:=j.length;obtain⟨o,ho,hc,n,hd⟩:=pl;exact call_list_seq p (.inr rfl) ho hc hd (λh' B M e=>fin its j N h' B M e) (by simp only[zap] <;> omega)
def Yb:ux X (.type "tuple") (λxs H Q=>∃p ys,xs=[.ref p]/\((SqL X.K H p ys/\∀l,H l=none->Q (.ref l) (upd H l (.tup ys)))\/(SqT X.K H p ys/\Q (.ref p) H))):=by
 intro pn s G H xs us Q I r h;obtain⟨p,ys,rfl,h⟩:=h;obtain⟨u,rfl,rx⟩:=jw r;cases rx;rcases h with⟨B,q⟩|⟨B,q⟩
 ·obtain⟨its,j,pl,M⟩:=I.list B;have N:=j.length;refine call_tuple_list pl.isList (λh' kp=>?_) (by simp only[zap] <;> omega)
  have Z:Inv X pn G H {s with heap:=h'}:=I.kept (t':=s.toks) kp;have I2:Inv X pn G (upd H h'.objs.size (.tup ys)) {s with heap:=h'.push {cls:=.type "tuple",data:=.seq its.toArray}} :=
   Z.laid (t':=s.toks) (λb o e=>zac _ e) (zaj _) (show wj X.prog X.w _ _ _ (.tup ys) from⟨M,its,j,IsTup.new _ _,_,zad _ rfl,rfl⟩)
  exact⟨.ref h'.objs.size,_,I2,rfl,q _ (Z.hok.fresh (zaj _))⟩
 obtain⟨its,j,pl,M⟩:=I.tuple B;exact call_tuple_same pl ⟨.ref p,H,I,rfl,q⟩
def tyV(K:W.Frag)(T:String)(x:V)(H:Hp):Prop:=match x with
 |.str _=>T = "str"
 |.int _=>T = "int"
 |.ref p=>(T = "list"/\∃xs,SqL K H p xs)\/(T = "tuple"/\∃o,K.lookup p=some o/\o.cls=.type "tuple"/\o.dict=none) \/
   (T = "dict"/\((∃kvs,H p=some (.dK kvs))\/∃kvs,H p=some (.dT kvs)))\/(T = "set"/\∃S n,H p=some (.set S n))
 |_=>False
def Mp{x:V}{v:Value}(I:Inv X pn G H s)(r:RelV x v)(q:tyV X.K T x H) :
  s.TypeIs v T/\∀a,v=.ref a->∃ob,s.heap.get? a=some ob/\ob.dict=none:=by
 cases x with
 |str z =>
  obtain⟨t,rfl⟩:=r;cases (show T = "str" from q);exact⟨typeIs_str s z t,λ_ e=>nomatch e⟩
 |int i =>
  obtain⟨t,rfl⟩:=r;cases (show T = "int" from q);exact⟨typeIs_int s i t,λ_ e=>nomatch e⟩
 |ref p =>
  cases r
  rcases q with⟨rfl,xs,N⟩|⟨rfl,o,j,Z,M⟩|⟨rfl,j⟩|⟨rfl,S,n,j⟩
  ·obtain⟨its,_,pl,_⟩:=I.list N;refine⟨pl.isList.typeIs,λa e=>?_⟩;cases e;obtain⟨o,n,e,c,M,_⟩:=pl;exact⟨o,e,M⟩
  ·refine⟨⟨o,I.kIn p o j,Z⟩,λa e=>?_⟩;cases e;exact⟨o,I.kIn _ o j,M⟩
  ·have z:∃o,s.heap.get? p=some o/\o.ExactDict:=by
    rcases j with⟨B,j⟩|⟨B,j⟩
    ·obtain⟨_,_,_,_,o,_,_,e,ex,_⟩:=I.hok p _ j;exact⟨o,e,ex⟩
    obtain⟨_,_,_,_,o,_,_,e,ex,_⟩:=I.hok p _ j;exact⟨o,e,ex⟩
   obtain⟨o,e,ex⟩:=z;refine⟨⟨o,e,ex.1⟩,λa e2=>?_⟩;cases e2;exact⟨o,e,ex.2.1⟩
  obtain⟨o,_,_,_,e,ex,_⟩:=I.hok p _ j;refine⟨⟨o,e,ex.1⟩,λa e2=>?_⟩;cases e2;exact⟨o,e,ex.2.1⟩
 |_=>exact False.elim q
def tBM0(K:W.Frag)(T:String)(r:V->List V->Hp->VK->Prop)(to:TE):TE:=λG H Q=>to G H λx H1=>tyV K T x H1/\r x [] H1 Q
def tBM(K:W.Frag)(T:String)(r:V->List V->Hp->VK->Prop)(to:TE)(t:TA):TE:=λG H Q=>to G H λx H1=>tyV K T x H1/\t G H1 λxs H2=>r x xs H2 Q
variable{o e:Expr}{es:List Expr}{to:TE}{t:TA}{apos cpos:Pos}{T id:String}{r:V->List V->Hp->VK->Prop}
def La(pa:PlainAttrs T)(slot:Slot T name id)(B:typeOf (.builtin id)=pure (.type "method_descriptor"))(hm:MtR X id r)(ho:PE X o to)(q:attributeBase o name X.env (eval o X.env)=eval o X.env:=by rfl)(j:(apos.endLine==cpos.line)=true:=by rfl):PE X (.Call (.Attribute o name apos) [] [] cpos) (tBM0 X.K T r to):=by
 intro pn s G H Q I h;refine wpAny_Call_method0_late q j (thn (ho pn s G H _ I h) λv s1 Zh=>?_);obtain⟨x,H1,N,M,Z,q1⟩:=Zh;obtain⟨h1,h2⟩:=Mp N M Z;exact⟨T,id,pa,slot,B,h1,h2,Calls.callWith_builtin rfl (PySem.evalArgs_none (hm pn s1 G H1 x [] v [] Q N M .nil q1))⟩
def Ro(pa:PlainAttrs T)(slot:Slot T name id)(N:typeOf (.builtin id)=pure (.type "method_descriptor"))(hm:MtR X id r)(ho:PE X o to)(ha:PA X (e::es) t)(B:attributeBase o name X.env (eval o X.env)=eval o X.env:=by rfl)(M:((backTo cpos (starEach (e::es) X.env)).all (λx=>!x.1)&&(backToKw cpos (keywordEach [] X.env)).all (λx=>x.1.isSome)
   && decide ((e::es).length+([]:List Keyword).length+(if ([]:List Keyword).isEmpty then 0 else 1)<30))=true:=by rfl)(q:(apos.endLine==cpos.line)=true:=by rfl)(hs:S_ X e es:=by rfl)(j:B_ X es cpos:=by rfl) :
  PE X (.Call (.Attribute o name apos) (e::es) [] cpos) (tBM X.K T r to t):=by
 intro pn s G H Q I h;refine wpAny_Call_method_late B M q rfl (thn (ho pn s G H _ I h) λv s1 Zh=>?_);obtain⟨x,H1,I1,Z,ty,q1⟩:=Zh;obtain⟨h1,h2⟩:=Mp I1 Z ty;refine⟨T,id,pa,slot,N,h1,h2,?_⟩;have hA:=ha cpos pn s1 G H1 _ I1 q1;rw[hs]at hA ⊢;refine Calls.callWith_builtin (by show(false || (backTo cpos (starEach es X.env)).any (·.1))=false;rw[j] <;> rfl) (Calls.evalArgs_plain ?_)
 exact thn hA λus s2 ⟨vs,H2,I2,r2,q2⟩=>hm pn s2 G H2 x vs v us Q I2 Z r2 q2
end
def MtM(X:Cx)(id:String)(r:V->List V->Hp->VK->Prop):Prop :=
 ∀(pn:List (Addr×Obj))(s:Shared)(G:St)(H:Hp)(x:V)(xs:List V)(v:Value)(us:List Value)(Q:VK),Inv X pn G H s->RelV x v->Vals xs us->r x xs H Q ->
  wpAny (model X.prog X.w) X.A (call (.builtin id) (v::us)) (EP X pn G Q) X.xe s
def Vals.one:∀{x:V}{us:List Value},Vals [x] us->∃u,us=[u]/\RelV x u
 |_,_,.cons r .nil=>⟨_,rfl,r⟩
def Vals.zero:∀{us:List Value},Vals [] us->us=[]
 |_,.nil=>rfl
theorem Vals.dropLast(h:Vals xs us):Vals xs.dropLast us.dropLast:=by
 induction h with
 |nil=>exact .nil
 |cons r t ih =>
  cases t with
  |nil=>exact .nil
  |cons q t'=>exact .cons r ih
theorem Vals.rep(h:Vals xs us):∀k:Nat,Vals (List.replicate k xs).flatten (List.replicate k us).flatten
 |0=>.nil
 |k+1=>by
  rw[List.replicate_succ,List.replicate_succ,List.flatten_cons,List.flatten_cons];exact Vals.append h (Vals.rep h k)
def Tf{α:Type}(l:List α):l.eraseIdx (l.length-1)=l.dropLast:=by
 induction l with
 |nil=>rfl
 |cons a r ih =>
  cases r with
  |nil=>rfl
  |cons b r =>
   have e:(a::b::r).length-1=((b::r).length-1)+1:=by
    have h1:(a::b::r).length=r.length+2:=rfl;have h2:(b::r).length=r.length+1:=rfl;omega
   rw[e,List.eraseIdx_cons_succ,ih]
   all_goals rfl
theorem Xa(its:List Value):∀(k:Nat)(acc:List Value),
  List.foldl (λq j=>q++j) acc.toArray (List.replicate k its.toArray)=(acc++(List.replicate k its).flatten).toArray
 |0,acc=>by simp
 |k+1,acc=>by
  have e:acc.toArray++its.toArray=(acc++its).toArray:=by simp
  have e2:(acc++its)++(List.replicate k its).flatten=acc++(List.replicate (k+1) its).flatten:=by
   rw[List.replicate_succ,List.flatten_cons,List.append_assoc]
  rw[<- e2,<- Xa its k (acc++its),<- e,List.replicate_succ,List.foldl_cons]
variable{l:Addr}
def Inv.lset{its its':List Value}{n:Nat}{f:Array Value->Array Value}{t':Nat}(I:Inv X pn G H s)(Z:H l=some (.lst xs))(e:s.heap.get? l=some {cls:=.type "list",data:=.seq its.toArray n})(M:f its.toArray=its'.toArray)(B:Vals ys its')(j:ys.length<=sizeLine) :
  Inv X pn G (upd H l (.lst ys)) {s with heap:=s.heap.update l (Obj.mapSeq f),toks:=t'}:=by
 have q:=PySem.IsL.update e f;rw[M]at q;refine I.write (x:=l) (e:=l) (by rw[Z];exact trivial) (.inl rfl) (λb' u N hu=>(Heap.get?_update_other s.heap (Obj.mapSeq f) (Ne.symm N)).trans hu) ⟨_,q⟩ ?_
 exact⟨j,its',_,B,q⟩
def Inv.lnew(I:Inv X pn G H s)(B:Vals ys its)(j:ys.length<=sizeLine) :
  Inv X pn G (upd H s.heap.objs.size (.lst ys)) {s with heap:=s.heap.push {cls:=.type "list",data:=.seq its.toArray},toks:=t'} :=
 I.laid (λ_ _ q=>zac _ q) (zaj _) ⟨j,its,0,B,zad _ rfl⟩
theorem Inv.fresh(I:Inv X pn G H s):H s.heap.objs.size=none:=I.hok.fresh (zaj _)
def Inv.lstM(I:Inv X pn G H s)(j:H l=some (.lst xs)):xs.length<=sizeLine/\∃(its:List Value)(n:Nat),Vals xs its/\xs.length=its.length/\s.heap.get? l=some {cls:=.type "list",data:=.seq its.toArray n}:=by
 obtain⟨z,its,n,r,e⟩:=I.hok l _ j;exact⟨z,its,n,r,r.length,e⟩
def Vu(h:n<=sizeLine):Builtin.List.listTooLong n=false:=by
 unfold Builtin.List.listTooLong;exact decide_eq_false (by omega)
def W5:V->List V->Hp->VK->Prop:=λx vs H Q=>∃l xs y,x=.ref l/\vs=[y]/\H l=some (.lst xs)/\xs.length<sizeLine/\Q .non (upd H l (.lst (xs++[y])))
def gm:MtM X "list.append" W5:=by
 intro pn s G H x vs v us Q I B M h;obtain⟨l,xs,y,rfl,rfl,j,Z,q⟩:=h;cases B;obtain⟨u,rfl,N⟩:=M.one;obtain⟨z,its,n,r,hl,e⟩:=I.lstM j;refine call_meets F.slot_list_append ⟨_,e,rfl⟩ F.entry_list_append (F.args_list_append_2 _ _) (PySem.list_append l its.toArray n u (by rw[zap];omega)) ⟨e,?_⟩
 refine⟨.non,_,I.lset (its':=its++[u]) j e (by simp) (r.append (.cons N .nil)) ?_,rfl,q⟩
 rw[zLa,List.length_singleton];omega
def W4:V->List V->Hp->VK->Prop:=λx vs H Q=>∃l b xs zs,x=.ref l/\vs=[.ref b]/\H l=some (.lst xs)/\H b=some (.lst zs)/\xs.length+zs.length<=sizeLine/\Q .non (upd H l (.lst (xs++zs)))
def Yu:MtM X "list.extend" W4:=by
 intro pn s G H x vs v us Q I N Z h;obtain⟨l,b,xs,zs,rfl,rfl,M,hB,hz,q⟩:=h;cases N;obtain⟨u,rfl,ru⟩:=Z.one;cases ru;obtain⟨z,its,n,r,hl,e⟩:=I.lstM M;obtain⟨z2,j,n2,r2,a0,e2⟩:=I.lstM hB;have hsz:its.toArray.size+j.toArray.size<=sizeLine:=by rw[zap,zap];omega
 have B:¬ (!its.toArray.isEmpty&&Builtin.List.listTooLong (its.toArray.size+j.toArray.size))=true:=by
  rw[Vu hsz,Bool.and_false];exact Bool.false_ne_true
 refine call_meets F.slot_list_extend ⟨_,e,rfl⟩ F.entry_list_extend (F.args_list_extend_2 _ _)
  (AutoSeq1.list_extend_list_list_0 l its.toArray n b j.toArray n2 B (by rw[zap];omega) (by omega)) ⟨e,e2,?_⟩
 refine⟨.non,_,I.lset (its':=its++j) M e (by simp) (r.append r2) ?_,rfl,q⟩
 rw[zLa];omega
def rPop:V->List V->Hp->VK->Prop:=λx vs H Q=>∃l xs y,x=.ref l/\vs=[]/\H l=some (.lst xs)/\xs[xs.length-1]?=some y/\Q y (upd H l (.lst xs.dropLast))
def Li:MtM X "list.pop" rPop:=by
 intro pn s G H x vs v us Q I N Z h;obtain⟨l,xs,y,rfl,rfl,M,hy,q⟩:=h;cases N;have B:=Z.zero;subst B;obtain⟨z,its,n,r,hl,e⟩:=I.lstM M;obtain⟨u,hu,ru⟩:=r.get hy;have j:its.toArray[its.toArray.size-1]?=some u:=by
  show its.toArray[its.length-1]?=some u;rw[<- Array.getElem?_toList,<- hl];exact hu
 refine call_meets F.slot_list_pop ⟨_,e,rfl⟩ F.entry_list_pop (F.args_list_pop_1 _) (MeetsSeq.list_pop_last l its.toArray n u j (by rw[zap];omega)) ⟨e,?_⟩
 refine⟨y,_,I.lset (its':=its.dropLast) M e ?_ r.dropLast ?_,ru,q⟩
 ·show its.toArray.eraseIdxIfInBounds (its.toArray.size-1)=its.dropLast.toArray;rw[zap,List.eraseIdxIfInBounds_toArray,Tf]
 rw[List.length_dropLast];omega
def rCat:R2:=λx y H Q=>∃l b xs zs,x=.ref l/\y=.ref b/\H l=some (.lst xs)/\H b=some (.lst zs)/\xs.length+zs.length<=sizeLine/\∀p,H p=none->Q (.ref p) (upd H p (.lst (xs++zs)))
def En:OpR X (binaryOp .Add) rCat:=by
 intro pn s G H x y v u Q I M B h;obtain⟨l,b,xs,zs,rfl,rfl,hH,hB,hz,q⟩:=h;cases M;cases B;obtain⟨z,its,n,r,hl,e⟩:=I.lstM hH;obtain⟨z2,j,n2,N,Z,e2⟩:=I.lstM hB;refine PySem.P.add_list e e2 ?_ (by rw[zap,zap];omega)
 have ea:its.toArray++j.toArray=(its++j).toArray:=by simp
 rw[ea];exact⟨.ref _,_,I.lnew (t':=s.toks) (r.append N) (by rw[zLa];omega),rfl,q _ I.fresh⟩
def rRep:R2:=λx y H Q=>∃l k xs,x=.ref l/\y=.int k/\H l=some (.lst xs)/\-(2 ^ 63)<=k/\k<2 ^ 63/\xs.length*k.toNat<=sizeLine /\
 ∀p,H p=none->Q (.ref p) (upd H p (.lst (List.replicate k.toNat xs).flatten))
def Jx{α:Type}(xs:List α)(k:Nat):(List.replicate k xs).flatten.length=k*xs.length:=by
 induction k with
 |zero=>simp
 |succ k ih=>rw[List.replicate_succ,List.flatten_cons,zLa,ih,Nat.succ_mul,Nat.add_comm]
def Eh:OpR X (binaryOp .Mult) rRep:=by
 intro pn s G H x y v u Q I rx ry h;obtain⟨l,k,xs,rfl,rfl,hH,h1,h2,hz,q⟩:=h;cases rx;obtain⟨t,rfl⟩:=ry;obtain⟨z,its,n,r,hl,e⟩:=I.lstM hH;have M:its.toArray.size*k.toNat<=sizeLine:=by rw[zap,<- hl];exact hz
 have Z:¬ its.toArray.size*k.toNat > (2 ^ 63-1) / 8:=by
  have:(sizeLine:Nat)<=(2 ^ 63-1) / 8:=by decide
  omega
 have N:¬ (!Builtin.List.listFitsIndex k)=true:=by
  rw[fitsIndex_both h1 h2];exact Bool.false_ne_true
 have j:¬ Builtin.List.listTooLong (its.toArray.size*k.toNat)=true:=by
  rw[Vu M];exact Bool.false_ne_true
 have B:List.foldl (λx1 x2=>x1++x2) #[] (List.replicate (if its.toArray.isEmpty=true then 0 else k.toNat) its.toArray)=(List.replicate k.toNat its).flatten.toArray:=by
  have f0:∀m:Nat,List.foldl (λx1 x2=>x1++x2) #[] (List.replicate m its.toArray)=(List.replicate m its).flatten.toArray:=λm=>by
   have:=Xa its m [];rw[List.nil_append]at this;exact this
  rw[f0];cases its with
  |nil=>simp
  |cons a r'=>rw[if_neg (by simp)]
 refine wpAny_binaryOp_repeat_ref (T:="list") (U:="int") (by decide) ⟨_,e,rfl⟩ (λs'=>typeIs_int s' k t) noFill_list_mul F.fills_int_mul F.slot_int_rmul repeat_list F.slot_int_index.lookup
  (call_meets F.slot_int_rmul (typeIs_int s k t) F.entry_int_rmul (F.args_int_rmul_2 _ _) (int___rmul___int_list k t l its.toArray n)
   ⟨e,rfl,⟨_,e,rfl⟩,call_meets F.slot_list_mul ⟨_,e,rfl⟩ F.entry_list_mul (F.args_list_mul_2 _ _) (AutoListH.list___mul___list_int_3 l its.toArray n k t N Z j) ⟨e,?_⟩⟩)
 rw[B];exact⟨.ref _,_,I.lnew (t':=s.toks) (r.rep k.toNat) (by rw[Jx,Nat.mul_comm];exact hz),rfl,q _ I.fresh⟩
section
open PySem PySem.W PySem.Calls PyProof.Rows
def fo{P:Params}:∀(ns:List Int)(vs:List Value),WellAll P h vs (ns.map WData.int)->IntsAre vs ns:=by
 intro ns
 induction ns with
 |nil =>
  intro vs w;rw[List.map_nil]at w;cases w;exact .nil
 |cons n ns ih =>
  intro vs w;rw[List.map_cons]at w;cases w with
  |cons a b =>
   cases a
   exact .cons _ _ (ih _ b)
def Sl{l:OpenLaw}{n:Nat}(hn:l.most=some n){P:Params}(j:l.row.toRowW.claim.pre args=true)(N:WellAll P h vals args) :
  ∃a vs ns,vals=[Value.ref a]/\args=[WData.list (ns.map WData.int)]/\h.get? a=some {cls:=.type "list",data:=.seq vs.toArray}/\IntsAre vs ns/\ns.length<=n:=by
 have Z:WShape.hasAll [] args [.list .int]=true:=(pre_splitW j).1;have hc:l.pre.holds [] {args:=args}=true:=(pre_splitW j).2;obtain⟨d,r,rfl,h1,h2⟩:=hasAllW_cons Z;obtain rfl:=hasAllW_nil h2;obtain⟨xs,rfl,h3⟩:=hasW_list h1;obtain⟨ns,rfl⟩:=items_int h3;have B:ns.length<=n:=by
  unfold OpenLaw.pre at hc;have M:(WTm.not (.lt (.lit (.int (n:Int))) (.len (.arg 0)))).holds [] {args:=[.list (ns.map .int)]}=true:=by
   have M:=(holds_andW hc).1;rw[hn]at M;exact M
  have I:=condW_of M (w_not (w_lt w_lit (w_len_list (w_arg rfl))));rw[zLm]at I;refine Nat.le_of_not_lt λq=>?_;have q':(n:Int)<((ns.length:Nat):Int):=by omega
  first
   |(rw[decide_eq_true q']at I;exact absurd I (by decide))
   |(simp at I;omega)
 cases N with
 |cons w1 w2 =>
  cases w2
  cases w1 with
  |list ho hall=>exact⟨_,_,ns,rfl,rfl,ho,fo ns _ hall,B⟩
def Rb(l:OpenLaw)(args:List WData):l.row.toRowW.claim.post args (.bool true) args=true :=
 postW_of (r:=l.row.toRowW) (X:=(true==true))
  (show WShape.has [] (.bool true) .bool=true by first|rfl|decide|simp[WShape.has,WShape.arms,WShape.armsAll])
  (show(WTm.eq .res (.lit (.bool true))).value [] {args:=args,res:=some (.bool true),after:=args}=some (.bool (true==true)) from w_eq_bool (w_res rfl) w_lit) rfl
def attach_call{l:OpenLaw}{n:Nat}{XP:(Str->Option Value)->Heap->Prop}{YP:World->Heap->Prop}{d:DefRec}(hn:l.most=some n)(a6:d.params.defaults=[])(call:∀ (w:World) (B j:Shared) (mg mb:Str->Option Value) (fa:Addr) (o:Obj) (pm cd M:Value) (a:Addr) (vs:List Value) (ns:List Int),
   Ground q loose [] XP w B mg mb j.heap->YP w j.heap ->
   j.heap.get? fa=some o->o.data=.func (docDef d.name d.params d.body d.scope pm cd M)->j.heap.CodeRec cd d.name->mg d.name=some (.ref fa) ->
   j.heap.get? a=some {cls:=.type "list",data:=.seq vs.toArray}->IntsAre vs ns->ns.length<=n->j.gens=#[] ->
   codeAny (model l.prog w) callerA (.call (.ref fa) ⟨[.ref a],[]⟩) (λr s'=>r=.ok (.ret (.bool true))/\OldK j.heap s'.heap/\s'.os=j.os/\AllBare s'.gens) j) :
  WalkO q loose XP YP l.row.toRowW d [] (λf vs=>PySem.call f vs):=by
 intro w B j mg mb G Y fa o pm cd M dV kV ho hd a7 hD a5 hg a9 vals as N a8 b0 a4 b4;obtain rfl:dV=.none:=Dflts.none hD a6;obtain rfl:kV=.none:=Dflts.noKw hD;obtain⟨a,vs,ns,rfl,rfl,Z,I,a0⟩:=Sl hn N a4;refine enter_call (codeAny_mono (call w B j mg mb fa o pm cd M a vs ns G Y ho (fd_plain hd) a7 a5 Z I a0 hg) λr s' hq=>?_);obtain⟨rfl,h2,h3,h4⟩:=hq;exact⟨.inl ⟨.bool true,.bool true,[],rfl,λ_=>rfl,.bool true,Rb l _,λ_=>⟨List.Pairwise.nil,λ_ hm=>(nomatch hm)⟩⟩,h2,h3,h4⟩
end
theorem Yg:∀{vs:List Value}{ns:List Int},IntsAre vs ns->Vals (ns.map V.int) vs
 |_,_,.nil=>.nil
 |_,_,.cons n t h=>.cons ⟨t,rfl⟩ (Yg h)
def Only(H:Hp):Prop:=∀b,H b=none\/∃o xs,H b=some (.frz o (.lst xs))
def Nj{K:W.Frag}{mg mb:Str->Option Value}{k:Nat}{fa a:Addr}{x:Str}{sp:Sp}{s₁:Shared}{vs:List Value}(KX:K.In s₁.heap)(a6:s₁.heap.Ns mainGlobals mg)(B:s₁.heap.Ns builtinsNs mb)(b5:∀ x:Str,x≠"__name__"->mb x=bootBuiltins x)(a7:s₁.heap.NoLimit)(hg:s₁.gens=#[])(ha:s₁.heap.get? a=some {cls:=.type "list",data:=.seq vs.toArray})(hi:IntsAre vs ns)(hl:ns.length<=sizeLine)(hr:Room k callerA)(F:∀ base:Heap,K.In base->base.Ns mainGlobals mg->FnOk P w K mg base CX k fa fd [x] sp)(N:∀ (s:Shared) (u:Value),BindsTo s fd ⟨[u],[]⟩ [(x,u)])(b4:∀ H:Hp,Only H->SqL K H a (ns.map V.int)->sp [.ref a] H (λv _=>v=.bl true) λ_ _ _=>False)(b6:∀ H e s',CX [] H s₁ (λ_ _ _=>False) e s'->False) :
  codeAny (model P w) callerA (.call (.ref fa) ⟨[.ref a],[]⟩) (λr s'=>r=.ok (.ret (.bool true))/\OldK s₁.heap s'.heap/\s'.os=s₁.os/\AllBare s'.gens) s₁:=by
 have rv:=Yg hi;have a0:=hi.length;have M:∀H:Hp,Only H->SqL K H a (ns.map V.int)->HOk P w H s₁.heap->(∀b,H b≠none->b=a)->(H a≠none->K.lookup a=none) ->
   codeAny (model P w) callerA (.call (.ref fa) ⟨[.ref a],[]⟩) (λr s'=>r=.ok (.ret (.bool true))/\OldK s₁.heap s'.heap/\s'.os=s₁.os/\AllBare s'.gens) s₁:=by
  intro H hO hS a5 hA hK;have j:∀{b:Addr}{o:Obj},s₁.heap.get? b=some o->H b=none->(hidT s₁.heap H).get? b=some o:=λe n=>Nt e n;have b0:∀{b:Addr}{o:Obj}{es:Array DictEntry}{ep:Nat},s₁.heap.get? b=some o->o.data=.dict es ep->H b=none:=λ{b o es ep} e d=>by
   cases q:H b with
   |none=>rfl
   |some u =>
    have e':b=a:=hA b (by rw[q];simp)
    subst e';rw[ha]at e;cases e;have d':Data.seq vs.toArray _=Data.dict es ep:=d;cases d'
  have I:∀{b:Addr}{m:Str->Option Value},s₁.heap.Ns b m->(hidT s₁.heap H).Ns b m:=λ{b m} ⟨o,es,ep,e,d,r⟩=>⟨o,es,ep,j e (b0 e d),d,r⟩;have a8:K.In (hidT s₁.heap H):=λb o e=>j (KX b o e) (by
   cases q:H b with
   |none=>rfl
   |some u =>
    have e':b=a:=hA b (by rw[q];simp)
    subst e';rw[hK (by rw[q];simp)]at e;cases e)
  have hM:Mod K mg (hidT s₁.heap H):=⟨a8,I a6,⟨mb,I B,b5⟩,let ⟨mc,h1,h2⟩:=a7;⟨mc,I h1,h2⟩⟩
  have e0:Env0 P w K mg (hidT s₁.heap H) callerA [] s₁ H:=⟨rfl,hM,λb o e=>Jl e,Nat.le_of_eq (Qm _ _),trivial,λb B=>absurd (show b∈([]:List Addr) from B) (by simp),a5,.of_eq hg⟩
  refine codeAny_mono ((F _ a8 (I a6)).run callerA [] s₁ H ⟨[.ref a],[]⟩ [.ref a] [.ref a] _ _ hr e0 (N s₁ (.ref a)) (.cons rfl .nil) (b4 H hO hS)) λr s' h=>?_;cases r with
  |error e=>exact(b6 H e s' h).elim
  |ok fl =>
   cases fl with
   |next=>exact False.elim h
   |brk=>exact False.elim h
   |cont=>exact False.elim h
   |ret u =>
    obtain⟨v,H',os,a9,un,a4,r',q⟩:=h;have q':v=.bl true:=q;subst q';obtain rfl:u=Value.bool true:=r';refine⟨rfl,OldK.of_keep λb o e=>?_,os,a9⟩;cases q:H b with
    |none=>exact un.keep b o e q (by intro z;exact absurd (show b∈([]:List Addr) from z) (by simp)) (by simp)
    |some u =>
     rcases hO b with z|⟨ob,xs,z⟩
     ·rw[q]at z;cases z
     have z2:=un.frzs b ob _ z;obtain⟨e1,_⟩:=a5 b _ z;obtain⟨e2,_⟩:=a4 b _ z2;rw[e]at e1;cases e1;exact e2
 cases hk:K.lookup a with
 |some o =>
  have e:=KX a o hk;rw[ha]at e;cases e;refine M (λ_=>none) (λ_=>.inl rfl) (.inr ⟨_,vs.toArray,_,hk,rfl,rfl,rfl,by rw[zap,a0];exact hl,by simpa using rv⟩) (λb u z=>by have Z:(none:Option HO)=some u:=z;cases Z) (λb z=>absurd rfl z) λz=>absurd rfl z
 |none =>
  refine M (λb=>if b=a then some (.frz {cls:=.type "list",data:=.seq vs.toArray} (.lst (ns.map V.int))) else none) (λb=>?_) (.inl (.inr ⟨{cls:=.type "list",data:=.seq vs.toArray},if_pos rfl⟩)) (λb u z=>?_) (λb z=>?_) λ_=>hk
  ·by_cases B:b=a
   ·exact .inr ⟨_,_,if_pos B⟩
   exact .inl (if_neg B)
  ·by_cases B:b=a
   ·have Z:=(if_pos B).symm.trans z;cases Z;subst B;exact⟨ha,by rw[zLm];exact hl,vs,_,rv,ha⟩
   have Z:=(if_neg B).symm.trans z;cases Z
  by_cases B:b=a
  ·exact B
  exact absurd (if_neg B) z
abbrev KOf{K:W.Frag}(_:K.In h):W.Frag:=K
def walk_of{l:W.OpenLaw}{n k:Nat}{XP:(Str->Option Value)->Heap->Prop}{YP:World->Heap->Prop}{d:DefRec}{K:Params->W.Frag}{CX:World->CXT}{sp:World->Sp}{x:Str}(hn:l.most=some n)(a0:n<=sizeLine)(a5:d.params.defaults=[])(hr:Room k callerA)(hY:∀ (w:World) (h:Heap),YP w h->(K w.params).In h)(F:∀ (w:World) (mg:Str->Option Value) (N:Addr) (h:Heap),(K w.params).In h->h.Ns mainGlobals mg->mg d.name=some (.ref N) ->
   ∃ fd:FuncData,(∀ (s:Shared) (u:Value),BindsTo s fd ⟨[u],[]⟩ [(x,u)]) /\
    ∀ base:Heap,(K w.params).In base->base.Ns mainGlobals mg->FnOk l.prog w (K w.params) mg base (CX w) k N fd [x] (sp w))(Z:∀ (w:World) (H:Hp) (a:Addr) (ns:List Int),ns.length<=n->Only H->SqL (K w.params) H a (ns.map V.int)->sp w [.ref a] H (λv _=>v=.bl true) λ_ _ _=>False)(a6:∀ (w:World) (H:Hp) (s:Shared) (e:Value) (s':Shared),CX w [] H s (λ_ _ _=>False) e s'->False) :
  W.WalkO q loose XP YP l.row.toRowW d [] (λf vs=>PySem.call f vs):=by
 refine ZZ.attach_call hn a5 λw a7 I mg mb N o pm cd a9 a vs ns G Y ho hd a8 a4 M B j hg=>?_;have KX:=hY w _ Y;obtain⟨fd,hb,hF⟩:=F w mg N _ KX G.T.g a4;exact Nj KX G.T.g G.T.b G.T.builtins G.T.nolimit hg M B (zak j a0) hr hF hb (λH hO hS=>Z w H a ns j hO hS) λH e s'=>a6 w H I e s'
abbrev CX0:CXT:=λ_ _ _ _ _ _=>False
abbrev E0:XK:=λ_ _ _=>False
def W7:dq CX0 X E0:=λ_ _ _ _ _ _ _ h=>h.elim
structure Fun(K:W.Frag)(x qual:Str)(st:Stmt)(f:Addr)(fd:FuncData):Prop where
 ex:∃(oc:Value)(od:Option Addr)(kV doc pm:Value)(an:Option Addr)(qZ ct:Value)(osl:Array (Option Value)),
  fd=W.fnOf x qual (vg st) (yt st) (zd st) .none kV doc pm an qZ ct/\K.lookup f=some ⟨oc,od,.func fd,osl⟩/\W.codeIn K qZ qual=true
 kp:W.keepIn K (.ref f)=true
variable{mg:Str->Option Value}{base:Heap}
def Fun.ok{x j:Str}{st:Stmt}{f:Addr}{fd:FuncData}{N ps:List Str}{k:Nat}{sp:Sp}(F:Fun K x j st f fd)(S:zu N ps (zd st))(len:∀ vs H Q E,sp vs H Q E->vs.length=ps.length)(M:∀ (qZ:Value) (A:Around) (outer:List Env) (s:Shared) (H:Hp) (vs:List V) (Q:VK) (E:XK),Room k (A.deeper (envOfC j (zd st) s.heap.objs.size f qZ))->sp vs H Q E ->
   ∃ t,PSs (cxOf CX0 P w K mg base N j (zd st) f qZ A outer s H E).nox (yt st) t/\t {nx:=λ_ H'=>Q .non H',rt:=Q} (start N vs) H):FnOk P w K mg base CX0 (k+1) f fd ps sp:=by
 obtain⟨oc,od,kV,a0,pm,an,qZ,ct,Z,rfl,lk,I⟩:=F.ex;refine Dx lk I S len λA outer s H vs Q E hr B=>?_;obtain⟨t,h,q⟩:=M qZ A outer s H vs Q E hr B;exact⟨t,h.nox,q⟩
def Fun.binds{x j:Str}{st:Stmt}{f:Addr}{fd:FuncData}{ps:List Str}(F:Fun K x j st f fd)(h:∀ (kV q B:Value) (M:Option Addr) (qZ I:Value) (us:List Value),us.length=ps.length->bindArgs (W.fnOf x j (vg st) (yt st) (zd st) .none kV q B M qZ I) ⟨us,[]⟩=pure (ps.zip us)):ua K fd ps []:=by
 obtain⟨oc,od,kV,q,B,M,qZ,I,N,rfl,lk,Z⟩:=F.ex;exact .all (h kV q B M qZ I)
def Lo{x j:Str}{st:Stmt}{f:Addr}{oc:Value}{Z N:Option Addr}{B:Array (Option Value)}{kV q I qZ M:Value}(l:K.lookup f=some ⟨oc,Z,.func (W.fnOf x j (vg st) (yt st) (zd st) .none kV q I N qZ M),B⟩)(c:W.codeIn K qZ j=true)(k:W.keepIn K (.ref f)=true):Fun K x j st f (W.fnOf x j (vg st) (yt st) (zd st) .none kV q I N qZ M):=⟨⟨oc,Z,kV,q,I,N,qZ,M,B,rfl,l,c⟩,k⟩
def iteF{A B:Prop}(h:B):if false=true then A else B:=by
 rw[if_neg Bool.false_ne_true];exact h
def iteT{A B:Prop}(h:A):if true=true then A else B:=by
 rw[if_pos rfl];exact h
def Same(H H':Hp):Prop:=∀b o,H b=some o->H' b=some o
def Same.refl(H:Hp):Same H H:=λ_ _ h=>h
def Same.trans(a:Same H H1)(b:Same H1 H2):Same H H2:=λc o h=>b c o (a c o h)
def Same.free(e:Same H H')(h:H' l=Option.none):H l=Option.none:=by
 cases q:H l with
 |none=>rfl
 |some o =>
  rw[e l o q]at h;cases h
theorem Qs{α j:Type}{f:α->j->Sem (ForInStep j)}(R:List α->j->Prop)(h:∀ x l c,R (x::l) c->∃ c',f x c=pure (.yield c')/\R l c') :
  ∀(l:List α)(c:j),R l c->∃c',forIn l c f=pure c'/\R [] c'
 |[],c,r=>⟨c,rfl,r⟩
 |x::l,c,r=>by
  obtain⟨M,e,B⟩:=h x l c r;obtain⟨I,e2,q⟩:=Qs R h l M B;exact⟨I,by rw[List.forIn_cons,e,pure_bind];exact e2,q⟩
def V0{x:Str}{c:Addr}(h:env.cells.lookup x=some c):cellOf env x=pure c:=by
 unfold cellOf;rw[h]
def bz(h:∀ y∈scope.names,y.2=.free->∃ c,env.cells.lookup y.1=some c) :
  ∃cl,closureFor scope env=pure cl/\(∀x c,cl.lookup x=some c->env.cells.lookup x=some c)/\∀y∈scope.names,y.2=.free->∃c,cl.lookup y.1=some c:=by
 let f:Str×NameKind->List (Str×Addr)->Sem (ForInStep (List (Str×Addr))):=λx r=>match x with
  |(name,kind)=>if (kind==.free)=true then(do let a <- cellOf env name;pure (.yield ((name,a)::r))) else pure (.yield r)
 have q:=Qs (f:=f) (λI cs=>(∀x c,cs.lookup x=some c->env.cells.lookup x=some c)/\(∀y∈scope.names,y.2=.free->(∃c,cs.lookup y.1=some c)\/y∈I)/\∀y∈I,y∈scope.names) ?_ scope.names []
  ⟨λx c e=>(by cases e),λy j _=>.inr j,λ_ j=>j⟩
 ·obtain⟨cl,e,M,p2,_⟩:=q;refine⟨cl,?_,M,λy j B=>(p2 y j B).elim (λz=>z) λz=>(by cases z)⟩
  have e1:closureFor scope env=(forIn scope.names [] f >>= λr=>pure r):=rfl;rw[e1,e,pure_bind]
 rintro⟨n,k⟩ l cs ⟨M,p2,p3⟩;have hm:=p3 _ (zao ..);by_cases hk:k=.free
 ·subst hk;obtain⟨c,Z⟩:=h _ hm rfl;refine⟨(n,c)::cs,?_,λx N e=>?_,λy j B=>?_,λy j=>p3 y (zal _ j)⟩
  ·show(if ((NameKind.free==NameKind.free)=true) then _ else _)=_
   rw[if_pos (by decide),V0 Z,pure_bind]
  ·rw[List.lookup_cons]at e;cases hx:x==n with
   |true =>
    rw[hx]at e;have ex:x=n:=eq_of_beq hx;subst ex;cases e;exact Z
   |false =>
    rw[hx]at e;exact M x N e
  rcases p2 y j B with⟨N,e⟩|z
  ·refine .inl ?_;rw[List.lookup_cons];cases hx:y.1==n with
   |true=>exact⟨c,rfl⟩
   |false=>exact⟨N,e⟩
  rcases zam.mp z with rfl|z
  ·exact .inl ⟨c,by rw[List.lookup_cons];simp⟩
  exact .inr z
 refine⟨cs,?_,M,λy j B=>?_,λy j=>p3 y (zal _ j)⟩
 ·show(if ((k==NameKind.free)=true) then _ else _)=_
  rw[if_neg (by simpa using hk)]
 rcases p2 y j B with z|z
 ·exact .inl z
 rcases zam.mp z with rfl|z
 ·exact absurd B hk
 exact .inr z
theorem u4{env:Env}:∀{names:List (Str×NameKind)}{x:Str},names.lookup x=some .free ->
  (names.map λ(n,k)=>if (k==NameKind.free&&env.scope.kind==.function&&env.kindOf n==some .cell) then(n,NameKind.cell) else(n,k)).lookup x=some .cell \/
  (names.map λ(n,k)=>if (k==NameKind.free&&env.scope.kind==.function&&env.kindOf n==some .cell) then(n,NameKind.cell) else(n,k)).lookup x=some .free
 |[],_,h=>by cases h
 |(n,k)::r,x,h=>by
  have j:=@u4 env r x;rw[List.map_cons];cases hx:x==n with
  |true =>
   rw[List.lookup_cons,hx]at h;cases h;by_cases hc:(NameKind.free==NameKind.free&&env.scope.kind==.function&&env.kindOf n==some .cell)=true
   ·refine .inl ?_;show List.lookup x ((if (NameKind.free==NameKind.free&&env.scope.kind==.function&&env.kindOf n==some .cell)=true then(n,NameKind.cell) else(n,NameKind.free))::_)=_
    rw[if_pos hc,List.lookup_cons,hx]
   refine .inr ?_;show List.lookup x ((if (NameKind.free==NameKind.free&&env.scope.kind==.function&&env.kindOf n==some .cell)=true then(n,NameKind.cell) else(n,NameKind.free))::_)=_
   rw[if_neg hc,List.lookup_cons,hx]
  |false =>
   rw[List.lookup_cons,hx]at h;have e:∀(b:Bool)(l:List (Str×NameKind)),List.lookup x ((if b=true then(n,NameKind.cell) else(n,k))::l)=l.lookup x:=λb l=>by
    cases b with
    |true=>rw[if_pos rfl,List.lookup_cons,hx]
    |false=>rw[if_neg Bool.false_ne_true,List.lookup_cons,hx]
   rcases j h with q|q
   ·exact .inl ((e _ _).trans q)
   exact .inr ((e _ _).trans q)
def jc(B:∀ y∈scope.names,y.2≠.cell){x:Str}(h:(relabel scope env).names.lookup x=some k)(N:k=.cell\/k=.free) :
  ∃y∈scope.names,y.1=x/\y.2=.free:=by
 have M:=PySem.mem_of_lookup h;obtain⟨⟨n,j⟩,I,e⟩:=zah.mp M;refine⟨(n,j),I,?_⟩;have q:(if (j==NameKind.free&&env.scope.kind==.function&&env.kindOf n==some .cell)=true then(n,NameKind.cell) else(n,j))=(x,k):=e
 by_cases hc:(j==NameKind.free&&env.scope.kind==.function&&env.kindOf n==some .cell)=true
 ·rw[if_pos hc]at q;cases q;refine⟨rfl,?_⟩;rw[Bool.and_eq_true,Bool.and_eq_true]at hc;exact eq_of_beq hc.1.1
 rw[if_neg hc]at q;cases q;rcases N with rfl|rfl
 ·exact absurd rfl (B _ I)
 exact⟨rfl,rfl⟩
abbrev yw(X:Cx)(N':List Str)(scope:Scope)(cl:List (Str×Addr))(C:Addr)(fp:List Addr)(s₀:Shared)(H_:Hp):Cx :=
 {X with N:=N',s₀:=s₀,H_:=H_,env:=compEnvC scope cl C X.env,outer:=X.stack,ex:=fp,fn:=λ_=>false,pn:=[],xe:=λ_ _=>False}
structure y4(psc scope:Scope)(T F:List Str):Prop where
 kind:scope.kind=.function
 nocell:∀y∈scope.names,y.2≠.cell
 loc:∀y∈scope.names,y.2=.local->scope.names.lookup y.1=some .local
 fr:∀y∈scope.names,y.2=.free->psc.names.lookup y.1=some .cell\/psc.names.lookup y.1=some .free
 nd:(T++F).Nodup
 ffree:∀x∈F,scope.names.lookup x=some .free
section
variable{scope:Scope}{T F:List Str}{cl:List (Str×Addr)}{fp:List Addr}{js:List Nat}
def di(I:Inv X pn G H s)(S:y4 X.env.scope scope T F):∀y∈scope.names,y.2=.free->∃c,X.env.cells.lookup y.1=some c:=λy j q=>I.ok.has y.1 (S.fr y j q)
def Jj(I:Inv X pn G H s)(S:y4 X.env.scope scope T F)(N:∀ x c,cl.lookup x=some c->X.env.cells.lookup x=some c)(p2:∀ y∈scope.names,y.2=.free->∃ c,cl.lookup y.1=some c)(hC:s.heap.objs.size<=C)(M:∀ b∈fp,FpOk X pn H b)(a0:∀ b∈fp,b<s.heap.objs.size) :
  (yw X (T++F) scope cl C fp s H).Ok where
 mod:=I.ok.mod
 kind:=S.kind
 glob:=I.ok.glob
 blt:=I.ok.blt
 above:=hC
 inj:=λx y c j Z=>I.ok.inj x y c (N x c j) (N y c Z)
 has:=λx j=>by
  have q:∃y∈scope.names,y.1=x/\y.2=.free:=by
   rcases j with j|j
   ·exact jc (env:=X.env) S.nocell (show(relabel scope X.env).names.lookup x=some .cell from j) (.inl rfl)
   exact jc (env:=X.env) S.nocell (show(relabel scope X.env).names.lookup x=some .free from j) (.inr rfl)
  obtain⟨y,Z,rfl,M⟩:=q;exact p2 y Z M
 cab:=λx c h=>by cases h
 hd:=I.ok.hd
 frames:=I.ok.frames
 stk:=.inl rfl
 exf:=λb B=>⟨Nat.ne_of_lt (Nat.lt_of_lt_of_le (a0 b B) hC),λx c e=>(M b B).2.2.2.2.1 x c (N x c e)⟩
 bs:=I.bs
 bsz:=zak I.ok.bsz I.sz
 noex:=λb o e B=>by
  rcases(M b B).2.2.2.1 with z|z
  ·exact I.ok.noex b o e z
  exact absurd (Nat.lt_of_lt_of_le (zae (I.ok.bs b o e).1) z) (Nat.lt_irrefl _)
 exfs:=λb B z=>by
  rcases zam.mp (I.stkSub b z) with q|q
  ·exact(M b B).2.1 q
  exact(M b B).2.2.1 q
 funs:=I.stack
 frf:=I.stkFree
def st0(T:List Str)(js:List Nat)(G:St):St:=List.replicate T.length none++js.map λj=>(G[j]?).join
theorem ka{α j:Type}{R:α->j->Prop}:∀{l:List α}{r:List j}{i:Nat}{b:j},Paired R l r->r[i]?=some b->∃a,l[i]?=some a/\R a b
 |_,_,_,_,.nil,e=>by simp at e
 |_,_,0,_,.cons h _,e=>by simp at e;subst e;exact⟨_,rfl,h⟩
 |_,_,i+1,b,.cons _ t,e=>by
  obtain⟨a,B,q⟩:=ka (i:=i) (b:=b) t (by simpa using e)
  exact⟨a,by simpa using B,q⟩
def Nq(I:Inv X pn G H s)(S:y4 X.env.scope scope T F)(p1:∀ x c,cl.lookup x=some c->X.env.cells.lookup x=some c)(p2:∀ y∈scope.names,y.2=.free->∃ c,cl.lookup y.1=some c)(a6:Paired (λx j=>X.N[j]?=some x) F js)(hC:s.heap.objs.size<=C)(hf:∀ b∈fp,FpOk X pn H b)(b0:∀ b∈fp,b<s.heap.objs.size)(hn:h₁.Ns C m)(hk:∀ b o,s.heap.get? b=some o->h₁.get? b=some o):Inv (yw X (T++F) scope cl C fp s H) [] (st0 T js G) H {s with heap:=h₁,toks:=t'}:=by
 refine⟨Jj I S p1 p2 hC hf b0,rfl,I.bare,Un.kept hk,⟨m,hn,λi x v h1 h2 h3=>?_⟩,λx c e=>?_,I.hok.fresh hC,λx c e=>I.freeC x c (p1 x c e),λp hp=>(by cases hp),I.hok.kept hk,?_⟩
 ·have hi:T.length<=i:=by
   rcases Nat.lt_or_ge i T.length with z|z
   ·exfalso;unfold st0 at h2;rw[List.getElem?_append_left (by simpa using z),List.getElem?_replicate]at h2
    split at h2 <;> cases h2
   exact z
  unfold st0 at h2;rw[List.getElem?_append_right (by simpa using hi),zai,List.length_replicate]at h2
  cases ej:js[i-T.length]? with
  |none=>rw[ej]at h2;cases h2
  |some j =>
   rw[ej]at h2;have M:(G[j]?).join=some v:=Option.some.inj h2;obtain⟨x',a5,hX⟩:=ka a6 ej;have a8:(T++F)[i]?=some x:=h1;rw[List.getElem?_append_right hi,a5]at a8;cases a8;have a4:G[j]?=some (some v):=by
    cases e:G[j]? with
    |none=>rw[e]at M;cases M
    |some o=>rw[e]at M;cases M;rfl
   have a9:x∈F:=zan a5;have B:=S.ffree x a9;have Z:=S.fr _ (PySem.mem_of_lookup B) rfl;obtain⟨m0,_,look⟩:=I.loc;obtain⟨u,ru,lk⟩:=look j x v hX a4 (.inr Z);refine⟨u,ru,?_⟩;rcases lk with⟨k,_⟩|⟨_,c,hc,a0⟩
   ·exfalso;have k':X.env.scope.names.lookup x=some .local:=k;rcases Z with z|z
    ·rw[k']at z;cases z
    rw[k']at z;cases z
   obtain⟨c',a7⟩:=p2 _ (PySem.mem_of_lookup B) rfl;have e2:=p1 x c' a7;rw[hc]at e2;cases e2;refine .inr ⟨?_,c,a7,a0.keeps hk⟩;exact u4 (env:=X.env) B
 ·obtain⟨v,q⟩:=I.cell x c (p1 x c e);exact⟨v,q.keeps hk⟩
 show(st0 T js G).length=(T++F).length;unfold st0;rw[zLa,zLa,List.length_replicate,zLm,(Paired.length a6)]
def Nr(I:Inv X pn G H s)(J:Inv (yw X N' scope cl C fp s H) [] σ' H' s')(j:∀ b∈fp,FpOk X pn H b):Inv X pn G H' s' :=
 I.call' (ch:=fp) (show s'.os=s.os from J.os) J.base J.hok J.bare λb q=>⟨(j b q).2.2.2.1,(j b q).2.1,(j b q).2.2.2.2.1,(j b q).2.2.2.2.2⟩
end
section
variable{R:Result->Shared->Prop}
def Th(I:Nat->Shared->Prop)(a5:∀ n s,I n s->wpAny (model prog w) A (pyNext it) (λr q=>match r with
   |none=>R (.ok .next) q
   | some v=>wpAny (model prog w) A (letOwnedTupleGo target it v) (λ_ Z=>wpAny (model prog w) A (assign target env v) (λ_ N =>
     wpAny (model prog w) A (forIn ifs true λc r=>if r=true then do let ok <- isTrue c env (eval c env);pure (ForInStep.yield ok) else pure (ForInStep.yield r)) (λok j =>
      if ok=true then wpAny (model prog w) A (eval elt env) (λx M=>wpAny (model prog w) A (call (.builtin "list.append") [acc,x]) (λ_ B=>∃ m,m<n/\I m B) (λ_ _=>False) M) (λ_ _=>False) j
      else ∃ m,m<n/\I m j) (λ_ _=>False) N) (λ_ _=>False) Z) (λ_ _=>False) q) (λ_ _=>False) s)(n:Nat)(h:I n s):codeAny (model prog w) A (.compLoop (.ListComp elt [⟨target,iter,ifs,0⟩] scope pos) 0 it acc env) R s:=by
 refine codeAny_loop rfl I (λn s hI=>?_) n h;show wpAny _ A ((compTurn (.ListComp elt [⟨target,iter,ifs,0⟩] scope pos) 0 it acc env).onRaise (λx=>do noteFrame x env;theTreesLotGoes x)) _ _ s
 refine wpAny_noted (wpAny_noRaise ?_);rw[compTurn_list];refine zaa (wpAny_standAt (zaa (thn (a5 n s hI) λr q a4=>?_)));cases r with
 |none=>exact zab a4
 |some v =>
  refine zaa (thn a4 λ_ Z a9=>zaa (thn a9 λ_ N a8=>zaa (thn a8 λok j a0=>?_)));cases ok with
  |false=>exact zab ⟨rfl,a0⟩
  |true=>exact zaa (zaa (thn a0 λx M a7=>zaa (thn a7 λ_ B a6=>zab (zab ⟨rfl,a6⟩))))
end
def PIf(X:Cx)(ifs:List Expr)(t:TT):Prop :=
 ∀(pn:List (Addr×Obj))(s:Shared)(G:St)(H:Hp)(Q:Bool->Hp->Prop),Inv X pn G H s->t G H Q ->
  wpAny (model X.prog X.w) X.A (forIn ifs true λc r=>if r=true then do let ok <- isTrue c X.env (eval c X.env);pure (ForInStep.yield ok) else pure (ForInStep.yield r)) (TP X pn G Q) X.xe s
def tYes:TT:=λ_ H Q=>Q true H
def J8:PIf X [] tYes:=λ_ _ _ H _ I h=>wpAny_tests_nil ⟨H,I,h⟩
def J7{c:Expr}(h:PT X c tc):PIf X [c] tc:=λpn s G H Q I q=>wpAny_tests_one (h pn s G H Q I q)
def wd(n:Nat)(G j:St):Prop:=j.length=G.length/\∀i,n<=i->j[i]?=G[i]?
def wd.refl(n:Nat)(G:St):wd n G G:=⟨rfl,λ_ _=>rfl⟩
theorem wd.trans{n:Nat}{a b c:St}(x:wd n a b)(y:wd n b c):wd n a c:=⟨y.1.trans x.1,λi h=>(y.2 i h).trans (x.2 i h)⟩
theorem wd.set{n i:Nat}{G:St}{v:V}(h:i<n):wd n G (G.set i (some v)):=⟨by simp,λj q=>by rw[List.getElem?_set_ne (by omega)]⟩
def cg(n:Nat)(g:TG):Prop:=∀v G H Q,g v G H Q->g v G H λj H'=>Q j H'/\wd n G j
def Uk(n:Nat)(g:TGs):Prop:=∀vs G H Q,g vs G H Q->g vs G H λj H'=>Q j H'/\wd n G j
def yn(h:i<n):cg n (wt i):=λv G H Q q=>⟨q,wd.set h⟩
def d6:Uk n gNil:=λvs G H Q q=>⟨q.1,q.2,wd.refl n G⟩
def wn(mono:∀ v G H Q Q',(∀ j H',Q j H'->Q' j H')->t v G H Q->t v G H Q')(B:∀ v G H Q Q',(∀ j H',Q j H'->Q' j H')->u v G H Q->u v G H Q')(h1:cg n t)(h2:Uk n u):Uk n (vo t u):=λvs G H Q q=>by
 obtain⟨v,r,e,q⟩:=q;refine⟨v,r,e,mono _ _ _ _ _ (λj H' z=>?_) (h1 v G H _ q)⟩;exact B _ _ _ _ _ (λI H2 y=>⟨y.1,z.2.trans y.2⟩) (h2 r j H' Q z.1)
def fu{K:W.Frag}{n k:Nat}{t:TGs}(h:Uk n t):cg n (gTup K k t):=λv G H Q q=>by
 obtain⟨a,xs,e,j,hl,q⟩:=q;exact⟨a,xs,e,j,hl,h xs G H Q q⟩
def x6:∀v G H (Q Q':St->Hp->Prop),(∀σ' H',Q σ' H'->Q' σ' H')->wt i v G H Q->wt i v G H Q':=λ_ _ _ _ _ f q=>f _ _ q
def ud:∀v G H (Q Q':St->Hp->Prop),(∀σ' H',Q σ' H'->Q' σ' H')->gNil v G H Q->gNil v G H Q':=λ_ _ _ _ _ f q=>⟨q.1,f _ _ q.2⟩
def rn(mono:∀ v G H Q Q',(∀ j H',Q j H'->Q' j H')->t v G H Q->t v G H Q')(B:∀ v G H Q Q',(∀ j H',Q j H'->Q' j H')->u v G H Q->u v G H Q') :
  ∀v G H (Q Q':St->Hp->Prop),(∀j H',Q j H'->Q' j H')->vo t u v G H Q->vo t u v G H Q':=λvs G H Q Q' f q=>by
 obtain⟨v,r,e,q⟩:=q;exact⟨v,r,e,mono _ _ _ _ _ (λj H' z=>B _ _ _ _ _ f z) q⟩
def Gu(J:It)(g:TG)(tc:TT)(te:TE)(q:St)(D:Addr)(Z:Hp->Prop)(H:Hp):Prop :=
 ∃W:Nat->Nat->List V->Hp->Prop,(∃m,W 0 m [] H)/\∀i m ys H,W i m ys H->H D=some (.lst ys)/\((J.stop i H/\Z H)\/(J.go i H/\∃N:List V->Hp->Prop,(∀zs H',N zs H'->∃m',m'<m/\W (i+1) m' zs H')/\∀x H',J.yld i H x H' ->
  g x q H' λj H2=>tc j H2 λb I=>if b=true then te j I λy B=>B D=some (.lst ys)/\ys.length<sizeLine/\N (ys++[y]) (upd B D (.lst (ys++[y]))) else N ys I))
def O8(j:TI)(T:List Str)(js:List Nat)(g:TG)(tc:TT)(te:TE):TE:=λG H Q=>j G H λJ H1=>∀D,H1 D=none->Gu J g tc te (st0 T js G) D (Q (.ref D)) (upd H1 D (.lst []))
section
variable{H2:Hp}{s2:Shared}{scope:Scope}{T F:List Str}{cl:List (Str×Addr)}{fp:List Addr}{js:List Nat}{tg iter elt:Expr}{ifs:List Expr}{pos:Pos}{g:TG}{tc:TT}{te:TE}{J:It}{it:Addr}{tn:Nat->Heap->Prop}{RR:Value->Addr->Result->Shared->Prop}
def bx(hc:X.calm=true)(S:y4 X.env.scope scope T F)(d0:Paired (λx j=>X.N[j]?=some x) F js)(hg:∀ cl C fp s H,PG (yw X (T++F) scope cl C fp s H) tg g)(hk:cg T.length g)(ht:∀ cl C fp s H,PIf (yw X (T++F) scope cl C fp s H) ifs tc)(he:∀ cl C fp s H,PE (yw X (T++F) scope cl C fp s H) elt te)(p1:∀ x c,cl.lookup x=some c->X.env.cells.lookup x=some c)(p2:∀ y∈scope.names,y.2=.free->∃ c,cl.lookup y.1=some c)(I2:Inv X pn G H2 s2)(Tn:Turn X.prog X.w X.K tg J fp it tn)(c1:tn 0 s2.heap)(f2:∀ b∈fp,FpOk X pn H2 b)(Z:Addr->Hp->Prop)(c2:∀ D,H2 D=none->Gu J g tc te (st0 T js G) D (Z D) (upd H2 D (.lst [])))(d3:∀ D C H' s' m',s'.heap.Ns C m'->FpOk X pn H' C->Inv X pn G H' s'->Z D H'->RR (.ref D) C (.ok .next) s') :
  wpAny (model X.prog X.w) X.A (newList []) (λc4 b7=>wpAny (model X.prog X.w) X.A (newFunctionEnv scope X.env.globals cl [] X.env.qual none .none (some X.env)) (λa8 b6 =>
   codeAny (model X.prog X.w) X.A (.compStart (.ListComp elt [⟨tg,iter,ifs,0⟩] scope pos) 0 (.ref it) c4 {a8 with scope:=relabel scope X.env}) (RR c4 a8.locals) b6) E b7) E s2:=by
 refine wpAny_newObj_type (wpAny_newFunctionEnv S.nocell (by intro y hy;cases hy) (λh₁ b4 b0=>?_) S.kind)
 dsimp only at b4 b0 ⊢
 have I3:Inv X pn G (upd H2 s2.heap.objs.size (.lst [])) {s2 with heap:=s2.heap.push {cls:=.type "list",data:=.seq ([]:List Value).toArray}}:=I2.lnew (its:=[]) (t':=s2.toks) .nil (Nat.zero_le _);have a7:∀b∈fp,b<s2.heap.objs.size:=λb B=>by
  obtain⟨o,e,_⟩:=Tn.obj _ _ c1 b B;exact zae e
 have f3:∀b∈fp,FpOk X pn (upd H2 s2.heap.objs.size (.lst [])) b:=λb B=>⟨by rw[y0 (Nat.ne_of_lt (a7 b B))];exact(f2 b B).1,(f2 b B).2⟩
 obtain⟨W,⟨m0,w0⟩,b5⟩:=c2 s2.heap.objs.size I2.fresh;generalize hs3:({s2 with heap:=s2.heap.push {cls:=.type "list",data:=.seq ([]:List Value).toArray}}:Shared)=q at I3;have e3:s2.heap.push {cls:=.type "list",dict:=none,data:=.seq ([]:List Value).toArray}=q.heap:=by rw[<- hs3]
 rw[e3]at b4 b0 ⊢;have b8:q.heap.objs.size=s2.heap.objs.size+1:=by rw[<- e3,Heap.size_push]
 have a6:∀b o,q.heap.get? b=some o->h₁.get? b=some o:=λb o e=>b0.extBut b o (Nat.ne_of_lt (zae e)) (zac _ e);have M:∀b∈fp,b<q.heap.objs.size:=λb B=>by rw[b8];exact Nat.lt_succ_of_lt (a7 b B)
 have J0:Inv (yw X (T++F) scope cl q.heap.objs.size fp q (upd H2 s2.heap.objs.size (.lst []))) [] (st0 T js G) (upd H2 s2.heap.objs.size (.lst [])) {q with heap:=h₁,toks:=s2.toks+([]:List (Str×Value)).length} :=
  Nq I3 S p1 p2 d0 (zaj _) f3 M b4 a6
 have stL:tn 0 h₁:=Tn.keep _ _ _ c1 λb _ o e=>a6 b o (by rw[<- e3];exact zac _ e)
 have es:({s2 with heap:=h₁,toks:=s2.toks+([]:List (Str×Value)).length}:Shared)={q with heap:=h₁,toks:=s2.toks+([]:List (Str×Value)).length}:=by rw[<- hs3]
 have a5:codeAny (model X.prog X.w) X.A (.compLoop (.ListComp elt [⟨tg,iter,ifs,0⟩] scope pos) 0 (.ref it) (.ref s2.heap.objs.size) (compEnvC scope cl q.heap.objs.size X.env)) (RR (.ref s2.heap.objs.size) q.heap.objs.size)
   {q with heap:=h₁,toks:=s2.toks+([]:List (Str×Value)).length}:=by
  have I:∀{H':Hp},(∀b∈fp,H' b=none)->∀b∈fp,FpOk (yw X (T++F) scope cl q.heap.objs.size fp q (upd H2 s2.heap.objs.size (.lst []))) [] H' b:=λhn b B =>
   ⟨hn b B,Nat.ne_of_lt (M b B),J0.ok.exfs b B,.inl B,(J0.ok.exf b B).2,λp hp=>(by cases hp)⟩
  refine Th (λn s'=>∃i ys H',Inv (yw X (T++F) scope cl q.heap.objs.size fp q (upd H2 s2.heap.objs.size (.lst []))) [] (st0 T js G) H' s'/\tn i s'.heap/\(∀b∈fp,H' b=none)/\W i n ys H') ?_ m0
   ⟨0,[],_,J0,stL,λb B=>(f3 b B).1,w0⟩
  rintro n s4 ⟨i,ys,H4,I4,c0,c3,w4⟩;obtain⟨hD,e4⟩:=b5 i n ys H4 w4;rcases e4 with⟨b9,z⟩|⟨go,N,hN,step⟩
  ·refine thn (Tn.done (yw X (T++F) scope cl q.heap.objs.size fp q (upd H2 s2.heap.objs.size (.lst []))) rfl rfl rfl hc i [] s4 _ H4 (λ_ _=>False) I4 (I c3) c0 b9) λr s5 ⟨hr,I5⟩=>?_;subst hr;obtain⟨m5,n5,_⟩:=I5.loc;have fC:FpOk X pn H4 q.heap.objs.size:=I2.fpOk (by rw[b8];exact Nat.le_succ _) I5.free
   exact d3 _ _ H4 s5 m5 n5 fC ((Nr I3 I5 f3)) z
  refine thn (Tn.item (yw X (T++F) scope cl q.heap.objs.size fp q (upd H2 s2.heap.objs.size (.lst []))) rfl rfl rfl hc i [] s4 _ H4 (λ_ _=>False) I4 (I c3) c0 go) λr s5 Zh=>?_;obtain⟨u,hr,h5⟩:=Zh;subst hr;refine thn h5 λ_ s6 Zh=>?_;obtain⟨x,H6,I6,r6,y6,a9,d5⟩:=Zh;have e6:=I6.pinned (I d5) (Tn.obj _ _ a9);refine thn (hg _ _ _ _ _ _ s6 _ H6 x u _ e6 r6 (hk x _ H6 _ (step x H6 y6))) λ_ s7 Zh=>?_;obtain⟨a4,H7,I7,q7,kp⟩:=Zh;refine thn (ht _ _ _ _ _ _ s7 a4 H7 _ I7 q7) λok s8 Zh=>?_;obtain⟨H8,I8,q8⟩:=Zh;have a0:∀{s9:Shared}{H9:Hp},Inv (yw X (T++F) scope cl q.heap.objs.size fp q (upd H2 s2.heap.objs.size (.lst []))) ([]++Ys fp s6.heap) a4 H9 s9->∀{zs:List V},(∃m',m'<n/\W (i+1) m' zs H9) ->
    ∃m,m<n/\∃i ys H',Inv (yw X (T++F) scope cl q.heap.objs.size fp q (upd H2 s2.heap.objs.size (.lst []))) [] (st0 T js G) H' s9/\tn i s9.heap/\(∀b∈fp,H' b=none)/\W i m ys H':=λ{s9 H9} I9 {zs} q9=>by
   obtain⟨m',hm,w9⟩:=q9;have e5:=I9.unpinned;refine⟨m',hm,i+1,zs,H9,e5.weak kp.1.symm (λa v ea=>?_),Tn.keep _ _ _ a9 λb B o e=>(I9.pin (b,o) (List.mem_append_right _ (List.mem_append_right _ (sk B e)))).1,λb B=>?_,w9⟩
   ·have ha:T.length<=a:=by
     rcases Nat.lt_or_ge a T.length with z|z
     ·exfalso;unfold st0 at ea;rw[List.getElem?_append_left (by simpa using z),List.getElem?_replicate]at ea
      split at ea <;> cases ea
     exact z
    rw[kp.2 a ha];exact ea
   obtain⟨o,e,d⟩:=Tn.obj _ _ a9 b B;exact(I9.pin (b,o) (List.mem_append_right _ (List.mem_append_right _ (sk B e)))).2.1
  cases ok with
  |false =>
   rw[if_neg Bool.false_ne_true]at q8 ⊢;exact a0 I8 (hN _ _ q8)
  |true =>
   rw[if_pos rfl]at q8 ⊢;refine thn (he _ _ _ _ _ _ s8 a4 H8 _ I8 q8) λy s9 Zh=>?_;obtain⟨v9,H9,I9,r9,d4,c8,q9⟩:=Zh;refine thn (gm _ s9 a4 H9 (.ref s2.heap.objs.size) [v9] (.ref s2.heap.objs.size) [y] (λ_ c5=>c5=upd H9 s2.heap.objs.size (.lst (ys++[v9]))) I9 rfl (.cons r9 .nil) ⟨_,_,_,rfl,rfl,d4,c8,rfl⟩) λ_ e8 Zh=>?_;obtain⟨_,c5,e7,_,e0⟩:=Zh;subst e0;exact a0 e7 (hN _ _ q9)
 show codeAny _ _ _ _ ({s2 with heap:=h₁,toks:=s2.toks+([]:List (Str×Value)).length}:Shared);rw[es];exact codeAny_compStart_list a5 (Tn.self _ 0 _ _ _ stL a5)
def Rj(hc:X.calm=true)(hi:PI X tg iter wi)(S:y4 X.env.scope scope T F)(M:Paired (λx j=>X.N[j]?=some x) F js)(hg:∀ cl C fp s H,PG (yw X (T++F) scope cl C fp s H) tg g)(hk:cg T.length g)(ht:∀ cl C fp s H,PIf (yw X (T++F) scope cl C fp s H) ifs tc)(he:∀ cl C fp s H,PE (yw X (T++F) scope cl C fp s H) elt te)(hs:∀ x,foldedSetIterable iter X.env x=pure x:=by intro _;rfl):PE X (.ListComp elt [⟨tg,iter,ifs,0⟩] scope pos) (O8 wi T js g tc te):=by
 intro pn s G H Q I h;obtain⟨cl,Z,p1,p2⟩:=bz (di I S);rw[eval_ListComp];refine wpAny_comprehension_free (use:=none) rfl hs Z S.kind S.loc (thn (hi pn s G H _ I h) λv s1 h1=>thn h1 λa4 s2 h2=>?_);obtain⟨it,fp,tn,J,H2,e,I2,Tn,B,f2,q⟩:=h2;subst e;refine bx (RR:=λa0 C=>compPost (model X.prog X.w) X.A X.xe none (EP X pn G Q) a0 C) hc S M hg hk ht he p1 p2 I2 Tn B f2 (λD H'=>Q (.ref D) H') q ?_;intro D C H' s' m' hn fC I' z;obtain⟨f0,f1,f2,f3,f4,f5⟩:=fC;exact⟨m',hn,λh' sb=>⟨.ref D,H',I'.turned (t':=s'.toks) (λb o hb e=>(sb.2 b hb).trans e) f0 f1 f3 f4 f5,rfl,z⟩⟩
def bg(hc:X.calm=true)(hN:X.N.Nodup)(hy:X.N[i]?=some y)(hl:X.env.scope.names.lookup y=some .local\/X.env.scope.names.lookup y=some .cell)(hi:PI X tg iter wi)(S:y4 X.env.scope scope T F)(a5:Paired (λx j=>X.N[j]?=some x) F js)(hg:∀ cl C fp s H,PG (yw X (T++F) scope cl C fp s H) tg g)(hk:cg T.length g)(ht:∀ cl C fp s H,PIf (yw X (T++F) scope cl C fp s H) ifs tc)(he:∀ cl C fp s H,PE (yw X (T++F) scope cl C fp s H) elt te)(a4:swapsWith (.ListComp elt [⟨tg,iter,ifs,0⟩] scope pos) (some (.Name y py)) spos.line X.env=pure true:=by rfl)(hs:∀ x,foldedSetIterable iter X.env x=pure x:=by intro _;rfl)(a6:X.fn y=true\/X.env.scope.names.lookup y=some .local:=by first|exact .inl rfl|exact .inr rfl|assumption) :
  PS X (.Assign [.Name y py] (.ListComp elt [⟨tg,iter,ifs,0⟩] scope pos) spos) (λD G H=>O8 wi T js g tc te G H λv H1=>D.nx (G.set i (some v)) H1):=by
 intro pn s G H D I h;obtain⟨cl,a7,p1,p2⟩:=bz (di I S);rw[exec_Assign_Name_used _ _ _ _ a4];refine zaa (wpAny_standAt (zaa ?_));show wpAny _ X.A (do let _ <- comprehension (.ListComp elt [⟨tg,iter,ifs,0⟩] scope pos) scope X.env _ (newList []) false (eval iter X.env) (some (assign (.Name y py) X.env))) _ _ s
 refine zaa (thn (wpAny_comprehension_free (use:=some (assign (.Name y py) X.env)) (Q:=λ_ s'=>SP X pn D .next s') rfl hs a7 S.kind S.loc (thn (hi pn s G H _ I h) λv s1 h1=>thn h1 λb4 s2 h2=>?_)) λ_ s' hq=>zab (zab hq));obtain⟨it,fp,tn,J,H2,e,I2,Tn,M,f2,q⟩:=h2;subst e;refine bx (RR:=λa9 C=>compPost (model X.prog X.w) X.A X.xe (some (assign (.Name y py) X.env)) (λ_ s'=>SP X pn D .next s') a9 C) hc S a5 hg hk ht he p1 p2 I2 Tn M f2 (λB H'=>D.nx (G.set i (some (.ref B))) H') q ?_;intro B C H' s' m' hn fC I' z;obtain⟨f0,f1,f2,f3,f4,f5⟩:=fC;show wpAny _ X.A (assign (.Name y py) X.env (.ref B)) _ _ s';refine wpAny_assign_Name (Yj (v:=.ref B) I' hN hy hl rfl (λa0 b0 ch=>?_) a6);obtain⟨a,sb,ha⟩:=ch;have a8:C≠a:=by
  rcases ha with rfl|ha
  ·exact f1
  exact λz=>f4 y a ha z.symm
 exact⟨m',hn.sameBut sb a8,λh' Z=>⟨_,H',b0.turned (t':=a0.toks) (λb o hb e=>(Z.2 b hb).trans e) f0 f1 f3 f4 f5,z⟩⟩
end
def Itv(n:Nat)(val:Nat->V->Prop):It:=⟨λi _=>i<n,λi H x H'=>H'=H/\val i x,λi _=>i=n⟩
def Gg(x:Str)(i:Nat)(v:V):Prop:=∃c,x.cps[i]?=some c/\v=.str ⟨#[c]⟩
def O3{P:Program}{w:World}{K:W.Frag}{tg:Expr}{it:Addr}{x:Str}{t:Tok}{T:String}(W:∀ A:Around,A.handled=none->Walks P w A it [it] [it] x.cps.size (SignAt x) (λi h=>h.IsStrIter it T x t i))(hs:∀ (A:Around) (i:Nat) (s:Shared) (Q:Value->Shared->Prop) (E:Value->Shared->Prop),s.heap.IsStrIter it T x t i->Q (.ref it) s->wpAny (model P w) A (pyIter (.ref it)) Q E s)(hT:["enumerate","zip","dict_itemiterator","dict_reverseitemiterator","odict_iterator","itertools.zip_longest","itertools.pairwise"].contains T=false) :
  Turn P w K tg (Itv x.cps.size (Gg x)) [it] it (λi h=>h.IsStrIter it T x t i) where
 mem:=by simp
 obj:=λi h st b j=>by
  have e:b=it:=by simpa using j
  subst e;obtain⟨o,e,c,d⟩:=st;exact⟨o,e,λv z=>by rw[d]at z;cases z⟩
 keep:=λi h h' st k=>let ⟨o,e,r⟩:=st;⟨o,k it (by simp) o e,r⟩
 item:=by
  intro X hP N hK hc i pn s G H E I B st Z;subst hP N hK;obtain⟨f0,f1,f2,f3,f4,f5⟩:=B it (by simp)
  refine(W X.A (I.ok.hd hc)).item i s _ _ Z st λv h' tk hv q M=>?_;obtain⟨c,u,hx,rfl⟩:=hv;have I1:Inv X pn G H {s with heap:=h',toks:=tk}:=I.turned (λb o j e=>M b o (by simpa using j) e) f0 f1 f3 f4 f5
  obtain⟨o,e,c',d⟩:=id q;exact⟨_,rfl,Qo (s:={s with heap:=h',toks:=tk}) e c' d hT ⟨.str ⟨#[c]⟩,H,I1,⟨u,rfl⟩,⟨rfl,c,hx,rfl⟩,q,λb j=>(B b j).1⟩⟩
 done:=by
  intro X hP N hK hc i pn s G H E I B st Z;subst hP N hK;obtain⟨f0,f1,f2,f3,f4,f5⟩:=B it (by simp)
  have e:i=x.cps.size:=Z;subst e;exact(W X.A (I.ok.hd hc)).done s _ _ st λh' tk M=>⟨rfl,I.turned (λb o j e=>M b o (by simpa using j) e) f0 f1 f3 f4 f5⟩
 self:=λA i s Q E st h=>hs A i s Q E st h
def Uq:V->Option Bool
 |.bl b=>some b
 |.int i=>some (i != 0)
 |.non=>some false
 |_=>none
def Xw(ys:List V)(d:Bool)(i:Nat):Bool:=((ys[i]?).bind Uq).getD d
def Xr(ys:List V)(h:∀ y∈ys,(Uq y).isSome=true):(List.range ys.length).all (Xw ys true)=ys.all λy=>Uq y==some true:=by
 rw[Bool.eq_iff_iff,List.all_eq_true,List.all_eq_true];constructor
 ·intro q y B;obtain⟨i,hi,e⟩:=List.getElem_of_mem B;have z:=q i (List.mem_range.mpr hi);unfold Xw at z;rw[zaf hi,Option.bind_some,e]at z;obtain⟨b,I⟩:=Option.isSome_iff_exists.mp (h y B);rw[I]at z ⊢;simpa using z
 intro q i hi;have j:=List.mem_range.mp hi;have z:=q _ (List.getElem_mem j);unfold Xw;rw[zaf j,Option.bind_some,eq_of_beq z];rfl
def V6(d:Bool)(r:Vals ys its)(h:∀ y∈ys,(Uq y).isSome=true):TruthOf P w A (λi v=>its.toArray[i]?=some v) (Xw ys d):=by
 intro i v s Q E M j;obtain⟨y,B,q⟩:=ka r (show its[i]?=some v by simpa using M)
 unfold Xw at j;rw[B,Option.bind_some]at j;have I:=h y (zan B);cases y with
 |bl b=>cases q;exact wpAny_truthy_bool j
 |int k=>obtain⟨t,rfl⟩:=q;exact PySem.P.truthy_int j
 |non=>cases q;exact truthy_none j
 |_=>cases I
def Yy{s:Shared}{h':Heap}{o:Obj}(j:∀ b x,b∉[s.heap.objs.size]->(s.heap.push o).get? b=some x->h'.get? b=some x):∀b x,s.heap.get? b=some x->h'.get? b=some x :=
 λb x e=>j b x (by simpa using Nat.ne_of_lt (zae e)) (zac _ e)
def rAll(K:W.Frag)(f:List V->Bool):List V->Hp->VK->Prop:=λxs H Q=>∃p ys,xs=[.ref p]/\(SqL K H p ys\/SqT K H p ys)/\(∀y∈ys,(Uq y).isSome=true)/\Q (.bl (f ys)) H
def Xl(hc:X.calm=true):ux X (.builtin "all") (rAll X.K λys=>ys.all λy=>Uq y==some true):=by
 intro pn s G H xs us Q I r h;obtain⟨p,ys,rfl,N,Z,q⟩:=h;obtain⟨u,rfl,rx⟩:=jw r;cases rx;rcases N with N|N
 ·obtain⟨its,B,pl,hz⟩:=I.list N;have j:p<s.heap.objs.size:=by obtain⟨_,e,_⟩:=pl.isList;exact zae e
  refine call_all_walk (wpAny_pyIter_list pl.isList ⟨s.heap.objs.size,[s.heap.objs.size,p],[s.heap.objs.size],its.toArray.size,_,_,Xw ys true,rfl,Walks.list (A:=X.A.in1) (I.ok.hd hc) _ p (Nat.ne_of_lt j) its.toArray,
   ⟨⟨_,zad _ rfl,rfl,rfl⟩,pl.isList.push _⟩,V6 true B Z,λh' tk hk=>?_⟩)
  rw[zap,<- B.length,Xr ys Z];exact⟨.bl _,H,I.kept (Yy hk),rfl,q⟩
 obtain⟨its,B,pl,hz⟩:=I.tuple N;have j:p<s.heap.objs.size:=by obtain⟨_,e,_⟩:=pl;exact zae e
 have M:s.heap.IsTuple p its.toArray:=pl;refine call_all_walk (wpAny_pyIter_tuple M ⟨s.heap.objs.size,[s.heap.objs.size,p],[s.heap.objs.size],its.toArray.size,_,_,Xw ys true,rfl,Walks.tuple (A:=X.A.in1) (I.ok.hd hc) _ p (Nat.ne_of_lt j) its.toArray,
  ⟨⟨_,zad _ rfl,rfl,rfl⟩,M.at λo e=>zac _ e⟩,V6 true B Z,λh' tk hk=>?_⟩)
 rw[zap,<- B.length,Xr ys Z];exact⟨.bl _,H,I.kept (Yy hk),rfl,q⟩
theorem nd1(t:Str):([t]++[]).Nodup:=by simp
inductive D where
 |non|bl (b:Bool)|int (i:Int)|str (x:Str)|ty (n:String)
 |tup (ds:List D)|lst (ds:List D)|dk (ks:List Key) (ds:List D)
  |scr (ns:List Int)
    |sx (ds:List D)
   |ob (C:Addr) (ns:List Str) (ds:List D)
def Scr(K:W.Frag)(H:Hp)(a:Addr)(ns:List Int):Prop :=
 (∃o,H a=some (.frz o (.lst (ns.map V.int)))) \/
  ∃(o:Obj)(its:Array Value)(n:Nat),K.lookup a=some o/\o.cls=.type "list"/\o.dict=none/\o.data=.seq its n/\its.size<=sizeLine/\Vals (ns.map V.int) its.toList
def Scr.seq{K:W.Frag}{H:Hp}{a:Addr}{ns:List Int}(h:Scr K H a ns):SqL K H a (ns.map V.int):=by
 rcases h with⟨o,h⟩|h
 ·exact .inl (.inr ⟨o,h⟩)
 exact .inr h
def dzV(rs:List (List Int×Int)):List (List Key×V):=rs.map λp=>(p.1.map Sum.inl,V.int p.2)
def Dz(H:Hp)(a:Addr)(rs:List (List Int×Int)):Prop:=(∃o,H a=some (.frz o (.dT (dzV rs))))/\(rs.map Prod.fst).Nodup
def SqR(K:W.Frag)(H:Hp)(a:Addr)(xs:List V):Prop:=SqT K H a xs/\H a=some (.tup xs)
def StO(a:Addr)(xs:List V):HO:=.ext λh=>xs.length=3/\∃(k:Int)(its:List Value)(n:Nat),0<=k/\Vals (xs.take 1++V.int k::xs.drop 1) its/\h.get? a=some {cls:=.type "list",dict:=none,data:=.seq its.toArray n,slots:=#[]}
mutual
def Rep(K:W.Frag)(H:Hp)(O:List Addr):D->V->Prop
 |.non,v=>v=.non
 |.bl b,v=>v=.bl b
 |.int i,v=>v=.int i
 |.str x,v=>v=.str x
 |.ty n,v=>v=.ty n
 |.tup ds,v=>∃a xs,v=.ref a/\SqR K H a xs/\Reps K H O ds xs
 |.lst ds,v=>∃a xs,v=.ref a/\H a=some (.lst xs)/\a∉O/\Reps K H O ds xs
 |.scr ns,v=>∃a,v=.ref a/\Scr K H a ns
 |.sx ds,v=>∃a xs,v=.ref a/\H a=some (StO a xs)/\a∉O/\Reps K H O ds xs
 |.dk ks ds,v=>∃a xs,v=.ref a/\H a=some (.dK (ks.zip xs))/\a∉O/\ks.length=ds.length/\ks.Nodup/\Reps K H O ds xs
 |.ob C ns ds,v=>∃a dx xs,v=.ref a/\H a=some (.ins C dx (ns.zip xs))/\a∉O/\ns.length=ds.length/\ns.Nodup/\Reps K H O ds xs
def Reps(K:W.Frag)(H:Hp)(O:List Addr):List D->List V->Prop
 |[],xs=>xs=[]
 |d::ds,xs=>∃v r,xs=v::r/\Rep K H O d v/\Reps K H O ds r
end
structure Grow(O O':List Addr)(H H':Hp):Prop where
 keep:∀b u,H b=some u->b∉O->H' b=some u/\b∉O'
 tups:∀b xs,H b=some (.tup xs)->H' b=some (.tup xs)
 frzs:∀b o u,H b=some (.frz o u)->H' b=some (.frz o u)
def Grow.same(s:Same H H'):Grow O O H H':=⟨λb u h n=>⟨s b u h,n⟩,λb xs h=>s b _ h,λb o u h=>s b _ h⟩
theorem Grow.refl:Grow O O H H:=Grow.same (Same.refl H)
def Grow.trans(a:Grow O O' H H')(b:Grow O' O'' H' H''):Grow O O'' H H'' :=
 ⟨λc u h n=>let ⟨h',n'⟩:=a.keep c u h n;b.keep c u h' n',λc xs h=>b.tups c xs (a.tups c xs h),λc o u h=>b.frzs c o u (a.frzs c o u h)⟩
def Zc{K:W.Frag}{O O':List Addr}{H H':Hp}{a:Addr}{xs:List V}(g:Grow O O' H H')(h:SqT K H a xs):SqT K H' a xs:=by
 rcases h with(h|⟨o,h⟩)|h
 ·exact .inl (.inl (g.tups _ _ h))
 ·exact .inl (.inr ⟨o,g.frzs _ _ _ h⟩)
 exact .inr h
def Va{K:W.Frag}{O O':List Addr}{H H':Hp}{a:Addr}{xs:List V}(g:Grow O O' H H')(h:SqR K H a xs):SqR K H' a xs:=⟨Zc g h.1,g.tups _ _ h.2⟩
def jo{K:W.Frag}{O O':List Addr}{H H':Hp}{a:Addr}{ns:List Int}(g:Grow O O' H H')(h:Scr K H a ns):Scr K H' a ns:=by
 rcases h with⟨o,h⟩|h
 ·exact .inl ⟨o,g.frzs _ _ _ h⟩
 exact .inr h
mutual
theorem Rep.grow{K:W.Frag}{O O':List Addr}{H H':Hp}(g:Grow O O' H H'):∀(d:D)(v:V),Rep K H O d v->Rep K H' O' d v
 |.non,_,h=>h
 |.bl _,_,h=>h
 |.int _,_,h=>h
 |.str _,_,h=>h
 |.ty _,_,h=>h
 |.tup ds,v,h=>by
  obtain⟨a,xs,e,q,r⟩:=h;exact⟨a,xs,e,Va g q,Reps.grow g ds xs r⟩
 |.lst ds,v,h=>by
  obtain⟨a,xs,e,q,n,r⟩:=h;exact⟨a,xs,e,(g.keep _ _ q n).1,(g.keep _ _ q n).2,Reps.grow g ds xs r⟩
 |.scr ns,v,h=>by
  obtain⟨a,e,q⟩:=h;exact⟨a,e,jo g q⟩
 |.sx ds,v,h=>by
  obtain⟨a,xs,e,q,n,r⟩:=h;exact⟨a,xs,e,(g.keep _ _ q n).1,(g.keep _ _ q n).2,Reps.grow g ds xs r⟩
 |.dk ks ds,v,h=>by
  obtain⟨a,xs,e,q,n,l,j,r⟩:=h;exact⟨a,xs,e,(g.keep _ _ q n).1,(g.keep _ _ q n).2,l,j,Reps.grow g ds xs r⟩
 |.ob C ns ds,v,h=>by
  obtain⟨a,dx,xs,e,q,n,l,j,r⟩:=h;exact⟨a,dx,xs,e,(g.keep _ _ q n).1,(g.keep _ _ q n).2,l,j,Reps.grow g ds xs r⟩
theorem Reps.grow{K:W.Frag}{O O':List Addr}{H H':Hp}(g:Grow O O' H H'):∀(ds:List D)(xs:List V),Reps K H O ds xs->Reps K H' O' ds xs
 |[],_,h=>h
 |d::ds,xs,h=>by
  obtain⟨v,r,e,q,t⟩:=h;exact⟨v,r,e,Rep.grow g d v q,Reps.grow g ds r t⟩
end
mutual
theorem Rep.sub{K:W.Frag}{O O':List Addr}{H:Hp}(g:∀ a∈O',a∈O):∀(d:D)(v:V),Rep K H O d v->Rep K H O' d v
 |.non,_,h=>h
 |.bl _,_,h=>h
 |.int _,_,h=>h
 |.str _,_,h=>h
 |.ty _,_,h=>h
 |.tup ds,v,h=>by
  obtain⟨a,xs,e,q,r⟩:=h;exact⟨a,xs,e,q,Reps.sub g ds xs r⟩
 |.lst ds,v,h=>by
  obtain⟨a,xs,e,q,n,r⟩:=h;exact⟨a,xs,e,q,λz=>n (g a z),Reps.sub g ds xs r⟩
 |.scr _,_,h=>h
 |.sx ds,v,h=>by
  obtain⟨a,xs,e,q,n,r⟩:=h;exact⟨a,xs,e,q,λz=>n (g a z),Reps.sub g ds xs r⟩
 |.dk ks ds,v,h=>by
  obtain⟨a,xs,e,q,n,l,j,r⟩:=h;exact⟨a,xs,e,q,λz=>n (g a z),l,j,Reps.sub g ds xs r⟩
 |.ob C ns ds,v,h=>by
  obtain⟨a,dx,xs,e,q,n,l,j,r⟩:=h;exact⟨a,dx,xs,e,q,λz=>n (g a z),l,j,Reps.sub g ds xs r⟩
theorem Reps.sub{K:W.Frag}{O O':List Addr}{H:Hp}(g:∀ a∈O',a∈O):∀(ds:List D)(xs:List V),Reps K H O ds xs->Reps K H O' ds xs
 |[],_,h=>h
 |d::ds,xs,h=>by
  obtain⟨v,r,e,q,t⟩:=h;exact⟨v,r,e,Rep.sub g d v q,Reps.sub g ds r t⟩
end
mutual
def zj:D->Prop
 |.tup ds=>zw ds
 |.lst _=>False
 |.dk _ _=>False
 |.ob _ _ _=>False
 |.scr _=>True
 |.sx _=>False
 |.non=>True
 |.bl _=>True
 |.int _=>True
 |.str _=>True
 |.ty _=>True
def zw:List D->Prop
 |[]=>True
 |d::ds=>zj d/\zw ds
end
theorem yd:∀{ds:List D},zw ds ↔ ∀d∈ds,zj d
 |[]=>by simp[zw]
 |d::ds=>by
  rw[zw,yd];simp
mutual
theorem Rep.pure{K:W.Frag}{O O':List Addr}{H:Hp}:∀(d:D)(v:V),zj d->Rep K H O d v->Rep K H O' d v
 |.non,_,_,h=>h
 |.bl _,_,_,h=>h
 |.int _,_,_,h=>h
 |.str _,_,_,h=>h
 |.ty _,_,_,h=>h
 |.tup ds,v,p,h=>by
  obtain⟨a,xs,e,q,r⟩:=h;exact⟨a,xs,e,q,Reps.pure ds xs p r⟩
 |.scr _,_,_,h=>h
 |.sx _,_,p,_=>p.elim
 |.lst ds,v,p,h=>p.elim
 |.dk ks ds,v,p,h=>p.elim
 |.ob C ns ds,v,p,h=>p.elim
theorem Reps.pure{K:W.Frag}{O O':List Addr}{H:Hp}:∀(ds:List D)(xs:List V),zw ds->Reps K H O ds xs->Reps K H O' ds xs
 |[],_,_,h=>h
 |d::ds,xs,p,h=>by
  obtain⟨v,r,e,q,t⟩:=h;exact⟨v,r,e,Rep.pure d v p.1 q,Reps.pure ds r p.2 t⟩
end
mutual
def RepN(K:W.Frag)(H:Hp)(P:Addr->Prop):D->V->Prop
 |.non,v=>v=.non
 |.bl b,v=>v=.bl b
 |.int i,v=>v=.int i
 |.str x,v=>v=.str x
 |.ty n,v=>v=.ty n
 |.tup ds,v=>∃a xs,v=.ref a/\SqR K H a xs/\xn K H P ds xs
 |.lst ds,v=>∃a xs,v=.ref a/\H a=some (.lst xs)/\P a/\xn K H P ds xs
 |.scr ns,v=>∃a,v=.ref a/\Scr K H a ns
 |.sx ds,v=>∃a xs,v=.ref a/\H a=some (StO a xs)/\P a/\xn K H P ds xs
 |.dk ks ds,v=>∃a xs,v=.ref a/\H a=some (.dK (ks.zip xs))/\P a/\ks.length=ds.length/\ks.Nodup/\xn K H P ds xs
 |.ob C ns ds,v=>∃a dx xs,v=.ref a/\H a=some (.ins C dx (ns.zip xs))/\P a/\ns.length=ds.length/\ns.Nodup/\xn K H P ds xs
def xn(K:W.Frag)(H:Hp)(P:Addr->Prop):List D->List V->Prop
 |[],xs=>xs=[]
 |d::ds,xs=>∃v r,xs=v::r/\RepN K H P d v/\xn K H P ds r
end
mutual
theorem RepN.to{K:W.Frag}{P B:Addr->Prop}{H H':Hp}(s:Same H H')(g:∀ a,P a->B a):∀(d:D)(v:V),RepN K H P d v->RepN K H' B d v
 |.non,_,h=>h
 |.bl _,_,h=>h
 |.int _,_,h=>h
 |.str _,_,h=>h
 |.ty _,_,h=>h
 |.tup ds,v,h=>by
  obtain⟨a,xs,e,q,r⟩:=h;exact⟨a,xs,e,Va (Grow.same (O:=[]) s) q,xn.to s g ds xs r⟩
 |.lst ds,v,h=>by
  obtain⟨a,xs,e,q,n,r⟩:=h;exact⟨a,xs,e,s _ _ q,g a n,xn.to s g ds xs r⟩
 |.scr ns,v,h=>by
  obtain⟨a,e,q⟩:=h;exact⟨a,e,jo (Grow.same (O:=[]) s) q⟩
 |.sx ds,v,h=>by
  obtain⟨a,xs,e,q,n,r⟩:=h;exact⟨a,xs,e,s _ _ q,g a n,xn.to s g ds xs r⟩
 |.dk ks ds,v,h=>by
  obtain⟨a,xs,e,q,n,l,j,r⟩:=h;exact⟨a,xs,e,s _ _ q,g a n,l,j,xn.to s g ds xs r⟩
 |.ob C ns ds,v,h=>by
  obtain⟨a,dx,xs,e,q,n,l,j,r⟩:=h;exact⟨a,dx,xs,e,s _ _ q,g a n,l,j,xn.to s g ds xs r⟩
theorem xn.to{K:W.Frag}{P j:Addr->Prop}{H H':Hp}(s:Same H H')(g:∀ a,P a->j a):∀(ds:List D)(xs:List V),xn K H P ds xs->xn K H' j ds xs
 |[],_,h=>h
 |d::ds,xs,h=>by
  obtain⟨v,r,e,q,t⟩:=h;exact⟨v,r,e,RepN.to s g d v q,xn.to s g ds r t⟩
end
mutual
theorem RepN.rep{K:W.Frag}{P:Addr->Prop}{H:Hp}{O:List Addr}(g:∀ a,P a->a∉O):∀(d:D)(v:V),RepN K H P d v->Rep K H O d v
 |.non,_,h=>h
 |.bl _,_,h=>h
 |.int _,_,h=>h
 |.str _,_,h=>h
 |.ty _,_,h=>h
 |.tup ds,v,h=>by
  obtain⟨a,xs,e,q,r⟩:=h;exact⟨a,xs,e,q,xn.reps g ds xs r⟩
 |.lst ds,v,h=>by
  obtain⟨a,xs,e,q,n,r⟩:=h;exact⟨a,xs,e,q,g a n,xn.reps g ds xs r⟩
 |.scr _,_,h=>h
 |.sx ds,v,h=>by
  obtain⟨a,xs,e,q,n,r⟩:=h;exact⟨a,xs,e,q,g a n,xn.reps g ds xs r⟩
 |.dk ks ds,v,h=>by
  obtain⟨a,xs,e,q,n,l,j,r⟩:=h;exact⟨a,xs,e,q,g a n,l,j,xn.reps g ds xs r⟩
 |.ob C ns ds,v,h=>by
  obtain⟨a,dx,xs,e,q,n,l,j,r⟩:=h;exact⟨a,dx,xs,e,q,g a n,l,j,xn.reps g ds xs r⟩
theorem xn.reps{K:W.Frag}{P:Addr->Prop}{H:Hp}{O:List Addr}(g:∀ a,P a->a∉O):∀(ds:List D)(xs:List V),xn K H P ds xs->Reps K H O ds xs
 |[],_,h=>h
 |d::ds,xs,h=>by
  obtain⟨v,r,e,q,t⟩:=h;exact⟨v,r,e,RepN.rep g d v q,xn.reps g ds r t⟩
end
mutual
theorem Rep.toN{K:W.Frag}{P:Addr->Prop}{O:List Addr}{H:Hp}:∀(d:D)(v:V),zj d->Rep K H O d v->RepN K H P d v
 |.non,_,_,h=>h
 |.bl _,_,_,h=>h
 |.int _,_,_,h=>h
 |.str _,_,_,h=>h
 |.ty _,_,_,h=>h
 |.tup ds,v,p,h=>by
  obtain⟨a,xs,e,q,r⟩:=h;exact⟨a,xs,e,q,Reps.toN ds xs p r⟩
 |.scr _,_,_,h=>h
 |.sx _,_,p,_=>p.elim
 |.lst ds,v,p,h=>p.elim
 |.dk ks ds,v,p,h=>p.elim
 |.ob C ns ds,v,p,h=>p.elim
theorem Reps.toN{K:W.Frag}{P:Addr->Prop}{O:List Addr}{H:Hp}:∀(ds:List D)(xs:List V),zw ds->Reps K H O ds xs->xn K H P ds xs
 |[],_,_,h=>h
 |d::ds,xs,p,h=>by
  obtain⟨v,r,e,q,t⟩:=h;exact⟨v,r,e,Rep.toN d v p.1 q,Reps.toN ds r p.2 t⟩
end
theorem xn.append{K:W.Frag}{P:Addr->Prop}{H:Hp}:∀{ds es:List D}{xs ys:List V},xn K H P ds xs->xn K H P es ys->xn K H P (ds++es) (xs++ys)
 |[],es,xs,ys,h,h'=>by cases h;exact h'
 |d::ds,es,xs,ys,h,h'=>by
  obtain⟨v,r,rfl,q,t⟩:=h;exact⟨v,r++ys,rfl,q,xn.append t h'⟩
theorem xn.length{K:W.Frag}{P:Addr->Prop}{H:Hp}{ds:List D}{xs:List V}(h:xn K H P ds xs):xs.length=ds.length:=by
 induction ds generalizing xs with
 |nil=>cases (show xs=[] from h);rfl
 |cons d ds ih =>
  obtain⟨v,r,rfl,_,t⟩:=h;simp[ih t]
variable{O:List Addr}
theorem Reps.length:∀{ds:List D}{xs:List V},Reps K H O ds xs->xs.length=ds.length
 |[],_,h=>by cases h;rfl
 |d::ds,xs,h=>by
  obtain⟨v,r,e,_,t⟩:=h;subst e;simp[Reps.length t]
theorem Reps.get:∀{ds:List D}{xs:List V}{i:Nat}{d:D},Reps K H O ds xs->ds[i]?=some d->∃v,xs[i]?=some v/\Rep K H O d v
 |[],_,_,_,_,e=>by simp at e
 |d::ds,xs,0,d',h,e=>by
  obtain⟨v,r,rfl,q,_⟩:=h;simp at e;subst e;exact⟨v,rfl,q⟩
 |d::ds,xs,i+1,d',h,e=>by
  obtain⟨v,r,rfl,_,t⟩:=h;obtain⟨j,I,B⟩:=Reps.get (i:=i) t (by simpa using e)
  exact⟨j,by simpa using I,B⟩
theorem Reps.append:∀{ds es:List D}{xs ys:List V},Reps K H O ds xs->Reps K H O es ys->Reps K H O (ds++es) (xs++ys)
 |[],es,xs,ys,h,h'=>by cases h;exact h'
 |d::ds,es,xs,ys,h,h'=>by
  obtain⟨v,r,rfl,q,t⟩:=h;exact⟨v,r++ys,rfl,q,Reps.append t h'⟩
def Reps.one(h:Rep K H O d v):Reps K H O [d] [v]:=⟨v,[],rfl,h,rfl⟩
theorem Reps.take:∀{ds:List D}{xs:List V}(n:Nat),Reps K H O ds xs->Reps K H O (ds.take n) (xs.take n)
 |_,_,0,_=>rfl
 |[],_,n+1,h=>by cases h;rfl
 |d::ds,xs,n+1,h=>by
  obtain⟨v,r,rfl,q,t⟩:=h;exact⟨v,r.take n,rfl,q,Reps.take n t⟩
theorem Reps.drop:∀{ds:List D}{xs:List V}(n:Nat),Reps K H O ds xs->Reps K H O (ds.drop n) (xs.drop n)
 |_,_,0,h=>h
 |[],_,n+1,h=>by cases h;rfl
 |d::ds,xs,n+1,h=>by
  obtain⟨v,r,rfl,q,t⟩:=h;exact Reps.drop n t
theorem Reps.set:∀{ds:List D}{xs:List V}(n:Nat){d:D}{v:V},Rep K H O d v->Reps K H O ds xs->Reps K H O (ds.set n d) (xs.set n v)
 |[],_,_,_,_,_,h=>by cases h;rfl
 |d::ds,xs,0,d',v',q',h=>by
  obtain⟨v,r,rfl,q,t⟩:=h;exact⟨v',r,rfl,q',t⟩
 |d::ds,xs,n+1,d',v',q',h=>by
  obtain⟨v,r,rfl,q,t⟩:=h;exact⟨v,r.set n v',rfl,q,Reps.set n q' t⟩
theorem Reps.ints:∀(ns:List Int),Reps K H O (ns.map D.int) (ns.map V.int)
 |[]=>rfl
 |n::ns=>⟨_,_,rfl,rfl,Reps.ints ns⟩
theorem Reps.dropLast(h:Reps K H O ds xs):Reps K H O ds.dropLast xs.dropLast:=by
 rw[List.dropLast_eq_take,List.dropLast_eq_take,h.length];exact h.take _
theorem Reps.rep(h:Reps K H O ds xs):∀k:Nat,Reps K H O (List.replicate k ds).flatten (List.replicate k xs).flatten
 |0=>rfl
 |k+1=>by
  rw[List.replicate_succ,List.replicate_succ,List.flatten_cons,List.flatten_cons];exact h.append (Reps.rep h k)
def View(K:W.Frag)(H:Hp)(O:List Addr)(d:D)(v:V):Prop:=match d with
 |.lst ds=>∃a xs,v=.ref a/\H a=some (.lst xs)/\Reps K H O ds xs
 |.dk ks ds=>∃a xs,v=.ref a/\H a=some (.dK (ks.zip xs))/\ks.length=ds.length/\ks.Nodup/\Reps K H O ds xs
 |d=>Rep K H O d v
def Con1(K:W.Frag)(H:Hp)(O:List Addr)(d:D)(a:Addr):Prop:=match d with
 |.lst ds=>∃xs,H a=some (.lst xs)/\Reps K H O ds xs
 |.dk ks ds=>∃xs,H a=some (.dK (ks.zip xs))/\ks.length=ds.length/\ks.Nodup/\Reps K H O ds xs
 |_=>False
def Rep.view{K:W.Frag}{H:Hp}{O:List Addr}{d:D}{v:V}(h:Rep K H O d v):View K H O d v:=by
 cases d with
 |lst ds=>obtain⟨a,xs,e,q,_,r⟩:=h;exact⟨a,xs,e,q,r⟩
 |dk ks ds=>obtain⟨a,xs,e,q,_,r⟩:=h;exact⟨a,xs,e,q,r⟩
 |_=>exact h
def Con1.view{K:W.Frag}{H:Hp}{O:List Addr}{d:D}{a:Addr}(h:Con1 K H O d a):View K H O d (.ref a):=by
 cases d with
 |lst ds=>obtain⟨xs,q,r⟩:=h;exact⟨a,xs,rfl,q,r⟩
 |dk ks ds=>obtain⟨xs,q,r⟩:=h;exact⟨a,xs,rfl,q,r⟩
 |_=>exact h.elim
def Con1.rep{K:W.Frag}{H:Hp}{O:List Addr}{d:D}{a:Addr}(h:Con1 K H O d a)(n:a∉O):Rep K H O d (.ref a):=by
 cases d with
 |lst ds=>obtain⟨xs,q,r⟩:=h;exact⟨a,xs,rfl,q,n,r⟩
 |dk ks ds=>obtain⟨xs,q,r⟩:=h;exact⟨a,xs,rfl,q,n,r⟩
 |_=>exact h.elim
def Con1.same{K:W.Frag}{H H':Hp}{O:List Addr}{d:D}{a:Addr}(h:Con1 K H O d a)(s:Same H H'):Con1 K H' O d a:=by
 cases d with
 |lst ds=>obtain⟨xs,q,r⟩:=h;exact⟨xs,s _ _ q,Reps.grow (Grow.same s) _ _ r⟩
 |dk ks ds=>obtain⟨xs,q,l,n,r⟩:=h;exact⟨xs,s _ _ q,l,n,Reps.grow (Grow.same s) _ _ r⟩
 |_=>exact h.elim
def Con1.sub{K:W.Frag}{H:Hp}{O O':List Addr}{d:D}{a:Addr}(h:Con1 K H O d a)(g:∀ a∈O',a∈O):Con1 K H O' d a:=by
 cases d with
 |lst ds=>obtain⟨xs,q,r⟩:=h;exact⟨xs,q,Reps.sub g _ _ r⟩
 |dk ks ds=>obtain⟨xs,q,l,n,r⟩:=h;exact⟨xs,q,l,n,Reps.sub g _ _ r⟩
 |_=>exact h.elim
theorem View.sub{K:W.Frag}{H:Hp}{O O':List Addr}{d:D}{v:V}(h:View K H O d v)(g:∀ a∈O',a∈O):View K H O' d v:=by
 cases d with
 |lst ds=>obtain⟨a,xs,e,q,r⟩:=h;exact⟨a,xs,e,q,Reps.sub g _ _ r⟩
 |dk ks ds=>obtain⟨a,xs,e,q,l,n,r⟩:=h;exact⟨a,xs,e,q,l,n,Reps.sub g _ _ r⟩
 |_=>exact Rep.sub g _ _ h
def View.rep0{K:W.Frag}{H:Hp}{O:List Addr}{d:D}{v:V}(h:View K H O d v):Rep K H [] d v:=by
 have h:=h.sub (O':=[]) (λ_ z=>nomatch z);cases d with
 |lst ds=>obtain⟨a,xs,e,q,r⟩:=h;exact⟨a,xs,e,q,by simp,r⟩
 |dk ks ds=>obtain⟨a,xs,e,q,l,n,r⟩:=h;exact⟨a,xs,e,q,by simp,l,n,r⟩
 |_=>exact h
inductive Kd where|val|own|fre|new
 deriving DecidableEq
structure EV where
 k:Kd
 d:D
abbrev DE:=List (Option EV)
abbrev dv(d:D):EV:=⟨.val,d⟩
abbrev df(d:D):EV:=⟨.fre,d⟩
abbrev dO(d:D):EV:=⟨.own,d⟩
abbrev q_(d:D):Option EV:=some (dv d)
abbrev Q_(d:D):Option EV:=some (dO d)
def RV(K:W.Frag)(H0 H:Hp)(O:List Addr)(r:EV)(v:V):Prop:=match r.k with
 |.val=>Rep K H O r.d v
 |.own=>∃a,v=.ref a/\a∈O/\Con1 K H O r.d a
 |.fre=>∃a,v=.ref a/\H0 a=none/\a∉O/\Con1 K H (a::O) r.d a
 |.new=>RepN K H (λa=>a∉O/\H0 a=none) r.d v
variable{H0 H1:Hp}{r:EV}
def RV.val(h:Rep K H O d v):RV K H0 H O (dv d) v:=h
theorem RV.same(h:RV K H0 H O r v)(s:Same H H'):RV K H0 H' O r v:=by
 obtain⟨k,d⟩:=r;cases k with
 |val=>exact Rep.grow (Grow.same s) _ _ h
 |own=>obtain⟨a,e,m,c⟩:=h;exact⟨a,e,m,c.same s⟩
 |fre=>obtain⟨a,e,m,n,c⟩:=h;exact⟨a,e,m,n,c.same s⟩
 |new=>exact RepN.to s (λ_ z=>z) _ _ h
def RV.start(h:RV K H0 H O r v)(s:Same H1 H0):RV K H1 H O r v:=by
 obtain⟨k,d⟩:=r;cases k with
 |val=>exact h
 |own=>exact h
 |fre=>obtain⟨a,e,m,n,c⟩:=h;exact⟨a,e,s.free m,n,c⟩
 |new=>exact RepN.to (Same.refl H) (λa z=>⟨z.1,s.free z.2⟩) _ _ h
theorem RV.view(h:RV K H0 H O r v):View K H O r.d v:=by
 obtain⟨k,d⟩:=r;cases k with
 |val=>exact Rep.view h
 |own=>obtain⟨a,e,m,c⟩:=h;subst e;exact c.view
 |fre=>obtain⟨a,e,m,n,c⟩:=h;subst e;exact(c.sub λb j=>zal _ j).view
 |new=>exact(RepN.rep (λa z=>z.1) _ _ h).view
def RV.solid(h:RV K H0 H O r v)(j:r.k≠.own):Rep K H O r.d v:=by
 obtain⟨k,d⟩:=r;cases k with
 |val=>exact h
 |own=>exact absurd rfl j
 |fre=>obtain⟨a,e,m,n,c⟩:=h;subst e;exact(c.sub λb q=>zal _ q).rep n
 |new=>exact RepN.rep (λa z=>z.1) _ _ h
structure REnv(K:W.Frag)(H_ H:Hp)(G:St)(U:DE)(o:List (Nat×Addr)):Prop where
 same:Same H_ H
 fresh:∀p∈o,H_ p.2=none
 trk:∀p∈o,∃u,H p.2=some u
 mtb:∀p∈o,(∀xs,H p.2≠some (.tup xs))/\∀ob u,H p.2≠some (.frz ob u)
 nda:(o.map Prod.snd).Nodup
 slots:∀i r,U[i]?=some (some r)->∃v,G[i]?=some (some v)/\((r.k=.val/\Rep K H (o.map Prod.snd) r.d v)\/(r.k=.own/\∃a,v=.ref a/\(i,a)∈o/\Con1 K H (o.map Prod.snd) r.d a))
 len:G.length=U.length
variable{H_:Hp}{U:DE}{o:List (Nat×Addr)}
def REnv.to(R:REnv K H_ H G U o)(s:Same H H'):REnv K H_ H' G U o where
 same:=R.same.trans s
 fresh:=R.fresh
 trk:=λp j=>let ⟨u,e⟩:=R.trk p j;⟨u,s _ _ e⟩
 mtb:=λp j=>by
  obtain⟨u,e⟩:=R.trk p j;obtain⟨I,B⟩:=R.mtb p j;refine⟨λxs z=>?_,λq w z=>?_⟩
  ·rw[s _ _ e]at z;rw[<- e]at z;exact I xs z
  rw[s _ _ e]at z;rw[<- e]at z;exact B q w z
 nda:=R.nda
 slots:=λi r e=>by
  obtain⟨v,M,h⟩:=R.slots i r e;refine⟨v,M,?_⟩;rcases h with⟨k,h⟩|⟨k,a,e1,m,c⟩
  ·exact .inl ⟨k,Rep.grow (Grow.same s) _ _ h⟩
  exact .inr ⟨k,a,e1,m,c.same s⟩
 len:=R.len
def REnv.ofree(R:REnv K H_ H G U o)(h:H a=none):a∉o.map Prod.snd:=λz=>by
 obtain⟨p,j,e⟩:=zah.mp z;obtain⟨u,q⟩:=R.trk p j;rw[e,h]at q;cases q
abbrev TD:=DE->(EV->Prop)->Prop
abbrev TDb:=DE->(Bool->Prop)->Prop
abbrev TDs:=DE->(List EV->Prop)->Prop
structure DZ where
 nx:DE->Prop
 rt:EV->Prop
 bk:DE->Prop:=λ_=>False
 ct:DE->Prop:=λ_=>False
abbrev TDS:=DE->DZ->Prop
def RVs(K:W.Frag)(H0 H:Hp)(O:List Addr):List EV->List V->Prop
 |[],vs=>vs=[]
 |r::rs,vs=>∃v ws,vs=v::ws/\RV K H0 H O r v/\RVs K H0 H O rs ws
theorem RVs.same{K:W.Frag}{H0 H H':Hp}{O:List Addr}(s:Same H H'):∀{rs:List EV}{vs:List V},RVs K H0 H O rs vs->RVs K H0 H' O rs vs
 |[],_,h=>h
 |r::rs,vs,h=>by
  obtain⟨v,j,e,q,t⟩:=h;exact⟨v,j,e,q.same s,t.same s⟩
theorem RVs.start{K:W.Frag}{H0 H1 H:Hp}{O:List Addr}(s:Same H1 H0):∀{rs:List EV}{vs:List V},RVs K H0 H O rs vs->RVs K H1 H O rs vs
 |[],_,h=>h
 |r::rs,vs,h=>by
  obtain⟨v,j,e,q,t⟩:=h;exact⟨v,j,e,q.start s,t.start s⟩
theorem RVs.reps{K:W.Frag}{H0 H:Hp}{O:List Addr}:∀{rs:List EV}{vs:List V},RVs K H0 H O rs vs->(∀r∈rs,r.k≠.own)->Reps K H O (rs.map EV.d) vs
 |[],_,h,_=>h
 |r::rs,vs,h,n=>by
  obtain⟨v,j,e,q,t⟩:=h;exact⟨v,j,e,q.solid (n r (zao ..)),t.reps λB h'=>n B (zal _ h')⟩
theorem RVs.reps0{K:W.Frag}{H0 H:Hp}{O:List Addr}:∀{rs:List EV}{vs:List V},RVs K H0 H O rs vs->Reps K H [] (rs.map EV.d) vs
 |[],_,h=>h
 |r::rs,vs,h=>by
  obtain⟨v,j,e,q,t⟩:=h;exact⟨v,j,e,q.view.rep0,t.reps0⟩
def qo(K:W.Frag)(H_:Hp)(t:TD):TE:=λG H Q=>∃U o,REnv K H_ H G U o/\∃Y,t U Y/\∀v r H',Same H H'->RV K H H' (o.map Prod.snd) r v->Y r->Q v H'
def Zn(K:W.Frag)(H_:Hp)(t:TDb):TT:=λG H Q=>∃U o,REnv K H_ H G U o/\∃Y,t U Y/\∀b H',Same H H'->Y b->Q b H'
def Jw(K:W.Frag)(H_:Hp)(t:TDs):TA:=λG H Q=>∃U o,REnv K H_ H G U o/\∃Y,t U Y/\∀vs rs H',Same H H'->RVs K H H' (o.map Prod.snd) rs vs->Y rs->Q vs H'
def Qa(K:W.Frag)(H_:Hp)(t:TDS):TS:=λD G H=>∃U o,REnv K H_ H G U o/\∃Z,t U Z /\
 (∀ρ' σ' H' o',Grow (o.map Prod.snd) (o'.map Prod.snd) H H'->REnv K H_ H' σ' ρ' o'->Z.nx ρ'->D.nx σ' H') /\
 (∀ρ' σ' H' o',Grow (o.map Prod.snd) (o'.map Prod.snd) H H'->REnv K H_ H' σ' ρ' o'->Z.bk ρ'->D.bk σ' H') /\
 (∀ρ' σ' H' o',Grow (o.map Prod.snd) (o'.map Prod.snd) H H'->REnv K H_ H' σ' ρ' o'->Z.ct ρ'->D.ct σ' H') /\
 (∀v r H',Same H_ H'->RV K H_ H' [] r v->Z.rt r->D.rt v H')
def ED(G:Hp->Prop)(X:Cx)(e:Expr)(t:TD):Prop:=∀H_:{H:Hp // G H},PE X e (qo X.K H_.1 t)
def ET(G:Hp->Prop)(X:Cx)(e:Expr)(t:TDb):Prop:=∀H_:{H:Hp // G H},PT X e (Zn X.K H_.1 t)
def EW(G:Hp->Prop)(X:Cx)(e:Expr)(t:TDb):Prop:=∀H_:{H:Hp // G H},PW X e (Zn X.K H_.1 t)
def EA(G:Hp->Prop)(X:Cx)(es:List Expr)(t:TDs):Prop:=∀H_:{H:Hp // G H},PA X es (Jw X.K H_.1 t)
def SD(G:Hp->Prop)(X:Cx)(st:Stmt)(t:TDS):Prop:=∀H_:{H:Hp // G H},PS X st (Qa X.K H_.1 t)
def SDs(G:Hp->Prop)(X:Cx)(st:List Stmt)(t:TDS):Prop:=∀H_:{H:Hp // G H},PSs X st (Qa X.K H_.1 t)
def impE(h:PE X e t)(i:∀ G H Q,t' G H Q->t G H Q):PE X e t':=λpn s G H Q I q=>h pn s G H Q I (i G H Q q)
def impT(h:PT X e t)(i:∀ G H Q,t' G H Q->t G H Q):PT X e t':=λpn s G H Q I q=>h pn s G H Q I (i G H Q q)
def impW(h:PW X e t)(i:∀ G H Q,t' G H Q->t G H Q):PW X e t':=λj pn s G H Q I q=>h j pn s G H Q I (i G H Q q)
def impA(h:PA X es t)(i:∀ G H Q,t' G H Q->t G H Q):PA X es t':=λpos pn s G H Q I q=>h pos pn s G H Q I (i G H Q q)
def impS{X:Cx}{st:Stmt}{t t':TS}(h:PS X st t)(i:∀ D G H,t' D G H->t D G H):PS X st t':=λpn s G H D I q=>h pn s G H D I (i D G H q)
def Wn{X:Cx}{st:List Stmt}{t t':TS}(h:PSs X st t)(i:∀ D G H,t' D G H->t D G H):PSs X st t':=λpn s G H D I q=>h pn s G H D I (i D G H q)
variable{L:Hp->Prop}
def slot:DE->Nat->Option EV
 |[],_=>none
 |x::_,0=>x
 |_::r,i+1=>slot r i
theorem vd:∀{U:DE}{i:Nat}{r:EV},slot U i=some r->U[i]?=some (some r)
 |[],_,_,h=>by cases h
 |x::_,0,_,h=>by cases h;rfl
 |_::l,i+1,r,h=>by rw[List.getElem?_cons_succ];exact vd (U:=l) h
def uh(i:Nat):TD:=λU Y=>match slot U i with
 |some r=>Y r
 |none=>False
def dC(d:D):TD:=λ_ Y=>Y (dv d)
section
variable{a b c e:Expr}{ta tb:TD}{pos:Pos}
def z9(i:Nat){x:Str}(M:X.N[i]?=some x:=by rfl)(B:Vis X.env.scope x:=by walk_at "o")(I:D_ x:=by decide)(q:(x==("__classdict__" : Str))=false:=by decide):ED L X (.Name x pos) (uh i):=λH_=>impE (uu M B I q) λG H Q h=>by
 obtain⟨U,o,R,Y,j,k⟩:=h;cases e:slot U i with
 |none =>
  simp only[uh,e]at j
 |some r =>
  simp only[uh,e]at j;obtain⟨v,Z,h⟩:=R.slots i r (vd e);refine⟨v,Z,k v r H (Same.refl H) ?_ j⟩;obtain⟨kd,d⟩:=r;rcases h with⟨rfl,h⟩|⟨rfl,a,e1,m,c⟩
  ·exact h
  exact⟨a,e1,zah.mpr ⟨_,m,rfl⟩,c⟩
def ed_c{x:Expr}(h:PE X x (tC v))(hr:∀ H O,Rep X.K H O d v):ED L X x (dC d):=λH_=>impE h λG H Q h=>by
 obtain⟨U,o,R,Y,j,k⟩:=h;exact k v (dv d) H (Same.refl H) (hr H _) j
def zc {j pos}:ED L X (.Constant (.int i) j pos) (dC (.int i)):=ed_c ui λ_ _=>rfl
def u7{b:Bool} {j pos}:ED L X (.Constant (.bool b) j pos) (dC (.bl b)):=ed_c Be λ_ _=>rfl
def vj {j pos}:ED L X (.Constant .none j pos) (dC .non):=ed_c Ef λ_ _=>rfl
def zf{x:Str} {j pos}:ED L X (.Constant (.str x) j pos) (dC (.str x)):=ed_c Ec λ_ _=>rfl
structure GC(K:W.Frag)(mg:Str->Option Value)(x:Str)(d:D):Prop where
 ex:∃u v,mg x=some u/\RelV v u/\∀H O,Rep K H O d v
def Pd{x:Str}(G:GC X.K X.mg x d)(q:Gl X x:=by rfl)(B:D_ x:=by decide):ED L X (.Name x pos) (dC d):=by
 obtain⟨u,v,j,r,h⟩:=G.ex;exact ed_c (Jd q j r B) h
def qu{x:Str}(B:X.mg x=none)(j:bootBuiltins x=some (.type n))(I:Gl X x:=by rfl)(q:x≠"__name__":=by decide)(M:D_ x:=by decide):ED L X (.Name x pos) (dC (.ty n)) :=
 ed_c (Jf I B j (v:=.ty n) rfl q M) λ_ _=>rfl
def ja(K:W.Frag)(j:R2)(s:D->D->(EV->Prop)->Prop):Prop :=
 ∀(H:Hp)(O:List Addr)(x y:D)(vx vy:V)(Y:EV->Prop)(Q:VK),(∀a,H a=none->a∉O)->View K H O x vx->View K H O y vy->s x y Y ->
  (∀v r H',Same H H'->RV K H H' O r v->Y r->Q v H')->j vx vy H Q
def d2(s:D->D->(EV->Prop)->Prop)(ta tb:TD):TD:=λU Y=>ta U λx=>tb U λy=>s x.d y.d Y
def Ng{s:D->D->(EV->Prop)->Prop}(hl:ja X.K rr s):∀G H Q,qo X.K H_ (d2 s ta tb) G H Q->tOp rr (qo X.K H_ ta) (qo X.K H_ tb) G H Q:=λG H Q h=>by
 obtain⟨U,o,R,Y,B,k⟩:=h;refine⟨U,o,R,_,B,λM r1 H1 s1 q h1=>⟨U,o,R.to s1,_,h1,λI r2 H2 s2 j h2=>?_⟩⟩;exact hl H2 _ r1.d r2.d M I Y Q (λa e=>R.ofree ((s1.trans s2).free e)) (q.same s2).view j.view h2 λv r H' N Z h=>k v r H' (s1.trans (s2.trans N)) (Z.start (s1.trans s2)) h
def bw{s:D->D->(EV->Prop)->Prop}(ho:OpR X (binaryOp op) rr)(hl:ja X.K rr s)(q:ED L X a ta)(j:ED L X b tb):ED L X (.BinOp a op b pos) (d2 s ta tb):=λH_ =>
 impE (Uv ho (q H_) (j H_)) (Ng hl)
def Pe{s:D->D->(EV->Prop)->Prop}(ho:OpR X (compareOp op) rr)(hl:ja X.K rr s)(B:ED L X a ta)(q:ED L X b tb)(j:behindInMarks op b=false):ED L X (.Compare a [op] [b] pos) (d2 s ta tb):=λH_ =>
 impE (Rk ho (B H_) (q H_) j) (Ng hl)
def Ji:OpR X (binaryOp .Mult) (rI IntMulOk λi j=>.int (i*j)):=opI λ_ _ _ _ _ _ _ B q=>PyProof.Rows.mul_int q B
def FdOk(i j:Int):Prop:=j≠0/\j.natAbs.log2<9000
def N4:OpR X (binaryOp .FloorDiv) (rI FdOk λi j=>.int (i.fdiv j)):=opI λ_ _ _ _ _ _ _ B q=>floordiv_int B.1 q (.inl (PyProof.noPylong_of_log2 B.2))
def sI(C:Int->Int->Prop)(g:Int->Int->D):D->D->(EV->Prop)->Prop:=λx y Y=>match x,y with
 |.int i,.int j=>C i j/\Y (dv (g i j))
 |_,_=>False
def Q7{K:W.Frag}{C:Int->Int->Prop}{g:Int->Int->D}{gv:Int->Int->V}(I:∀ i j H O,Rep K H O (g i j) (gv i j)):ja K (rI C gv) (sI C g):=by
 intro H O x y N M Y Q ho B q h k;unfold sI at h;split at h
 ·exact⟨_,_,B,q,h.1,k _ _ H (Same.refl H) (by exact I _ _ H O) h.2⟩
 exact h.elim
def sI0(g:Int->Int->D):D->D->(EV->Prop)->Prop:=λx y Y=>match x,y with
 |.int i,.int j=>Y (dv (g i j))
 |_,_=>False
def kg{K:W.Frag}{g:Int->Int->D}{gv:Int->Int->V}(I:∀ i j H O,Rep K H O (g i j) (gv i j)):ja K (rI0 gv) (sI0 g):=by
 intro H O x y N M Y Q ho B q h k;unfold sI0 at h;split at h
 ·exact⟨_,_,B,q,k _ _ H (Same.refl H) (by exact I _ _ H O) h⟩
 exact h.elim
abbrev sSub:=sI0 λi j=>.int (i-j)
abbrev sFd:=sI FdOk λi j=>.int (i.fdiv j)
abbrev sMod:=sI (λ_ j=>j≠0) λi j=>.int (i.fmod j)
abbrev sPow:=sI CPow λi j=>.int (i ^ j.toNat)
abbrev sLt:=sI0 λi j=>.bl (decide (i<j))
abbrev sLe:=sI0 λi j=>.bl (decide (i<=j))
abbrev sGt:=sI0 λi j=>.bl (decide (j<i))
abbrev sGe:=sI0 λi j=>.bl (decide (j<=i))
def U8(q:ED L X a ta)(j:ED L X b tb):ED L X (.BinOp a .Sub b pos) (d2 sSub ta tb):=bw Lb (kg λ_ _ _ _=>rfl) q j
def rq(q:ED L X a ta)(j:ED L X b tb):ED L X (.BinOp a .FloorDiv b pos) (d2 sFd ta tb):=bw N4 (Q7 λ_ _ _ _=>rfl) q j
def yz(q:ED L X a ta)(j:ED L X b tb):ED L X (.BinOp a .Mod b pos) (d2 sMod ta tb):=bw Rq (Q7 λ_ _ _ _=>rfl) q j
def bu(q:ED L X a ta)(j:ED L X b tb):ED L X (.BinOp a .Pow b pos) (d2 sPow ta tb):=bw Lc (Q7 λ_ _ _ _=>rfl) q j
def Bz(q:ED L X a ta)(j:ED L X b tb):ED L X (.Compare a [.Lt] [b] pos) (d2 sLt ta tb):=Pe Ej (kg λ_ _ _ _=>rfl) q j (uc _)
def sAdd:D->D->(EV->Prop)->Prop:=λx y Y=>match x,y with
 |.int i,.int j=>Y (dv (.int (i+j)))
 |.str p,.str q=>p.length+q.length<=sizeLine/\Y (dv (.str (p++q)))
 |.lst p,.lst q=>p.length+q.length<=sizeLine/\Y (df (.lst (p++q)))
 |.tup p,.tup q=>p≠[]/\q≠[]/\p.length+q.length<=sizeLine/\Y (dv (.tup (p++q)))
 |_,_=>False
def yf(h:H p=none)(o:HO):Same H (upd H p o):=λb u q=>by rw[y0 (zo q h)];exact q
def Ol{K:W.Frag}{H:Hp}{O:List Addr}{p:Addr}{o:HO}{ds:List D}{xs:List V}(j:H p=none)(r:Reps K H O ds xs):Reps K (upd H p o) O ds xs:=Reps.grow (Grow.same (yf j o)) _ _ r
def Zy{o:HO}(j:H p=none):Grow O (p::O) H (upd H p o) :=
 ⟨λb u h n=>⟨yf j o b u h,λz=>(zam.mp z).elim (λe=>zo h j e) n⟩,λb xs h=>yf j o b _ h,λb q u h=>yf j o b _ h⟩
def qe{K:W.Frag}{H:Hp}{O:List Addr}{p:Addr}{ds:List D}{xs:List V}(ho:∀ a,H a=none->a∉O)(j:H p=none)(r:Reps K H O ds xs):RV K H (upd H p (.lst xs)) O (df (.lst ds)) (.ref p) :=
 ⟨p,rfl,j,ho p j,xs,zm,Reps.grow (Zy j) _ _ r⟩
def Vd{K:W.Frag}{H:Hp}{O:List Addr}{p:Addr}{ds:List D}{xs:List V}(j:H p=none)(r:Reps K H O ds xs):RV K H (upd H p (.tup xs)) O (dv (.tup ds)) (.ref p) :=
 ⟨p,xs,rfl,⟨SqT.of zm,zm⟩,Ol j r⟩
def Nf:ja X.K (λx y H Q=>rI0 (λi j=>.int (i+j)) x y H Q\/(∃i j,x=.str i/\y=.str j/\i.length+j.length<=sizeLine/\Q (.str (i++j)) H)\/rCat x y H Q\/Fp X.K x y H Q) sAdd:=by
 intro H O x y vx vy Y Q ho N M h k;unfold sAdd at h;split at h
 ·exact .inl ⟨_,_,N,M,k _ _ H (Same.refl H) (by exact rfl) h⟩
 ·exact .inr (.inl ⟨_,_,N,M,h.1,k _ _ H (Same.refl H) (by exact rfl) h.2⟩)
 ·obtain⟨a1,xs,rfl,q1,B⟩:=N;obtain⟨a2,ys,rfl,q2,q⟩:=M;refine .inr (.inr (.inl ⟨a1,a2,xs,ys,rfl,rfl,q1,q2,by rw[B.length,q.length];exact h.1,λp Z=>?_⟩))
  exact k _ _ _ (yf Z _) (qe ho Z (B.append q)) h.2
 ·obtain⟨n1,n2,hz,Z⟩:=h;obtain⟨a1,xs,rfl,q1,B⟩:=N;obtain⟨a2,ys,rfl,q2,q⟩:=M;refine .inr (.inr (.inr ⟨a1,a2,xs,ys,rfl,rfl,q1.1,q2.1,?_,by rw[B.length,q.length];exact hz,λz=>?_,λ_ p I=>?_⟩))
  ·intro z;have e:=B.length;rw[z]at e;exact n1 (List.eq_nil_of_length_eq_zero e.symm)
  ·exfalso;have e:=q.length;rw[z]at e;exact n2 (List.eq_nil_of_length_eq_zero e.symm)
  exact k _ _ _ (yf I _) (Vd I (B.append q)) Z
 exact h.elim
def x5(q:ED L X a ta)(j:ED L X b tb):ED L X (.BinOp a .Add b pos) (d2 sAdd ta tb):=bw (Lg.or (Ux.or (En.or Ru))) Nf q j
def sMul:D->D->(EV->Prop)->Prop:=λx y Y=>match x,y with
 |.int i,.int j=>IntMulOk i j/\Y (dv (.int (i*j)))
 |.lst p,.int k=>-(2 ^ 63)<=k/\k<2 ^ 63/\p.length*k.toNat<=sizeLine/\Y (df (.lst (List.replicate k.toNat p).flatten))
 |_,_=>False
end
mutual
def eqD:D->D->Bool
 |.non,.non=>true
 |.bl a,.bl b=>a==b
 |.bl a,.int b=>(if a then 1 else 0)==b
 |.int a,.bl b=>a==(if b then 1 else 0)
 |.int a,.int b=>a==b
 |.str a,.str b=>a==b
 |.tup a,.tup b=>eqDs a b
 |.lst a,.lst b=>eqDs a b
 |_,_=>false
def eqDs:List D->List D->Bool
 |[],[]=>true
 |a::as,b::bs=>eqD a b&&eqDs as bs
 |_,_=>false
end
def okD:Nat->D->Prop
 |0,d=>match d with
  |.non=>True
  |.bl _=>True
  |.int _=>True
  |.str _=>True
  |_=>False
 |n+1,d=>match d with
  |.non=>True
  |.bl _=>True
  |.int _=>True
  |.str _=>True
  |.tup ds=>∀x∈ds,okD n x
  |.lst ds=>∀x∈ds,okD n x
  |_=>False
theorem qt:∀{ds es:List D},eqDs ds es=true ↔ ds.length=es.length/\∀(j:Nat)(x y:D),ds[j]?=some x->es[j]?=some y->eqD x y=true
 |[],[]=>by simp[eqDs]
 |[],y::es=>by simp[eqDs]
 |x::ds,[]=>by simp[eqDs]
 |x::ds,y::es=>by
  rw[eqDs,Bool.and_eq_true,qt];constructor
  ·rintro⟨h,hl,q⟩;refine⟨by simp[hl],λj a b I B=>?_⟩
   cases j with
   |zero=>simp at I B;subst I B;exact h
   |succ j=>exact q j a b (by simpa using I) (by simpa using B)
  rintro⟨hl,q⟩;exact⟨q 0 x y rfl rfl,by simpa using hl,λj a b I B=>q (j+1) a b (by simpa using I) (by simpa using B)⟩
def ku(ds es:List D):eqDs ds es=((List.range (min ds.length es.length)).all (λj=>eqD (ds.getD j .non) (es.getD j .non))&&ds.length==es.length):=by
 rw[Bool.eq_iff_iff,qt,Bool.and_eq_true,List.all_eq_true];constructor
 ·rintro⟨hl,q⟩;refine⟨λj Z=>?_,by simp[hl]⟩
  have N:=List.mem_range.mp Z;have h1:j<ds.length:=by omega
  have h2:j<es.length:=by omega
  have e1:ds[j]?=some ds[j]:=by simp[h1]
  have e2:es[j]?=some es[j]:=by simp[h2]
  have:=q j _ _ e1 e2;simpa [List.getD,e1,e2] using this
 rintro⟨q,hl⟩;have B:ds.length=es.length:=by simpa using hl
 refine⟨B,λj x y I M=>?_⟩;have h1:=(zag.mp I).1;have:=q j (List.mem_range.mpr (by omega))
 simpa [List.getD,I,M] using this
def jq:∀(n:Nat)(d:D),okD n d->eqD d d=true:=by
 intro n
 induction n with
 |zero=>intro d h;cases d <;> first|exact h.elim|simp[eqD]
 |succ n ih =>
  intro d h;cases d with
  |tup ds =>
   show eqDs ds ds=true;refine qt.mpr ⟨rfl,λj x y B q=>?_⟩;rw[B]at q;cases q;exact ih x (h x (zan B))
  |lst ds =>
   show eqDs ds ds=true;refine qt.mpr ⟨rfl,λj x y B q=>?_⟩;rw[B]at q;cases q;exact ih x (h x (zan B))
  |dk _ _=>exact h.elim
  |ty _=>exact h.elim
  |scr _=>exact h.elim
  |sx _=>exact h.elim
  |ob _ _ _=>exact h.elim
  |_=>simp[eqD]
def Rep.inj(I:Inv X pn G H s):∀(n:Nat)(d e:D)(v:V),okD n d->okD n e->Rep X.K H [] d v->Rep X.K H [] e v->d=e:=by
 intro n
 induction n with
 |zero =>
  intro d e v hd j h1 h2;cases d <;> first|exact hd.elim|(cases e <;> first|exact j.elim|(have z:=(show v=_ from h1).symm.trans (show v=_ from h2);first|rfl|(injection z with z;rw[z])|cases z))
 |succ n ih =>
  have B:∀(ds es:List D)(xs:List V),(∀x∈ds,okD n x)->(∀x∈es,okD n x)->Reps X.K H [] ds xs->Reps X.K H [] es xs->ds=es:=by
   intro ds
   induction ds with
   |nil =>
    intro es xs _ _ r1 N;have:=r1.length;have h2:=N.length;rw[this]at h2;exact(List.eq_nil_of_length_eq_zero h2.symm).symm
   |cons d ds ih2 =>
    intro es xs h1 h2 r1 N;obtain⟨v,r,rfl,q,t⟩:=r1;cases es with
    |nil=>cases N
    |cons e es =>
     obtain⟨v',r',e1,q',t'⟩:=N;cases e1;rw[ih d e v (h1 d (zao ..)) (h2 e (zao ..)) q q',ih2 es r (λx hx=>h1 x (zal _ hx)) (λx hx=>h2 x (zal _ hx)) t t']
  intro d e v hd j h1 h2;have a0:∀(a:Addr)(xs ys:List V),SqT X.K H a xs->H a=some (.lst ys)->False:=λa xs ys q1 Z=>by
   obtain⟨its,_,p1,_⟩:=I.tuple q1;obtain⟨a4,_,p2,_⟩:=I.list (SqL.of Z);exact SeqAt.ne_of_list_tuple p2.isList (show s.heap.IsTuple a its.toArray from p1) rfl
  cases d with
  |tup ds =>
   obtain⟨a,xs,rfl,q1,r1⟩:=h1;cases e with
   |tup es =>
    obtain⟨M,ys,e1,Z,N⟩:=h2;cases e1;have:=I.tuple_inj q1.1 Z.1;subst this;rw[B ds es xs hd j r1 N]
   |lst es =>
    obtain⟨M,ys,e1,Z,_,N⟩:=h2;cases e1;exact(a0 _ _ _ q1.1 Z).elim
   |dk _ _=>exact j.elim
   |scr _=>exact j.elim
   |sx _=>exact j.elim
   |ob _ _ _=>exact j.elim
   |ty _=>exact j.elim
   |_=>cases (show V.ref a=_ from h2)
  |lst ds =>
   obtain⟨a,xs,rfl,q1,_,r1⟩:=h1;cases e with
   |tup es =>
    obtain⟨M,ys,e1,Z,N⟩:=h2;cases e1;exact(a0 _ _ _ Z.1 q1).elim
   |lst es =>
    obtain⟨M,ys,e1,Z,_,N⟩:=h2;cases e1;have:=I.list_inj (SqL.of q1) (SqL.of Z);subst this;rw[B ds es xs hd j r1 N]
   |dk _ _=>exact j.elim
   |scr _=>exact j.elim
   |sx _=>exact j.elim
   |ob _ _ _=>exact j.elim
   |ty _=>exact j.elim
   |_=>cases (show V.ref a=_ from h2)
  |dk _ _=>exact hd.elim
  |scr _=>exact hd.elim
  |sx _=>exact hd.elim
  |ob _ _ _=>exact hd.elim
  |ty _=>exact hd.elim
  |non =>
   cases e with
   |tup es=>obtain⟨M,ys,e1,_⟩:=h2;cases (show v=_ from h1);cases e1
   |lst es=>obtain⟨M,ys,e1,_⟩:=h2;cases (show v=_ from h1);cases e1
   |dk _ _=>exact j.elim
   |scr _=>exact j.elim
   |sx _=>exact j.elim
   |ob _ _ _=>exact j.elim
   |ty _=>exact j.elim
   |non=>rfl
   |_=>cases (show v=_ from h1);cases (show V.non=_ from h2)
  |bl b =>
   cases e with
   |tup es=>obtain⟨M,ys,e1,_⟩:=h2;cases (show v=_ from h1);cases e1
   |lst es=>obtain⟨M,ys,e1,_⟩:=h2;cases (show v=_ from h1);cases e1
   |dk _ _=>exact j.elim
   |scr _=>exact j.elim
   |sx _=>exact j.elim
   |ob _ _ _=>exact j.elim
   |ty _=>exact j.elim
   |_=>cases (show v=_ from h1);cases (show V.bl b=_ from h2) <;> rfl
  |int b =>
   cases e with
   |tup es=>obtain⟨M,ys,e1,_⟩:=h2;cases (show v=_ from h1);cases e1
   |lst es=>obtain⟨M,ys,e1,_⟩:=h2;cases (show v=_ from h1);cases e1
   |dk _ _=>exact j.elim
   |scr _=>exact j.elim
   |sx _=>exact j.elim
   |ob _ _ _=>exact j.elim
   |ty _=>exact j.elim
   |_=>cases (show v=_ from h1);cases (show V.int b=_ from h2) <;> rfl
  |str b =>
   cases e with
   |tup es=>obtain⟨M,ys,e1,_⟩:=h2;cases (show v=_ from h1);cases e1
   |lst es=>obtain⟨M,ys,e1,_⟩:=h2;cases (show v=_ from h1);cases e1
   |dk _ _=>exact j.elim
   |scr _=>exact j.elim
   |sx _=>exact j.elim
   |ob _ _ _=>exact j.elim
   |ty _=>exact j.elim
   |_=>cases (show v=_ from h1);cases (show V.str b=_ from h2) <;> rfl
inductive Sh(K:W.Frag)(H:Hp)(s:Shared):D->Value->Prop where
 |non:Sh K H s .non .none
 |bl (b:Bool):Sh K H s (.bl b) (.bool b)
 |int (i:Int) (t:Tok):Sh K H s (.int i) (.int i t)
 |str (x:Str) (t:Tok):Sh K H s (.str x) (.str x t)
 |tup {a:Addr} {ds:List D} {xs:List V} {its:List Value} (p:s.heap.IsTuple a its.toArray) (r:Vals xs its) (q:Reps K H [] ds xs):Sh K H s (.tup ds) (.ref a)
 |lst {a:Addr} {ds:List D} {xs:List V} {its:List Value} (p:s.heap.IsList a its.toArray) (r:Vals xs its) (q:Reps K H [] ds xs):Sh K H s (.lst ds) (.ref a)
def jk(I:Inv X pn G H s){x:V}(j:okD n d)(h:Rep X.K H [] d x)(r:RelV x u):Sh X.K H s d u:=by
 cases d with
 |non=>cases (show x=_ from h);cases r;exact .non
 |bl b=>cases (show x=_ from h);cases r;exact .bl b
 |int b=>cases (show x=_ from h);obtain⟨t,rfl⟩:=r;exact .int b t
 |str b=>cases (show x=_ from h);obtain⟨t,rfl⟩:=r;exact .str b t
 |ty _=>cases n <;> exact j.elim
 |dk _ _=>cases n <;> exact j.elim
 |scr _=>cases n <;> exact j.elim
 |sx _=>cases n <;> exact j.elim
 |ob _ _ _=>cases n <;> exact j.elim
 |tup ds =>
  obtain⟨a,xs,rfl,q,t⟩:=h;cases r;obtain⟨its,B,p,_⟩:=I.tuple q.1;exact .tup (show s.heap.IsTuple a its.toArray from p) B t
 |lst ds =>
  obtain⟨a,xs,rfl,q,_,t⟩:=h;cases r;obtain⟨its,B,p,_⟩:=I.list (SqL.of q);exact .lst p.isList B t
def Y4(I:Inv X pn G H s):∀(n:Nat)(d e:D)(x y:V)(u v:Value)(A:Around),okD n d->okD n e->Rep X.K H [] d x->Rep X.K H [] e y->RelV x u->RelV y v->A.units+n<cLine ->
  SeqAt.RcAt A s u v (eqD d e)/\SeqAt.RcNeAt A s u v (!eqD d e)/\SeqAt.EqAt A s u v (eqD d e):=by
 intro n
 induction n with
 |zero =>
  intro d e x y u v A hd N h1 h2 r1 r2 hu;have B:A.units<cLine:=by omega
  cases jk I hd h1 r1 with
  |tup=>exact hd.elim
  |lst=>exact hd.elim
  |non =>
   cases jk I N h2 r2 with
   |non=>exact⟨SeqAt.RcAt.none_none,SeqAt.RcNeAt.none_none,SeqAt.EqAt.same _⟩
   |bl b=>exact⟨SeqAt.RcAt.none_bool b,SeqAt.RcNeAt.none_bool b,SeqAt.EqAt.none_bool b⟩
   |int i t=>exact⟨SeqAt.RcAt.none_int i t,SeqAt.RcNeAt.none_int i t,SeqAt.EqAt.none_int i t⟩
   |str i t=>exact⟨SeqAt.RcAt.none_str i t,SeqAt.RcNeAt.none_str i t,SeqAt.EqAt.none_str i t⟩
   |tup=>exact N.elim
   |lst=>exact N.elim
  |bl a =>
   cases jk I N h2 r2 with
   |non=>exact⟨SeqAt.RcAt.bool_none a,SeqAt.RcNeAt.bool_none a,SeqAt.EqAt.bool_none a⟩
   |bl b=>exact⟨SeqAt.RcAt.bool_bool a b,SeqAt.RcNeAt.bool_bool a b,SeqAt.EqAt.bool_bool a b⟩
   |int i t=>exact⟨SeqAt.RcAt.bool_int a i t,SeqAt.RcNeAt.bool_int a i t,SeqAt.EqAt.bool_int a i t⟩
   |str i t=>exact⟨SeqAt.RcAt.bool_str a i t,SeqAt.RcNeAt.bool_str a i t,SeqAt.EqAt.bool_str a i t⟩
   |tup=>exact N.elim
   |lst=>exact N.elim
  |int a t =>
   cases jk I N h2 r2 with
   |non=>exact⟨SeqAt.RcAt.int_none a t,SeqAt.RcNeAt.int_none a t,SeqAt.EqAt.int_none a t⟩
   |bl b=>exact⟨SeqAt.RcAt.int_bool a t b,SeqAt.RcNeAt.int_bool a t b,SeqAt.EqAt.int_bool a t b⟩
   |int i t'=>exact⟨SeqAt.RcAt.int_int a t i t',SeqAt.RcNeAt.int_int a t i t',SeqAt.EqAt.int_int a t i t'⟩
   |str i t'=>exact⟨SeqAt.RcAt.int_str a t i t',SeqAt.RcNeAt.int_str a t i t',SeqAt.EqAt.int_str a t i t'⟩
   |tup=>exact N.elim
   |lst=>exact N.elim
  |str a t =>
   cases jk I N h2 r2 with
   |non=>exact⟨SeqAt.RcAt.str_none a t,SeqAt.RcNeAt.str_none a t,SeqAt.EqAt.str_none a t⟩
   |bl b=>exact⟨SeqAt.RcAt.str_bool a t b,SeqAt.RcNeAt.str_bool a t b,SeqAt.EqAt.str_bool a t b⟩
   |int i t'=>exact⟨SeqAt.RcAt.str_int a t i t',SeqAt.RcNeAt.str_int a t i t',SeqAt.EqAt.str_int a t i t'⟩
   |str i t'=>exact⟨SeqAt.RcAt.str_str a t i t',SeqAt.RcNeAt.str_str a t i t',SeqAt.EqAt.str_str a t i t'⟩
   |tup=>exact N.elim
   |lst=>exact N.elim
 |succ n ih =>
  intro d e x y u v A hd N h1 h2 r1 r2 hu;have B:A.units<cLine:=by omega
  have a5:A.in1.units+n<cLine:=by
   have:A.in1.units=A.units+1:=rfl;omega
  have a0:∀{l b:Addr}{k:Bool},u=.ref l->v=.ref b->k=eqD d e->SeqAt.RcAt A s (.ref l) (.ref b) k->SeqAt.EqAt A s (.ref l) (.ref b) k:=λ{l b k} e1 e2 ek h=>by
   by_cases hlb:l=b
   ·subst hlb;have hv:x=y:=by
     have z1:x=.ref l:=by
      cases x <;> subst e1 <;> first|(have:=(show Value.ref l=Value.ref _ from r1);cases this;rfl)|(obtain⟨t,z⟩:=r1;cases z)|cases r1
     have z2:y=.ref l:=by
      cases y <;> subst e2 <;> first|(have:=(show Value.ref l=Value.ref _ from r2);cases this;rfl)|(obtain⟨t,z⟩:=r2;cases z)|cases r2
     rw[z1,z2]
    subst hv;have a6:=Rep.inj I (n+1) d e x hd N h1 h2;subst a6;rw[ek,jq (n+1) d hd];exact SeqAt.EqAt.same _
   exact SeqAt.EqAt.of_refs hlb h
  have items:∀{ds es:List D}{xs ys:List V}{its M:List Value},(∀z∈ds,okD n z)->(∀z∈es,okD n z)->Reps X.K H [] ds xs->Reps X.K H [] es ys->Vals xs its->Vals ys M ->
    ∀j (h1:j<its.toArray.size) (h2:j<M.toArray.size),SeqAt.EqAt A.in1 s its.toArray[j] M.toArray[j] (eqD (ds.getD j .non) (es.getD j .non)):=λ{ds es xs ys its M} o1 o2 q1 q2 w1 w2 j h1 h2=>by
   have l1:=w1.length;have l2:=w2.length;have k1:=q1.length;have k2:=q2.length;have g1:j<ds.length:=by simp at h1;omega
   have g2:j<es.length:=by simp at h2;omega
   have e1:ds[j]?=some ds[j]:=by simp[g1]
   have e2:es[j]?=some es[j]:=by simp[g2]
   obtain⟨x',ex,rx⟩:=q1.get e1;obtain⟨y',ey,ry⟩:=q2.get e2;obtain⟨u',eu,ru⟩:=w1.get ex;obtain⟨v',ev,rv⟩:=w2.get ey;have f1:its.toArray[j]=u':=by
    have:=(zag.mp eu).2;simpa using this
   have f2:M.toArray[j]=v':=by
    have:=(zag.mp ev).2;simpa using this
   rw[f1,f2,show ds.getD j .non=ds[j] by simp[List.getD,e1],show es.getD j .non=es[j] by simp[List.getD,e2]]
   exact(ih ds[j] es[j] x' y' u' v' A.in1 (o1 _ (List.getElem_mem g1)) (o2 _ (List.getElem_mem g2)) rx ry ru rv a5).2.2
  cases jk I hd h1 r1 with
  |non =>
   cases jk I N h2 r2 with
   |non=>exact⟨SeqAt.RcAt.none_none,SeqAt.RcNeAt.none_none,SeqAt.EqAt.same _⟩
   |bl b=>exact⟨SeqAt.RcAt.none_bool b,SeqAt.RcNeAt.none_bool b,SeqAt.EqAt.none_bool b⟩
   |int i t=>exact⟨SeqAt.RcAt.none_int i t,SeqAt.RcNeAt.none_int i t,SeqAt.EqAt.none_int i t⟩
   |str i t=>exact⟨SeqAt.RcAt.none_str i t,SeqAt.RcNeAt.none_str i t,SeqAt.EqAt.none_str i t⟩
   |tup p _ _=>exact⟨SeqAt.RcAt.none_tuple p B,SeqAt.RcNeAt.none_tuple p B,SeqAt.EqAt.none_tuple p B⟩
   |lst p _ _=>exact⟨SeqAt.RcAt.none_list p B,SeqAt.RcNeAt.none_list p B,SeqAt.EqAt.none_list p B⟩
  |bl a =>
   cases jk I N h2 r2 with
   |non=>exact⟨SeqAt.RcAt.bool_none a,SeqAt.RcNeAt.bool_none a,SeqAt.EqAt.bool_none a⟩
   |bl b=>exact⟨SeqAt.RcAt.bool_bool a b,SeqAt.RcNeAt.bool_bool a b,SeqAt.EqAt.bool_bool a b⟩
   |int i t=>exact⟨SeqAt.RcAt.bool_int a i t,SeqAt.RcNeAt.bool_int a i t,SeqAt.EqAt.bool_int a i t⟩
   |str i t=>exact⟨SeqAt.RcAt.bool_str a i t,SeqAt.RcNeAt.bool_str a i t,SeqAt.EqAt.bool_str a i t⟩
   |tup p _ _=>exact⟨SeqAt.RcAt.bool_tuple a p B,SeqAt.RcNeAt.bool_tuple a p B,SeqAt.EqAt.bool_tuple a p B⟩
   |lst p _ _=>exact⟨SeqAt.RcAt.bool_list a p B,SeqAt.RcNeAt.bool_list a p B,SeqAt.EqAt.bool_list a p B⟩
  |int a t =>
   cases jk I N h2 r2 with
   |non=>exact⟨SeqAt.RcAt.int_none a t,SeqAt.RcNeAt.int_none a t,SeqAt.EqAt.int_none a t⟩
   |bl b=>exact⟨SeqAt.RcAt.int_bool a t b,SeqAt.RcNeAt.int_bool a t b,SeqAt.EqAt.int_bool a t b⟩
   |int i t'=>exact⟨SeqAt.RcAt.int_int a t i t',SeqAt.RcNeAt.int_int a t i t',SeqAt.EqAt.int_int a t i t'⟩
   |str i t'=>exact⟨SeqAt.RcAt.int_str a t i t',SeqAt.RcNeAt.int_str a t i t',SeqAt.EqAt.int_str a t i t'⟩
   |tup p _ _=>exact⟨SeqAt.RcAt.int_tuple a t p B,SeqAt.RcNeAt.int_tuple a t p B,SeqAt.EqAt.int_tuple a t p B⟩
   |lst p _ _=>exact⟨SeqAt.RcAt.int_list a t p B,SeqAt.RcNeAt.int_list a t p B,SeqAt.EqAt.int_list a t p B⟩
  |str a t =>
   cases jk I N h2 r2 with
   |non=>exact⟨SeqAt.RcAt.str_none a t,SeqAt.RcNeAt.str_none a t,SeqAt.EqAt.str_none a t⟩
   |bl b=>exact⟨SeqAt.RcAt.str_bool a t b,SeqAt.RcNeAt.str_bool a t b,SeqAt.EqAt.str_bool a t b⟩
   |int i t'=>exact⟨SeqAt.RcAt.str_int a t i t',SeqAt.RcNeAt.str_int a t i t',SeqAt.EqAt.str_int a t i t'⟩
   |str i t'=>exact⟨SeqAt.RcAt.str_str a t i t',SeqAt.RcNeAt.str_str a t i t',SeqAt.EqAt.str_str a t i t'⟩
   |tup p _ _=>exact⟨SeqAt.RcAt.str_tuple a t p B,SeqAt.RcNeAt.str_tuple a t p B,SeqAt.EqAt.str_tuple a t p B⟩
   |lst p _ _=>exact⟨SeqAt.RcAt.str_list a t p B,SeqAt.RcNeAt.str_list a t p B,SeqAt.EqAt.str_list a t p B⟩
  |@tup l ds xs its p r q =>
   cases jk I N h2 r2 with
   |non=>exact⟨SeqAt.RcAt.tuple_none p B,SeqAt.RcNeAt.tuple_none p B,SeqAt.EqAt.tuple_none p B⟩
   |bl b=>exact⟨SeqAt.RcAt.tuple_bool b p B,SeqAt.RcNeAt.tuple_bool b p B,SeqAt.EqAt.tuple_bool b p B⟩
   |int i t=>exact⟨SeqAt.RcAt.tuple_int i t p B,SeqAt.RcNeAt.tuple_int i t p B,SeqAt.EqAt.tuple_int i t p B⟩
   |str i t=>exact⟨SeqAt.RcAt.tuple_str i t p B,SeqAt.RcNeAt.tuple_str i t p B,SeqAt.EqAt.tuple_str i t p B⟩
   |lst p2 _ _=>exact⟨SeqAt.RcAt.tuple_list p p2 B,SeqAt.RcNeAt.tuple_list p p2 B,SeqAt.EqAt.tuple_list p p2 B⟩
   |@tup b es ys M p2 r' q' =>
    have e1:its.toArray.size=ds.length:=by rw[zap,<- r.length,q.length]
    have e2:M.toArray.size=es.length:=by rw[zap,<- r'.length,q'.length]
    have ek:eqD (.tup ds) (.tup es)=((List.range (min its.toArray.size M.toArray.size)).all (λj=>eqD (ds.getD j .non) (es.getD j .non))&&its.toArray.size==M.toArray.size):=by
     rw[e1,e2];exact ku ds es
    rw[ek];have Z:=SeqAt.RcAt.tuples p p2 B (items hd N q q' r r');exact⟨Z,SeqAt.RcNeAt.tuples p p2 B (items hd N q q' r r'),a0 rfl rfl ek.symm Z⟩
  |@lst l ds xs its p r q =>
   cases jk I N h2 r2 with
   |non=>exact⟨SeqAt.RcAt.list_none p B,SeqAt.RcNeAt.list_none p B,SeqAt.EqAt.list_none p B⟩
   |bl b=>exact⟨SeqAt.RcAt.list_bool b p B,SeqAt.RcNeAt.list_bool b p B,SeqAt.EqAt.list_bool b p B⟩
   |int i t=>exact⟨SeqAt.RcAt.list_int i t p B,SeqAt.RcNeAt.list_int i t p B,SeqAt.EqAt.list_int i t p B⟩
   |str i t=>exact⟨SeqAt.RcAt.list_str i t p B,SeqAt.RcNeAt.list_str i t p B,SeqAt.EqAt.list_str i t p B⟩
   |tup p2 _ _=>exact⟨SeqAt.RcAt.list_tuple p p2 B,SeqAt.RcNeAt.list_tuple p p2 B,SeqAt.EqAt.list_tuple p p2 B⟩
   |@lst b es ys M p2 r' q' =>
    have e1:its.toArray.size=ds.length:=by rw[zap,<- r.length,q.length]
    have e2:M.toArray.size=es.length:=by rw[zap,<- r'.length,q'.length]
    by_cases hsz:its.toArray.size=M.toArray.size
    ·have ek:eqD (.lst ds) (.lst es)=(List.range its.toArray.size).all (λj=>eqD (ds.getD j .non) (es.getD j .non)):=by
      show eqDs ds es=_;rw[ku,<- e1,<- e2,<- hsz];simp
     rw[ek];have Z:=SeqAt.RcAt.lists p p2 hsz B (items hd N q q' r r');exact⟨Z,SeqAt.RcNeAt.lists p p2 hsz B (items hd N q q' r r'),a0 rfl rfl ek.symm Z⟩
    have ek:eqD (.lst ds) (.lst es)=false:=by
     show eqDs ds es=_;have hb:(its.toArray.size==M.toArray.size)=false:=beq_eq_false_iff_ne.mpr hsz;rw[ku,<- e1,<- e2,hb,Bool.and_false]
    rw[ek];have a4:(its.toArray.size != M.toArray.size)=true:=by simpa using hsz
    have Z:=SeqAt.RcAt.lists_lengths p p2 a4 B;exact⟨Z,SeqAt.RcNeAt.lists_lengths p p2 a4 B,a0 rfl rfl ek.symm Z⟩
section
variable{a b:Expr}{ta tb:TD}{pos:Pos}
def rEqD(K:W.Frag)(j:Bool):R2:=λx y H Q=>∃d e,Rep K H [] d x/\Rep K H [] e y/\okD 40 d/\okD 40 e/\Q (.bl (if j then !eqD d e else eqD d e)) H
def Lf(hu:X.A.units+64<cLine):OpR X (compareOp .Eq) (rEqD X.K false):=by
 intro pn s G H x y v u Q I B j h;obtain⟨d,e,h1,h2,N,M,q⟩:=h;exact(Y4 I 40 d e x y v u X.A N M h1 h2 B j (by omega)).1 X.prog X.w X.xe _ ⟨.bl _,H,I,rfl,q⟩
def Ld(hu:X.A.units+64<cLine):OpR X (compareOp .NotEq) (rEqD X.K true):=by
 intro pn s G H x y v u Q I B j h;obtain⟨d,e,h1,h2,N,M,q⟩:=h;exact(Y4 I 40 d e x y v u X.A N M h1 h2 B j (by omega)).2.1 X.prog X.w X.xe _ ⟨.bl _,H,I,rfl,q⟩
def sEq:D->D->(EV->Prop)->Prop:=λx y Y=>okD 40 x/\okD 40 y/\Y (dv (.bl (eqD x y)))
def sNe:D->D->(EV->Prop)->Prop:=λx y Y=>okD 40 x/\okD 40 y/\Y (dv (.bl (!eqD x y)))
def Cc(hu:X.A.units+64<cLine)(I:ED L X a ta)(B:ED L X b tb):ED L X (.Compare a [.Eq] [b] pos) (d2 sEq ta tb) :=
 Pe (Lf hu) (λH O x y N M Y Q ho q j h k=>⟨x,y,q.rep0,j.rep0,h.1,h.2.1,k _ _ H (Same.refl H) (by exact rfl) h.2.2⟩) I B (uc _)
def By(hu:X.A.units+64<cLine)(I:ED L X a ta)(B:ED L X b tb):ED L X (.Compare a [.NotEq] [b] pos) (d2 sNe ta tb) :=
 Pe (Ld hu) (λH O x y N M Y Q ho q j h k=>⟨x,y,q.rep0,j.rep0,h.1,h.2.1,k _ _ H (Same.refl H) (by exact rfl) h.2.2⟩) I B (uc _)
end
section
variable{a b c e:Expr}{es:List Expr}{ta tb te:TD}{t:TDs}{pos:Pos}
def Na:ja X.K (λx y H Q=>rI IntMulOk (λi j=>.int (i*j)) x y H Q\/rRep x y H Q) sMul:=by
 intro H O x y vx vy Y Q ho I B h k;unfold sMul at h;split at h
 ·exact .inl ⟨_,_,I,B,h.1,k _ _ H (Same.refl H) (by exact rfl) h.2⟩
 ·obtain⟨h1,h2,h3,Z⟩:=h;obtain⟨a1,xs,rfl,N,q⟩:=I;refine .inr ⟨a1,_,xs,rfl,B,N,h1,h2,by rw[q.length];exact h3,λp M=>?_⟩
  exact k _ _ _ (yf M _) (qe ho M (q.rep _)) Z
 exact h.elim
def bv(q:ED L X a ta)(j:ED L X b tb):ED L X (.BinOp a .Mult b pos) (d2 sMul ta tb):=bw (Ji.or Eh) Na q j
def sNeg:D->(EV->Prop)->Prop:=λx Y=>match x with
 |.int i=>Y (dv (.int (-i)))
 |_=>False
def d1(s:D->(EV->Prop)->Prop)(ta:TD):TD:=λU Y=>ta U λx=>s x.d Y
def qv(M:ED L X a ta):ED L X (.UnaryOp .USub a pos) (d1 sNeg ta):=λH_=>impE (Bd Gm (M H_)) λG H Q h=>by
 obtain⟨U,o,R,Y,q,k⟩:=h;refine⟨U,o,R,_,q,λN B H1 s1 j h1=>?_⟩;obtain⟨Z,d⟩:=B;have I:=j.view;cases d with
 |int i=>exact⟨i,I,k _ _ H1 s1 (by exact rfl) h1⟩
 |_=>exact h1.elim
def truD:D->Option Bool
 |.non=>some false
 |.bl b=>some b
 |.int i=>some (i != 0)
 |.str x=>if x.length<=sizeLine then some ((x.length:Int) != 0) else none
 |.lst ds=>some (!ds.isEmpty)
 |.scr ns=>some (!ns.isEmpty)
 |.tup ds=>some (!ds.isEmpty)
 |.dk _ ds=>some (!ds.isEmpty)
 |.ty _=>none
 |.sx _=>none
 |.ob _ _ _=>none
def jg{K:W.Frag}{H:Hp}{O:List Addr}{ds:List D}{xs:List V}(r:Reps K H O ds xs):xs.isEmpty=ds.isEmpty:=by
 have:=r.length;cases xs <;> cases ds <;> simp_all
def O4{K:W.Frag}{H:Hp}{O:List Addr}{d:D}{v:V}{b:Bool}(h:View K H O d v)(e:truD d=some b):TruV K v H b:=by
 cases d with
 |non=>cases (show v=_ from h);cases e;rfl
 |bl i=>cases (show v=_ from h);cases e;rfl
 |int i=>cases (show v=_ from h);cases e;rfl
 |str x =>
  cases (show v=_ from h)
  have j:(if x.length<=sizeLine then some ((x.length:Int) != 0) else none)=some b:=e
  split at j
  ·rename_i B;cases j;exact⟨B,rfl⟩
  cases j
 |ty _=>cases e
 |sx _=>cases e
 |ob _ _ _=>cases e
 |lst ds =>
  obtain⟨a,xs,rfl,q,r⟩:=h;cases e;exact .inl ⟨xs,SqL.of q,by rw[jg r]⟩
 |scr ns =>
  obtain⟨a,rfl,q⟩:=h;cases e;exact .inl ⟨_,q.seq,by cases ns <;> rfl⟩
 |tup ds =>
  obtain⟨a,xs,rfl,q,r⟩:=h;cases e;exact .inr (.inl ⟨xs,q.1,by rw[jg r]⟩)
 |dk ks ds =>
  obtain⟨a,xs,rfl,q,l,_,r⟩:=h;cases e;refine .inr (.inr ⟨_,q,?_⟩);have:=r.length;cases ks <;> cases ds <;> cases xs <;> simp_all
def tTru(t:TD):TDb:=λU Y=>t U λr=>match truD r.d with
 |some b=>Y b
 |none=>False
def w6(h:ED L X a ta)(M:∀ whole,isTrue a X.env whole=(do let v <- whole;standAt a.pos;holding [v] (truthy v)):=by intro _;rfl):ET L X a (tTru ta):=λH_=>impT (Ov (h H_) M) λG H Q q=>by
 obtain⟨U,o,R,Y,B,k⟩:=q;refine⟨U,o,R,_,B,λN I H1 s1 j h1=>?_⟩;cases e:truD I.d with
 |none=>simp only[e]at h1
 |some b =>
  simp only[e]at h1;exact⟨b,O4 j.view e,k b H1 s1 h1⟩
def tBo(t:TD):TDb:=λU Y=>t U λr=>match r.d with
 |.bl b=>Y b
 |_=>False
def tw{s:D->D->(EV->Prop)->Prop}(ho:OpR X (compareOp op) rr)(hl:ja X.K rr s)(M:ED L X a ta)(I:ED L X b tb)(B:behindInMarks op b=false):ET L X (.Compare a [op] [b] pos) (tBo (d2 s ta tb)):=λH_ =>
 impT (R9 ho (M H_) (I H_) B) λG H Q h=>by
  obtain⟨U,o,R,Y,j,k⟩:=h;refine Ng (ta:=ta) (tb:=tb) (H_:=H_.1) hl G H _ ⟨U,o,R,_,j,λv r H' s1 q h1=>?_⟩;obtain⟨N,d⟩:=r;cases d with
  |bl b=>exact⟨b,q.view,k b H' s1 h1⟩
  |_=>exact h1.elim
def Te(q:ED L X a ta)(j:ED L X b tb):ET L X (.Compare a [.Lt] [b] pos) (tBo (d2 sLt ta tb)):=tw Ej (kg λ_ _ _ _=>rfl) q j (uc _)
def Bx(q:ED L X a ta)(j:ED L X b tb):ET L X (.Compare a [.LtE] [b] pos) (tBo (d2 sLe ta tb)):=tw Bg (kg λ_ _ _ _=>rfl) q j (uc _)
def P7(q:ED L X a ta)(j:ED L X b tb):ET L X (.Compare a [.Gt] [b] pos) (tBo (d2 sGt ta tb)):=tw Em (kg λ_ _ _ _=>rfl) q j (uc _)
def P8(q:ED L X a ta)(j:ED L X b tb):ET L X (.Compare a [.GtE] [b] pos) (tBo (d2 sGe ta tb)):=tw Bh (kg λ_ _ _ _=>rfl) q j (uc _)
def xm(hu:X.A.units+64<cLine)(I:ED L X a ta)(B:ED L X b tb):ET L X (.Compare a [.Eq] [b] pos) (tBo (d2 sEq ta tb)) :=
 tw (Lf hu) (λH O x y N M Y Q ho q j h k=>⟨x,y,q.rep0,j.rep0,h.1,h.2.1,k _ _ H (Same.refl H) (by exact rfl) h.2.2⟩) I B (uc _)
def Wx(hu:X.A.units+64<cLine)(I:ED L X a ta)(B:ED L X b tb):ET L X (.Compare a [.NotEq] [b] pos) (tBo (d2 sNe ta tb)) :=
 tw (Ld hu) (λH O x y N M Y Q ho q j h k=>⟨x,y,q.rep0,j.rep0,h.1,h.2.1,k _ _ H (Same.refl H) (by exact rfl) h.2.2⟩) I B (uc _)
def Np:D->Bool
 |.non=>true
 |_=>false
def sIs:D->D->(EV->Prop)->Prop:=λx y Y=>match y with
 |.non=>Y (dv (.bl (Np x)))
 |_=>False
def Vc:D->D->(EV->Prop)->Prop:=λx y Y=>match y with
 |.non=>Y (dv (.bl (!Np x)))
 |_=>False
def V5{K:W.Frag}{H:Hp}{O:List Addr}{d:D}{v:V}(h:View K H O d v):decide (v=.non)=Np d:=by
 cases d with
 |tup ds=>obtain⟨a,xs,rfl,_⟩:=h;rfl
 |lst ds=>obtain⟨a,xs,rfl,_⟩:=h;rfl
 |scr ns=>obtain⟨a,rfl,_⟩:=h;rfl
 |sx _=>obtain⟨a,_,rfl,_⟩:=h;rfl
 |ob _ _ _=>obtain⟨a,dx,xs,rfl,_⟩:=h;rfl
 |dk ks ds=>obtain⟨a,xs,rfl,_⟩:=h;rfl
 |_=>cases (show v=_ from h);rfl
def Js{K:W.Frag}:ja K (λx y H Q=>y=.non/\Q (.bl (decide (x=.non))) H) sIs:=by
 intro H O x y I B Y Q ho q j h k;unfold sIs at h;split at h
 ·refine⟨j,?_⟩;rw[V5 q];exact k _ _ H (Same.refl H) (by exact rfl) h
 exact h.elim
def T5{K:W.Frag}:ja K (λx y H Q=>y=.non/\Q (.bl (!decide (x=.non))) H) Vc:=by
 intro H O x y I B Y Q ho q j h k;unfold Vc at h;split at h
 ·refine⟨j,?_⟩;rw[V5 q];exact k _ _ H (Same.refl H) (by exact rfl) h
 exact h.elim
def C3(q:ED L X a ta)(j:ED L X b tb):ET L X (.Compare a [.Is] [b] pos) (tBo (d2 sIs ta tb)):=tw Ek Js q j (uc _)
def Y3(q:ED L X a ta)(j:ED L X b tb):ET L X (.Compare a [.IsNot] [b] pos) (tBo (d2 Vc ta tb)):=tw Jh T5 q j (uc _)
variable{tA tB':TDb}{rest:List Expr}
def bAnd(t u:TDb):TDb:=λU Y=>t U λc=>(c=true->u U Y)/\(c=false->Y false)
def bOr(t u:TDb):TDb:=λU Y=>t U λc=>(c=true->Y true)/\(c=false->u U Y)
def bNot(t:TDb):TDb:=λU Y=>t U λc=>Y (!c)
def kq(j:ET L X a tA):EW L X (.BoolOp .And [a] pos) tA:=λH_=>J1 (j H_)
def um(j:ET L X a tA):EW L X (.BoolOp .Or [a] pos) tA:=λH_=>Fy (j H_)
def da(I:ET L X a tA)(B:EW L X (.BoolOp .And (b::rest) pos) tB'):EW L X (.BoolOp .And (a::b::rest) pos) (bAnd tA tB'):=λH_=>impW (E1 (I H_) (B H_)) λG H Q h=>by
 obtain⟨U,o,R,Y,j,k⟩:=h;refine⟨U,o,R,_,j,λc H1 s1 h1=>?_⟩;cases c with
 |true=>exact iteT ⟨U,o,R.to s1,Y,h1.1 rfl,λb H2 s2 q=>k b H2 (s1.trans s2) q⟩
 |false=>exact iteF (k false H1 s1 (h1.2 rfl))
def uo(I:ET L X a tA)(B:EW L X (.BoolOp .Or (b::rest) pos) tB'):EW L X (.BoolOp .Or (a::b::rest) pos) (bOr tA tB'):=λH_=>impW (Ba (I H_) (B H_)) λG H Q h=>by
 obtain⟨U,o,R,Y,j,k⟩:=h;refine⟨U,o,R,_,j,λc H1 s1 h1=>?_⟩;cases c with
 |true=>exact iteT (k true H1 s1 (h1.1 rfl))
 |false=>exact iteF ⟨U,o,R.to s1,Y,h1.2 rfl,λb H2 s2 q=>k b H2 (s1.trans s2) q⟩
def EW.et(h:EW L X a tA):ET L X a tA:=λH_=>PW.pt (h H_)
def v8(q:ET L X a tA):ET L X (.UnaryOp .Not a pos) (bNot tA):=λH_=>impT (E6 (q H_)) λG H Q h=>by
 obtain⟨U,o,R,Y,j,k⟩:=h;exact⟨U,o,R,_,j,λc H1 s1 h1=>k _ H1 s1 h1⟩
def vAnd(ta tb:TD):TD:=λU Y=>ta U λx=>match x.d with
 |.bl c=>(c=true->tb U Y)/\(c=false->Y (dv (.bl false)))
 |_=>False
def vNot(ta:TD):TD:=λU Y=>ta U λx=>match x.d with
 |.bl c=>Y (dv (.bl (!c)))
 |_=>False
def U9 {op} (h:ED L X a ta):ED L X (.BoolOp op [a] pos) ta:=λH_=>Ed (h H_)
def Ub(ha:ED L X a ta)(Z:ED L X (.BoolOp .And (b::rest) pos) tb):ED L X (.BoolOp .And (a::b::rest) pos) (vAnd ta tb):=λH_=>impE (Eg (ha H_) (Z H_)) λG H Q h=>by
 obtain⟨U,o,R,Y,B,k⟩:=h;refine⟨U,o,R,_,B,λv r H1 s1 M h1=>?_⟩;obtain⟨kd,d⟩:=r;cases d with
 |bl c =>
  refine⟨c,M.view,?_⟩;cases c with
  |true=>exact iteT ⟨U,o,R.to s1,Y,h1.1 rfl,λI N H2 s2 j q=>k I N H2 (s1.trans s2) (j.start s1) q⟩
  |false=>exact iteF (k _ _ H1 s1 (by exact rfl) (h1.2 rfl))
 |_=>exact h1.elim
def Lw(B:ED L X a ta):ED L X (.UnaryOp .Not a pos) (vNot ta):=λH_=>impE (Ee (B H_)) λG H Q h=>by
 obtain⟨U,o,R,Y,j,k⟩:=h;refine⟨U,o,R,_,j,λv r H1 s1 q h1=>?_⟩;obtain⟨I,d⟩:=r;cases d with
 |bl c=>exact⟨c,q.view,k _ _ H1 s1 (by exact rfl) h1⟩
 |_=>exact h1.elim
def vIf(t:TDb)(ta tb:TD):TD:=λU Y=>t U λc=>(c=true->ta U Y)/\(c=false->tb U Y)
def jr(N:ET L X c tA)(ha:ED L X a ta)(Z:ED L X b tb):ED L X (.IfExp c a b pos) (vIf tA ta tb):=λH_=>impE (N3 (N H_) (ha H_) (Z H_)) λG H Q h=>by
 obtain⟨U,o,R,Y,M,k⟩:=h;refine⟨U,o,R,_,M,λc H1 s1 h1=>?_⟩;cases c with
 |true=>exact iteT ⟨U,o,R.to s1,Y,h1.1 rfl,λB I H2 s2 j q=>k B I H2 (s1.trans s2) (j.start s1) q⟩
 |false=>exact iteF ⟨U,o,R.to s1,Y,h1.2 rfl,λB I H2 s2 j q=>k B I H2 (s1.trans s2) (j.start s1) q⟩
def aNil:TDs:=λ_ Y=>Y []
def vh(te:TD)(t:TDs):TDs:=λU Y=>te U λr=>t U λrs=>Y (r::rs)
def zb:EA L X [] aNil:=λH_=>impA sw λG H Q h=>by
 obtain⟨U,o,R,Y,j,k⟩:=h;exact k [] [] H (Same.refl H) (by exact rfl) j
def za(M:ED L X e te)(hr:EA L X es t)(I:S_ X e es:=by rfl):EA L X (e::es) (vh te t):=λH_=>impA (u0 (M H_) (hr H_) I) λG H Q h=>by
 obtain⟨U,o,R,Y,q,k⟩:=h;refine⟨U,o,R,_,q,λv r H1 s1 B h1=>⟨U,o,R.to s1,_,h1,λvs rs H2 s2 j h2=>?_⟩⟩;exact k (v::vs) (r::rs) H2 (s1.trans s2) ⟨v,vs,rfl,B.same s2,j.start s1⟩ h2
def jy:List EV->Bool
 |[]=>true
 |r::rs=>(match r.k with|.own=>false|_=>true)&&jy rs
theorem sf:∀{rs:List EV},jy rs=true->∀r∈rs,r.k≠.own
 |[],_=>λr h=>nomatch h
 |⟨k,d⟩::rs,h=>λr hr=>by
  rw[jy,Bool.and_eq_true]at h;rcases zam.mp hr with rfl|hr
  ·intro z;have j:k=.own:=z;subst j;exact absurd h.1 (by simp)
  exact sf h.2 r hr
def dTup(t:TDs):TD:=λU Y=>t U λrs=>jy rs=true/\Nat.ble rs.length 1000=true/\Y (dv (.tup (rs.map EV.d)))
def dLst(t:TDs):TD:=λU Y=>t U λrs=>jy rs=true/\Nat.ble rs.length 1000=true/\Y (df (.lst (rs.map EV.d)))
def wm(h:Nat.ble n 1000=true):n<=sizeLine:=zak (Nat.le_of_ble_eq_true h) (by decide)
theorem RVs.length{K:W.Frag}{H0 H:Hp}{O:List Addr}:∀{rs:List EV}{vs:List V},RVs K H0 H O rs vs->vs.length=rs.length
 |[],_,h=>by cases h;rfl
 |r::rs,vs,h=>by
  obtain⟨v,j,rfl,_,t⟩:=h;simp[RVs.length t]
def zi {x1} (h:EA L X es t):ED L X (.Tuple es x1 pos) (dTup t):=λH_=>impE (Rg (h H_)) λG H Q q=>by
 obtain⟨U,o,R,Y,B,k⟩:=q;refine⟨U,o,R,_,B,λvs rs H1 s1 j h1=>⟨by rw[j.length];exact wm h1.2.1,λp I=>?_⟩⟩
 exact k _ _ _ (s1.trans (yf I _)) (RV.start (Vd I (j.reps (sf h1.1))) s1) h1.2.2
def x8(h:EA L X es t):ED L X (.List es pos) (dLst t):=λH_=>impE (L8 (h H_)) λG H Q q=>by
 obtain⟨U,o,R,Y,B,k⟩:=q;refine⟨U,o,R,_,B,λvs rs H1 s1 j h1=>⟨by rw[j.length];exact wm h1.2.1,λp I=>?_⟩⟩
 exact k _ _ _ (s1.trans (yf I _)) (RV.start (qe (λa e=>R.ofree (s1.free e)) I (j.reps (sf h1.1))) s1) h1.2.2
def sIx1:D->D->(EV->Prop)->Prop:=λx y Y=>match x,y with
 |.lst ds,.int i=>match atI ds i with
  |some d=>Y (dv d)
  |none=>False
 |.tup ds,.int i=>match atI ds i with
  |some d=>Y (dv d)
  |none=>False
 |.scr ns,.int i=>match atI ns i with
  |some n=>Y (dv (.int n))
  |none=>False
 |.str z,.int i=>z.length<=sizeLine/\match atI z.cps.toList i with
  |some c=>Y (dv (.str ⟨#[c]⟩))
  |none=>False
 |_,_=>False
def Uh{K:W.Frag}{H:Hp}{O:List Addr}{ds:List D}{xs:List V}{i:Int}{d:D}(r:Reps K H O ds xs)(h:atI ds i=some d):∃v,atI xs i=some v/\Rep K H O d v:=by
 unfold atI at h ⊢;rw[r.length];cases e:ixN ds.length i with
 |none=>rw[e]at h;cases h
 |some j =>
  rw[e]at h;exact r.get h
def Jr:ja X.K (rIx X.K) sIx1:=by
 intro H O x y vx vy Y Q ho I B h k;unfold sIx1 at h;split at h
 ·obtain⟨a,xs,rfl,q,r⟩:=I;split at h
  ·rename_i d e;obtain⟨v,N,M⟩:=Uh r e;exact .inl ⟨a,xs,_,v,rfl,B,SqL.of q,N,k _ _ H (Same.refl H) (RV.val M) h⟩
  exact h.elim
 ·obtain⟨a,xs,rfl,q,r⟩:=I;split at h
  ·rename_i d e;obtain⟨v,N,M⟩:=Uh r e;exact .inr (.inl ⟨a,xs,_,v,rfl,B,q.1,N,k _ _ H (Same.refl H) (RV.val M) h⟩)
  exact h.elim
 ·obtain⟨a,rfl,q⟩:=I;split at h
  ·rename_i n e;refine .inl ⟨a,_,_,.int n,rfl,B,q.seq,?_,k _ _ H (Same.refl H) (by exact rfl) h⟩
   unfold atI at e ⊢;rw[zLm];cases e2:ixN _ _ with
   |none=>rw[e2]at e;cases e
   |some j =>
    rw[e2]at e;exact(zai ..).trans (congrArg (Option.map V.int) e)
  exact h.elim
 ·obtain⟨Z,h⟩:=h;split at h
  ·rename_i c e;exact .inr (.inr ⟨_,_,c,I,B,Z,e,k _ _ H (Same.refl H) (by exact rfl) h⟩)
  exact h.elim
 exact h.elim
abbrev TDo:=DE->(Option Int->Prop)->Prop
def Bl(K:W.Frag)(H_:Hp)(t:TDo):TO:=λG H Q=>∃U o,REnv K H_ H G U o/\∃Y,t U Y/\∀b H',Same H H'->Y b->Q b H'
def EO(G:Hp->Prop)(X:Cx)(e:Option Expr)(t:TDo):Prop:=∀H_:{H:Hp // G H},PO X e (Bl X.K H_.1 t)
def Jn:TDo:=λ_ Y=>Y none
def Jm(t:TD):TDo:=λU Y=>t U λr=>match r.d with
 |.int i=>Y (some i)
 |_=>False
def impO{e:Option Expr}{t t':TO}(h:PO X e t)(i:∀ G H Q,t' G H Q->t G H Q):PO X e t':=λpn s G H Q I q=>h pn s G H Q I (i G H Q q)
def xg:EO L X none Jn:=λH_=>impO J6 λG H Q h=>by
 obtain⟨U,o,R,Y,j,k⟩:=h;exact k none H (Same.refl H) j
def yi(h:ED L X e te):EO L X (some e) (Jm te):=λH_=>impO (J5 (h H_)) λG H Q q=>by
 obtain⟨U,o,R,Y,j,k⟩:=q;refine⟨U,o,R,_,j,λv r H1 s1 B h1=>?_⟩;obtain⟨I,d⟩:=r;cases d with
 |int i=>exact⟨i,B.view,k _ H1 s1 h1⟩
 |_=>exact h1.elim
def cutD(xs:List D)(lo hi:Option Int):List D:=(xs.drop (ZZ.sIx xs.length 0 lo)).take (ZZ.sIx xs.length xs.length hi-ZZ.sIx xs.length 0 lo)
def Zj{K:W.Frag}{H:Hp}{O:List Addr}{ds:List D}{xs:List V}(r:Reps K H O ds xs)(lo hi:Option Int):Reps K H O (cutD ds lo hi) (cutV xs lo hi):=by
 unfold cutD cutV;rw[r.length];exact(r.drop _).take _
def sSl:D->Option Int->Option Int->(EV->Prop)->Prop:=λx lo hi Y=>match x with
 |.lst ds=>Y (df (.lst (cutD ds lo hi)))
 |.scr ns=>Y (df (.lst (cutD (ns.map D.int) lo hi)))
 |.tup ds=>¬ (ZZ.sIx ds.length 0 lo=0/\ZZ.sIx ds.length ds.length hi=ds.length)/\Y (dv (.tup (cutD ds lo hi)))
 |_=>False
def dSl(te:TD)(tl th:TDo):TD:=λU Y=>te U λx=>tl U λl=>th U λu=>sSl x.d l u Y
def yj{lo hi:Option Expr}{tl th:TDo}{p2:Pos}(he:ED L X e te)(hl:EO L X lo tl)(hu:EO L X hi th):ED L X (.Subscript e (.Slice lo hi none p2) pos) (dSl te tl th):=λH_ =>
 impE (N2 (Kj.or Gz) (he H_) (hl H_) (hu H_)) λG H Q q=>by
  obtain⟨U,o,R,Y,Z,k⟩:=q;refine⟨U,o,R,_,Z,λv r H1 s1 rv h1=>⟨U,o,R.to s1,_,h1,λl H2 s2 h2=>⟨U,o,R.to (s1.trans s2),_,h2,λu H3 s3 I=>?_⟩⟩⟩;have N:=s1.trans s2;have j:=N.trans s3;have M:=(rv.same (s2.trans s3)).view;obtain⟨kd,d⟩:=r;cases d with
  |lst ds =>
   obtain⟨a,xs,rfl,q,r⟩:=M;refine .inl ⟨a,xs,rfl,SqL.of q,λp B=>?_⟩;exact k _ _ _ (j.trans (yf B _)) (RV.start (qe (λa e=>R.ofree (j.free e)) B (Zj r l u)) j) I
  |scr ns =>
   obtain⟨a,rfl,q⟩:=M;refine .inl ⟨a,_,rfl,q.seq,λp B=>?_⟩;exact k _ _ _ (j.trans (yf B _)) (RV.start (qe (λa e=>R.ofree (j.free e)) B (Zj (Reps.ints ns) l u)) j) I
  |tup ds =>
   obtain⟨a,xs,rfl,q,r⟩:=M;refine .inr ⟨a,xs,rfl,q.1,by rw[r.length];exact I.1,λp B=>?_⟩
   exact k _ _ _ (j.trans (yf B _)) (RV.start (Vd B (Zj r l u)) j) I.2
  |_=>exact I.elim
end
def qf(r:EV):Prop:=match r.k with
 |.val=>zj r.d
 |.own=>False
 |.fre=>match r.d with
  |.lst ds=>zw ds
  |.dk _ ds=>zw ds
  |_=>False
 |.new=>True
def RV.lift{K:W.Frag}{H0 H:Hp}{O:List Addr}{r:EV}{v:V}(h:RV K H0 H [] r v)(p:qf r)(ho:∀ a,H0 a=none->a∉O):RV K H0 H O r v:=by
 obtain⟨k,d⟩:=r;cases k with
 |val=>exact Rep.pure _ _ p h
 |own=>exact p.elim
 |fre =>
  obtain⟨a,e,m,n,c⟩:=h;refine⟨a,e,m,ho a m,?_⟩;cases d with
  |lst ds=>obtain⟨xs,q,r⟩:=c;exact⟨xs,q,Reps.pure _ _ p r⟩
  |dk ks ds=>obtain⟨xs,q,l,j,r⟩:=c;exact⟨xs,q,l,j,Reps.pure _ _ p r⟩
  |_=>exact c.elim
 |new=>exact RepN.to (Same.refl H) (λa z=>⟨ho a z.2,z.2⟩) _ _ h
abbrev FT:=List D->(EV->Prop)->Prop
def spD(K:W.Frag)(n:Nat)(T:FT):Sp:=λvs H Q _=>∃ds Y,ds.length=n/\Reps K H [] ds vs/\T ds Y/\∀v r H',Same H H'->RV K H H' [] r v->qf r->Y r->Q v H'
structure FD(P:Program)(w:World)(K:W.Frag)(mg:Str->Option Value)(base:Heap)(k:Nat)(x:Str)(ps:List Str)(T:FT):Prop where
 ex:∃f fd,FnOk P w K mg base CX0 k f fd ps (spD K ps.length T)/\ua K fd ps []/\W.keepIn K (.ref f)=true/\mg x=some (.ref f)
def Y9(n:Nat)(T:FT)(t:TDs):TD:=λU Y=>t U λrs=>Nat.beq rs.length n=true/\T (rs.map EV.d) Y
section
variable{x:Str}{ps:List Str}{T:FT}{k:Nat}{e:Expr}{es:List Expr}{t:TDs}{p pos:Pos}
def Q9:∀G H Q,qo X.K H_ (Y9 ps.length T t) G H Q->Gx (spD X.K ps.length T) [] E0 (Jw X.K H_ t) G H Q:=λG H Q q=>by
 obtain⟨U,o,R,Y,B,N⟩:=q;refine⟨U,o,R,_,B,λvs rs H1 s1 j h1=>?_⟩;show spD X.K ps.length T (vs++[]) H1 Q E0;rw[List.append_nil];refine⟨rs.map EV.d,Y,by rw[zLm];exact Nat.eq_of_beq_eq_true h1.1,j.reps0,h1.2,λv r H2 s2 I M h2=>?_⟩
 exact N v r H2 (s1.trans s2) (RV.start (I.lift M λa e=>R.ofree (s1.free e)) s1) h2
def ya(F:FD X.prog X.w X.K X.mg X.base k x ps T)(hr:Room k X.A)(N:EA L X (e::es) t)(I:Gl X x:=by rfl)(q:D_ x:=by decide)(M:S_ X e es:=by rfl)(j:B_ X es pos:=by rfl):ED L X (.Call (.Name x p) (e::es) [] pos) (Y9 ps.length T t):=λH_=>by
 obtain⟨f,fd,ok,b,B,m⟩:=F.ex;exact impE (Rm ok hr I m B b .nil W7 (N H_) q M j) Q9
def Gf(K:W.Frag)(H:Hp)(O:List Addr):List D->List V->Prop
 |[],vs=>vs=[]
 |d::ds,vs=>∃v ws,vs=v::ws/\View K H O d v/\Gf K H O ds ws
theorem RVs.views{K:W.Frag}{H0 H:Hp}{O:List Addr}:∀{rs:List EV}{vs:List V},RVs K H0 H O rs vs->Gf K H O (rs.map EV.d) vs
 |[],_,h=>h
 |r::rs,vs,h=>by
  obtain⟨v,j,e,q,t⟩:=h;exact⟨v,j,e,q.view,t.views⟩
def Pu(K:W.Frag)(r:List V->Hp->VK->Prop)(s:FT):Prop :=
 ∀(H:Hp)(O:List Addr)(ds:List D)(vs:List V)(Y:EV->Prop)(Q:VK),(∀a,H a=none->a∉O)->Gf K H O ds vs->s ds Y->(∀v r H',Same H H'->RV K H H' O r v->Y r->Q v H')->r vs H Q
def dCB(s:FT)(t:TDs):TD:=λU Y=>t U λrs=>s (rs.map EV.d) Y
def Q8{r:List V->Hp->VK->Prop}{s:FT}(hl:Pu X.K r s):∀G H Q,qo X.K H_ (dCB s t) G H Q->tCB r (Jw X.K H_ t) G H Q:=λG H Q q=>by
 obtain⟨U,o,R,Y,B,M⟩:=q;refine⟨U,o,R,_,B,λvs rs H1 s1 j h1=>?_⟩;exact hl H1 _ _ vs Y Q (λa e=>R.ofree (s1.free e)) j.views h1 λv r H2 s2 I h2=>M v r H2 (s1.trans s2) (I.start s1) h2
def qy{id:String}{r:List V->Hp->VK->Prop}{s:FT}(hc:ux X (.builtin id) r)(hl:Pu X.K r s)(M:X.mg x=none)(B:bootBuiltins x=some (.builtin id))(ha:EA L X (e::es) t)(N:Gl X x:=by rfl)(I:x≠"__name__":=by decide)(q:D_ x:=by decide)(Z:S_ X e es:=by rfl)(j:B_ X es pos:=by rfl):ED L X (.Call (.Name x p) (e::es) [] pos) (dCB s t):=λH_ =>
 impE (Vr hc N M B (ha H_) I q Z j) (Q8 hl)
def qx{T:String}{r:List V->Hp->VK->Prop}{s:FT}(hc:ux X (.type T) r)(hl:Pu X.K r s)(M:X.mg x=none)(B:bootBuiltins x=some (.type T))(ha:EA L X (e::es) t)(N:Gl X x:=by rfl)(I:x≠"__name__":=by decide)(q:D_ x:=by decide)(Z:S_ X e es:=by rfl)(j:B_ X es pos:=by rfl):ED L X (.Call (.Name x p) (e::es) [] pos) (dCB s t):=λH_ =>
 impE (Rl hc N M B (ha H_) I q Z j) (Q8 hl)
def sLen:FT:=λds Y=>match ds with
 |[.lst l]=>Y (dv (.int l.length))
 |[.tup l]=>Y (dv (.int l.length))
 |[.scr l]=>Y (dv (.int l.length))
 |[.str z]=>z.length<=sizeLine/\Y (dv (.int z.length))
 |_=>False
def Nb:Pu X.K (λxs H Q=>(∃p ys,xs=[.ref p]/\(SqL X.K H p ys\/SqT X.K H p ys)/\Q (.int ys.length) H)\/∃z,xs=[.str z]/\z.length<=sizeLine/\Q (.int z.length) H) sLen:=by
 intro H O ds vs Y Q ho j h k;unfold sLen at h;split at h
 ·obtain⟨v,B,rfl,⟨a,xs,rfl,q,r⟩,rfl⟩:=j;refine .inl ⟨a,xs,rfl,.inl (SqL.of q),?_⟩;rw[r.length];exact k _ _ H (Same.refl H) (by exact rfl) h
 ·obtain⟨v,B,rfl,⟨a,xs,rfl,q,r⟩,rfl⟩:=j;refine .inl ⟨a,xs,rfl,.inr q.1,?_⟩;rw[r.length];exact k _ _ H (Same.refl H) (by exact rfl) h
 ·obtain⟨v,B,rfl,⟨a,rfl,q⟩,rfl⟩:=j;refine .inl ⟨a,_,rfl,.inl q.seq,?_⟩;rw[zLm];exact k _ _ H (Same.refl H) (by exact rfl) h
 ·obtain⟨v,B,rfl,I,rfl⟩:=j;cases (show v=_ from I);exact .inr ⟨_,rfl,h.1,k _ _ H (Same.refl H) (by exact rfl) h.2⟩
 exact h.elim
def yu(q:X.mg "len" = none)(M:EA L X (e::es) t)(B:Gl X "len":=by rfl)(I:S_ X e es:=by rfl)(j:B_ X es pos:=by rfl):ED L X (.Call (.Name "len" p) (e::es) [] pos) (dCB sLen t) :=
 qy (jh.or Xk) Nb q PySem.boot_len M B (by decide) (by decide) I j
end
def EV.sto(r:EV):EV:=⟨match r.k with
 |.fre=>.own
 |.new=>.val
 | k=>k,r.d⟩
def EV.ret(r:EV):EV:=⟨match r.k with
 |.own=>.fre
 | k=>k,r.d⟩
def setS:DE->Nat->EV->DE
 |[],_,_=>[]
 |_::r,0,v=>some v::r
 |x::r,i+1,v=>x::setS r i v
theorem xp:∀(U:DE)(i:Nat)(v:EV),setS U i v=U.set i (some v)
 |[],_,_=>rfl
 |_::_,0,_=>rfl
 |x::r,i+1,v=>by rw[setS,xp r i v,List.set_cons_succ]
def Con1.grow{K:W.Frag}{H H':Hp}{O O':List Addr}{d:D}{a:Addr}(h:Con1 K H O d a)(s:∀ u,H a=some u->H' a=some u)(g:Grow O O' H H'):Con1 K H' O' d a:=by
 cases d with
 |lst ds=>obtain⟨xs,q,r⟩:=h;exact⟨xs,s _ q,Reps.grow g _ _ r⟩
 |dk ks ds=>obtain⟨xs,q,l,n,r⟩:=h;exact⟨xs,s _ q,l,n,Reps.grow g _ _ r⟩
 |_=>exact h.elim
def Con1.mtb{K:W.Frag}{H:Hp}{O:List Addr}{d:D}{a:Addr}(h:Con1 K H O d a):(∃u,H a=some u)/\(∀xs,H a≠some (.tup xs))/\∀j u,H a≠some (.frz j u):=by
 cases d with
 |lst ds=>obtain⟨xs,q,r⟩:=h;exact⟨⟨_,q⟩,(λxs z=>by rw[q]at z;cases z),(λj u z=>by rw[q]at z;cases z)⟩
 |dk ks ds=>obtain⟨xs,q,r⟩:=h;exact⟨⟨_,q⟩,(λxs z=>by rw[q]at z;cases z),(λj u z=>by rw[q]at z;cases z)⟩
 |_=>exact h.elim
def REnv.setV(R:REnv K H_ H G U o)(i:Nat)(h:Rep K H (o.map Prod.snd) d v):REnv K H_ H (G.set i (some v)) (setS U i (dv d)) o where
 same:=R.same
 fresh:=R.fresh
 trk:=R.trk
 mtb:=R.mtb
 nda:=R.nda
 len:=by rw[xp,List.length_set,List.length_set];exact R.len
 slots:=λj r e=>by
  rw[xp]at e;by_cases hj:j=i
  ·subst hj;have hl:j<U.length:=by
    rcases Nat.lt_or_ge j U.length with z|z
    ·exact z
    rw[List.getElem?_eq_none (by rw[List.length_set];exact z)]at e
    cases e
   rw[List.getElem?_set_self hl]at e;cases e;exact⟨v,List.getElem?_set_self (by rw[R.len];exact hl),.inl ⟨rfl,h⟩⟩
  rw[List.getElem?_set_ne (Ne.symm hj)]at e;obtain⟨w,B,q⟩:=R.slots j r e;exact⟨w,by rw[List.getElem?_set_ne (Ne.symm hj)];exact B,q⟩
def REnv.setO(R:REnv K H_ H G U o)(s:Same H H')(i:Nat)(I:H a=none)(c:Con1 K H' (a::o.map Prod.snd) d a) :
  REnv K H_ H' (G.set i (some (.ref a))) (setS U i (dO d)) ((i,a)::o)/\Grow (o.map Prod.snd) (((i,a)::o).map Prod.snd) H H':=by
 have g:Grow (o.map Prod.snd) (((i,a)::o).map Prod.snd) H H':=by
  refine⟨λb u h n=>⟨s b u h,λz=>?_⟩,λb xs h=>s b _ h,λb ob u h=>s b _ h⟩;rw[List.map_cons]at z;rcases zam.mp z with z|z
  ·exact zo h I z
  exact n z
 refine⟨?_,g⟩;have M:=R.to s;exact {
  same:=M.same
  fresh:=λp B=>by
   rcases zam.mp B with rfl|B
   ·exact R.same.free I
   exact R.fresh p B
  trk:=λp B=>by
   rcases zam.mp B with rfl|B
   ·exact c.mtb.1
   exact M.trk p B
  mtb:=λp B=>by
   rcases zam.mp B with rfl|B
   ·exact c.mtb.2
   exact M.mtb p B
  nda:=by
   rw[List.map_cons,List.nodup_cons];exact⟨λz=>R.ofree I z,R.nda⟩
  len:=by rw[xp,List.length_set,List.length_set];exact R.len
  slots:=λj r e=>by
   rw[xp]at e;by_cases hj:j=i
   ·subst hj;have hl:j<U.length:=by
     rcases Nat.lt_or_ge j U.length with z|z
     ·exact z
     rw[List.getElem?_eq_none (by rw[List.length_set];exact z)]at e
     cases e
    rw[List.getElem?_set_self hl]at e;cases e;exact⟨_,List.getElem?_set_self (by rw[R.len];exact hl),.inr ⟨rfl,a,rfl,zao ..,c⟩⟩
   rw[List.getElem?_set_ne (Ne.symm hj)]at e;obtain⟨w,N,q⟩:=R.slots j r e;refine⟨w,by rw[List.getElem?_set_ne (Ne.symm hj)];exact N,?_⟩
   rcases q with⟨k,q⟩|⟨k,a',e1,m,Z⟩
   ·exact .inl ⟨k,Rep.grow g _ _ q⟩
   exact .inr ⟨k,a',e1,zal _ m,Z.grow (λu q=>s _ _ q) g⟩}
def REnv.put(R:REnv K H_ H G U o)(s:Same H H')(i:Nat)(h:RV K H H' (o.map Prod.snd) r v)(j:r.k≠.own) :
  ∃o',REnv K H_ H' (G.set i (some v)) (setS U i r.sto) o'/\Grow (o.map Prod.snd) (o'.map Prod.snd) H H':=by
 obtain⟨k,d⟩:=r;cases k with
 |val=>exact⟨_,(R.to s).setV i h,Grow.same s⟩
 |own=>exact absurd rfl j
 |fre =>
  obtain⟨a,rfl,m,n,c⟩:=h;exact⟨_,R.setO s i m c⟩
 |new=>exact⟨_,(R.to s).setV i (RepN.rep (λa z=>z.1) _ _ h),Grow.same s⟩
theorem Zw:∀{o:List (Nat×Addr)},(o.map Prod.snd).Nodup->∀{p q:Nat×Addr},p∈o->q∈o->p.2=q.2->p=q
 |[],_,_,_,h,_,_=>nomatch h
 |x::o,nd,p,q,hp,hq,e=>by
  rw[List.map_cons,List.nodup_cons]at nd;rcases zam.mp hp with h1|hp
  ·rcases zam.mp hq with h2|hq
   ·rw[h1,h2]
   exact absurd (zah.mpr ⟨q,hq,by rw[<- e,h1]⟩) nd.1
  rcases zam.mp hq with h2|hq
  ·exact absurd (zah.mpr ⟨p,hp,by rw[e,h2]⟩) nd.1
  exact Zw nd.2 hp hq e
def REnv.chg(R:REnv K H_ H G U o){i:Nat}{a:Addr}{d d':D}{ho:HO}(hs:U[i]?=some (some (dO d)))(a0:G[i]?=some (some (.ref a)))(I:(i,a)∈o)(M:(∀ xs,ho≠.tup xs)/\∀ B u,ho≠.frz B u)(c:(∀ ds xs,Reps K H (o.map Prod.snd) ds xs->Reps K (upd H a ho) (o.map Prod.snd) ds xs)->Con1 K (upd H a ho) (o.map Prod.snd) d' a) :
  REnv K H_ (upd H a ho) G (setS U i (dO d')) o/\Grow (o.map Prod.snd) (o.map Prod.snd) H (upd H a ho):=by
 have ha:a∈o.map Prod.snd:=zah.mpr ⟨_,I,rfl⟩;obtain⟨m1,m2⟩:=R.mtb _ I;have g:Grow (o.map Prod.snd) (o.map Prod.snd) H (upd H a ho) :=
  ⟨λb u h n=>⟨by rw[y0 (show b≠a from λz=>n (by rw[z];exact ha))];exact h,n⟩,λb xs h=>by rw[y0 (show b≠a from λz=>m1 xs (by rw[<- z];exact h))];exact h,λb B u h=>by rw[y0 (show b≠a from λz=>m2 B u (by rw[<- z];exact h))];exact h⟩
 refine⟨?_,g⟩;exact {
  same:=λb u h=>by
   have:b≠a:=λz=>by
    have:=R.fresh _ I;rw[<- z,h]at this;cases this
   rw[y0 this];exact R.same b u h
  fresh:=R.fresh
  trk:=λp hp=>by
   by_cases e:p.2=a
   ·exact⟨ho,by rw[e];exact zm⟩
   rw[y0 e];exact R.trk p hp
  mtb:=λp hp=>by
   by_cases e:p.2=a
   ·rw[e,zm];exact⟨λxs z=>M.1 xs (Option.some.inj z),λB u z=>M.2 B u (Option.some.inj z)⟩
   rw[y0 e];exact R.mtb p hp
  nda:=R.nda
  len:=by rw[xp,List.length_set];exact R.len
  slots:=λj r e=>by
   rw[xp]at e;by_cases hj:j=i
   ·subst hj;have hl:j<U.length:=(zag.mp hs).1;rw[List.getElem?_set_self hl]at e;cases e;obtain⟨v,ev,q⟩:=R.slots j _ hs;rcases q with⟨k,_⟩|⟨_,N,e1,Z,_⟩
    ·cases k
    have a5:N=a:=by
     rw[a0]at ev;cases ev;cases e1;rfl
    subst a5;exact⟨v,ev,.inr ⟨rfl,N,e1,I,c λds xs q=>Reps.grow g _ _ q⟩⟩
   rw[List.getElem?_set_ne (Ne.symm hj)]at e;obtain⟨w,ew,q⟩:=R.slots j r e;refine⟨w,ew,?_⟩;rcases q with⟨k,q⟩|⟨k,N,e1,Z,c'⟩
   ·exact .inl ⟨k,Rep.grow g _ _ q⟩
   refine .inr ⟨k,N,e1,Z,c'.grow (λu q=>?_) g⟩;have a4:N≠a:=λz=>by
    exact hj (congrArg Prod.fst (Zw R.nda Z I z))
   rw[y0 a4];exact q}
section
variable{st:Stmt}{rest:List Stmt}{t u:TDS}{e:Expr}{te:TD}{tc:TDb}{pos:Pos}
def sNil:TDS:=λU Z=>Z.nx U
def sSeq(t u:TDS):TDS:=λU Z=>t U {Z with nx:=λj=>u j Z}
def yx:SDs L X [] sNil:=λH_=>Wn Zk λD G H h=>by
 obtain⟨U,o,R,Z,q,j,_⟩:=h;exact j U G H o Grow.refl R q
def ze(h1:SD L X st t)(h2:SDs L X rest u):SDs L X (st::rest) (sSeq t u):=λH_=>Wn (ww (h1 H_) (h2 H_)) λD G H h=>by
 obtain⟨U,o,R,Z,hZ,k1,k2,k3,k4⟩:=h;refine⟨U,o,R,_,hZ,λN a0 H' o' g R' q=>?_,k2,k3,k4⟩;exact⟨N,o',R',Z,q,λB j H2 M g2 R2 I=>k1 B j H2 M (g.trans g2) R2 I,λB j H2 M g2 R2 I=>k2 B j H2 M (g.trans g2) R2 I,λB j H2 M g2 R2 I=>k3 B j H2 M (g.trans g2) R2 I,k4⟩
def zy(h1:SD L X st t):SDs L X [st] t:=λH_=>rh (h1 H_)
def W2:SD L X (.Continue pos) (λU Z=>Z.ct U):=λH_=>impS W6 λD G H h=>by
 obtain⟨U,o,R,Z,q,_,_,j,_⟩:=h;exact j U G H o Grow.refl R q
def Zi:SD L X st (λ_ _=>False):=λH_=>impS Ow λD G H h=>by
 obtain⟨_,_,_,_,j,_⟩:=h;exact j.elim
def sRet(te:TD):TDS:=λU Z=>te U λr=>Z.rt r.ret
theorem RV.ret{K:W.Frag}{H_ H H':Hp}{G:St}{U:DE}{o:List (Nat×Addr)}(R:REnv K H_ H G U o){r:EV}{v:V}(h:RV K H H' (o.map Prod.snd) r v):RV K H_ H' [] r.ret v:=by
 obtain⟨k,d⟩:=r;cases k with
 |val=>exact Rep.sub (O':=[]) (λ_ z=>absurd z (by simp)) _ _ h
 |own =>
  obtain⟨a,e,m,c⟩:=h;obtain⟨p,q,B⟩:=zah.mp m;subst B;exact⟨p.2,e,R.fresh p q,by simp,c.sub λb j=>by
   have:b=p.2:=by simpa using j
   rw[this];exact m⟩
 |fre =>
  obtain⟨a,e,m,n,c⟩:=h;exact⟨a,e,R.same.free m,by simp,c.sub λb j=>by
   have:b=a:=by simpa using j
   rw[this];exact zao ..⟩
 |new=>exact RepN.to (Same.refl H') (λa z=>⟨by simp,R.same.free z.2⟩) _ _ h
def yg(B:ED L X e te):SD L X (.Return (some e) pos) (sRet te):=λH_=>impS (bh (B H_)) λD G H h=>by
 obtain⟨U,o,R,Z,I,k1,N,M,q⟩:=h;refine⟨U,o,R,_,I,λv r H1 s1 j h1=>?_⟩;exact q v r.ret H1 (R.same.trans s1) (RV.ret R j) h1
def sIf(tc:TDb)(t u:TDS):TDS:=λU Z=>tc U λc=>(c=true->t U Z)/\(c=false->u U Z)
def wb{c:Expr}{a b:List Stmt}(hc:ET L X c tc)(ha:SDs L X a t)(hb:SDs L X b u):SD L X (.If c a b pos) (sIf tc t u):=λH_=>impS (Ox (hc H_) (ha H_) (hb H_)) λD G H h=>by
 obtain⟨U,o,R,Z,hZ,k1,k2,k3,N⟩:=h;refine⟨U,o,R,_,hZ,λc H1 s1 h1=>?_⟩;have g:Grow (o.map Prod.snd) (o.map Prod.snd) H H1:=Grow.same s1;have M:∀{v:TDS},v U Z->Qa X.K H_.1 v D G H1:=λhv=>⟨U,o,R.to s1,Z,hv,λq j H2 I g2 R2 B=>k1 q j H2 I (g.trans g2) R2 B,λq j H2 I g2 R2 B=>k2 q j H2 I (g.trans g2) R2 B,λq j H2 I g2 R2 B=>k3 q j H2 I (g.trans g2) R2 B,N⟩;cases c with
 |true=>exact iteT (M (h1.1 rfl))
 |false=>exact iteF (M (h1.2 rfl))
def sCut(t:TDS):TDS:=λU Z=>∃J:DE->Prop,t U {Z with nx:=J}/\∀ρ',J ρ'->Z.nx ρ'
def zp(h:SD L X st t):SD L X st (sCut t):=λH_=>impS (h H_) λD G H h=>by
 obtain⟨U,o,R,Z,⟨J,hZ,hJ⟩,k1,k2,N,M⟩:=h;exact⟨U,o,R,_,hZ,λj q H2 I g2 R2 B=>k1 j q H2 I g2 R2 (hJ j B),k2,N,M⟩
def Fe(te:TD):TDS:=λU Z=>te U λ_=>Z.nx U
def Kn(B:ED L X e te)(q:swapsWith e none pos.line X.env=pure false:=by rfl):SD L X (.Expr e pos) (Fe te):=λH_=>impS (rj (B H_) q) λD G H h=>by
 obtain⟨U,o,R,Z,I,j,k2,k3,N⟩:=h;exact⟨U,o,R,_,I,λv r H1 s1 M h1=>j U G H1 o (Grow.same s1) (R.to s1) h1⟩
def sSet(i:Nat)(te:TD):TDS:=λU Z=>te U λr=>(match r.k with|.own=>False|_=>True)/\Z.nx (setS U i r.sto)
def ub{r:EV}(h:match r.k with|.own=>False|_=>True):r.k≠.own:=by
 obtain⟨k,d⟩:=r;cases k with
 |own=>exact h.elim
 |val=>exact λz=>nomatch z
 |fre=>exact λz=>nomatch z
 |new=>exact λz=>nomatch z
def y3(i:Nat){x:Str}(hN:X.N.Nodup)(he:ED L X e te)(hi:X.N[i]?=some x:=by rfl)(B:Loc X.env.scope x:=by first|exact Or.inl rfl|exact Or.inr rfl)(I:swapsWith e (some (.Name x pos')) pos.line X.env=pure false:=by rfl)(M:X.fn x=true\/X.env.scope.names.lookup x=some .local:=by first|exact .inl rfl|exact .inr rfl|assumption):SD L X (.Assign [.Name x pos'] e pos) (sSet i te):=λH_=>impS (gh hN hi B (he H_) I M) λD G H h=>by
 obtain⟨U,o,R,Z,hZ,q,k2,k3,k4⟩:=h;refine⟨U,o,R,_,hZ,λv r H1 s1 j h1=>?_⟩;obtain⟨o',R',g⟩:=R.put s1 i j (ub h1.1);exact q _ _ H1 o' g R' h1.2
abbrev TGD:=D->DE->(DE->Prop)->Prop
def qz(K:W.Frag)(g2:TG)(g:TGD):Prop:=∀(H_ H:Hp)(G:St)(U:DE)(o:List (Nat×Addr))(d:D)(v:V)(M:DE->Prop)(Q:St->Hp->Prop),REnv K H_ H G U o->Rep K H (o.map Prod.snd) d v->g d U M ->
 (∀ρ' σ',REnv K H_ H σ' ρ' o->M ρ'->Q σ' H)->g2 v G H Q
def gN(i:Nat):TGD:=λd U M=>M (setS U i (dv d))
def yr{K:W.Frag}(i:Nat):qz K (wt i) (gN i):=λH_ H G U o d v M Q R h j k=>k _ _ (R.setV i h) j
def gT2(i j:Nat):TGD:=λd U M=>match d with
 |.tup [a,b]=>M (setS (setS U i (dv a)) j (dv b))
 |_=>False
def tu{K:W.Frag}(i j:Nat):qz K (gTup K 2 (vo (wt i) (vo (wt j) gNil))) (gT2 i j):=λH_ H G U o d v M Q R h B k=>by
 unfold gT2 at B;split at B
 ·rename_i a b;obtain⟨p,xs,rfl,q,r⟩:=h;obtain⟨N,r1,rfl,h1,I,r2,rfl,h2,rfl⟩:=r;refine⟨p,_,rfl,q.1,rfl,N,_,rfl,I,_,rfl,rfl,?_⟩;have Z:=R.setV i h1;have R2:=Z.setV j h2;exact k _ _ R2 B
 exact B.elim
def gT4(i j l m:Nat):TGD:=λd U M=>match d with
 |.tup [a,b,c,e]=>M (setS (setS (setS (setS U i (dv a)) j (dv b)) l (dv c)) m (dv e))
 |_=>False
def sUn(te:TD)(g:TGD):TDS:=λU Z=>te U λr=>(match r.k with|.own=>False|_=>True)/\g r.d U Z.nx
def Sj{tg:Expr}{g2:TG}(he:ED L X e te)(hg:PG X tg g2)(hl:qz X.K g2 g)(hs:swapsWithSole [tg] e pos.line X.env=pure false:=by rfl)(N:swappedStores [tg] e X.env=pure none:=by rfl)(h1:(assignEach [tg] X.env).map (·.2)=[assign tg X.env]:=by rfl):SD L X (.Assign [tg] e pos) (sUn te g):=λH_=>impS (Yr (he H_) hg hs N h1) λD G H h=>by
 obtain⟨U,o,R,Z,hZ,M,k2,k3,k4⟩:=h;refine⟨U,o,R,_,hZ,λv r H1 s1 I h1=>?_⟩;exact hl H_.1 H1 G U o r.d v _ _ (R.to s1) (I.solid (ub h1.1)) h1.2 λB j R' q=>M B j H1 o (Grow.same s1) R' q
def sWh(tc:TDb)(tb:TDS):TDS:=λU Z=>∃(P:DE->Prop)(μ:DE->Nat),P U/\∀U,P U->tc U λc =>
 (c=true->tb U {Z with nx:=λj=>P j/\μ j<μ U,ct:=λj=>P j/\μ j<μ U,bk:=Z.nx})/\(c=false->Z.nx U)
def Zh{c:Expr}(hc:ET L X c tc)(hb:SDs L X body tb)(hp:PassesOwn (model X.prog X.w) X.A X.env X.xe:=by exact PassesOwn.never):SD L X (.While c body [] pos) (sWh tc tb):=λH_=>impS (Vn hp (hc H_) (hb H_)) λD G H h=>by
 obtain⟨U,o,R,Z,⟨P,μ,hP,N⟩,k1,k2,k3,k4⟩:=h;refine⟨λm B H'=>∃j o',Grow (o.map Prod.snd) (o'.map Prod.snd) H H'/\REnv X.K H_ H' B j o'/\P j/\μ j=m,⟨_,U,o,Grow.refl,R,hP,rfl⟩,?_⟩;rintro m a0 H1 ⟨I,o1,g1,R1,p1,rfl⟩;refine⟨I,o1,R1,_,N I p1,λc H2 s2 h2=>?_⟩;have g2:=g1.trans (Grow.same (O:=o1.map Prod.snd) s2);cases c with
 |true =>
  refine iteT ⟨λB H'=>∃j o',Grow (o.map Prod.snd) (o'.map Prod.snd) H H'/\REnv X.K H_ H' B j o'/\P j/\μ j<μ I,λB H' ⟨j,o',g,M,p,l⟩=>⟨_,l,j,o',g,M,p,rfl⟩,?_⟩;exact⟨I,o1,R1.to s2,_,h2.1 rfl,λj B H' o' g M q=>⟨j,o',g2.trans g,M,q.1,q.2⟩,λj B H' o' g M q=>k1 j B H' o' (g2.trans g) M q,λj B H' o' g M q=>⟨j,o',g2.trans g,M,q.1,q.2⟩,k4⟩
 |false=>exact iteF (k1 I a0 H2 o1 g2 (R1.to s2) (h2.2 rfl))
structure ItD(K:W.Frag)(J:It)(ds:List D)(P:Hp->List Addr->Prop):Prop where
 go:∀(H:Hp)(O:List Addr)(i:Nat)(d:D),P H O->ds[i]?=some d->J.go i H/\∀x H',J.yld i H x H'->Same H H'/\Rep K H' O d x
 stop:∀(H:Hp)(O:List Addr),P H O->J.stop ds.length H
 keep:∀(O O':List Addr)(H H':Hp),P H O->Grow O O' H H'->P H' O'
abbrev TID:=DE->(List D->Prop)->Prop
def Ju(K:W.Frag)(H_:Hp)(t:TID):TI:=λG H R=>∃U o,REnv K H_ H G U o/\∃Y,t U Y/\∀J ds P H',Same H H'->ItD K J ds P->P H' (o.map Prod.snd)->Y ds->R J H'
def EI(G:Hp->Prop)(X:Cx)(tg iter:Expr)(t:TID):Prop:=∀H_:{H:Hp // G H},PI X tg iter (Ju X.K H_.1 t)
def sFor(ti:TID)(g:TGD)(tb:TDS):TDS:=λU Z=>ti U λds=>∃P:Nat->DE->Prop,P 0 U/\(∀i d U,ds[i]?=some d->P i U->g d U λj=>tb j {Z with nx:=P (i+1),ct:=P (i+1),bk:=Z.nx})/\∀U,P ds.length U->Z.nx U
def sv{tg iter:Expr}{g2:TG}(hi:EI L X tg iter ti)(hg:PG X tg g2)(hl:qz X.K g2 g)(hb:SDs L X body tb)(hc:X.calm=true:=by rfl)(hp:PassesOwn (model X.prog X.w) X.A X.env X.xe:=by exact PassesOwn.never)(hs:∀ x,foldedSetIterable iter X.env x=pure x:=by intro _;rfl):SD L X (.For tg iter body [] pos) (sFor ti g tb):=λH_=>impS (E7 hp hc (hi H_) hg (hb H_) hs) λD G H h=>by
 obtain⟨U,o,R,Z,hZ,k1,k2,k3,k4⟩:=h;refine⟨U,o,R,_,hZ,λJ ds PJ H1 s1 I hP Zh=>?_⟩;obtain⟨P,p0,a4,fin⟩:=Zh;refine⟨λi m B H'=>m=ds.length-i/\i<=ds.length/\∃j o',Grow (o.map Prod.snd) (o'.map Prod.snd) H1 H'/\REnv X.K H_ H' B j o'/\P i j,⟨_,rfl,Nat.zero_le _,U,o,Grow.refl,R.to s1,p0⟩,?_⟩;rintro i m B H' ⟨rfl,b0,j,o',g',R',p'⟩;have a5:=I.keep _ _ _ _ hP g';have gg:Grow (o.map Prod.snd) (o'.map Prod.snd) H H':=(Grow.same s1).trans g';by_cases hlt:i<ds.length
 ·have ed:ds[i]?=some ds[i]:=by simp[hlt]
  obtain⟨j1,j2⟩:=I.go H' _ i _ a5 ed;refine .inr ⟨j1,λa0 H2=>∃M o2,Grow (o.map Prod.snd) (o2.map Prod.snd) H1 H2/\REnv X.K H_ H2 a0 M o2/\P (i+1) M,λa0 H2 ⟨M,o2,g2,R2,p2⟩=>⟨_,(by omega:ds.length-(i+1)<ds.length-i),rfl,hlt,M,o2,g2,R2,p2⟩,λx H2 y=>?_⟩
  obtain⟨s2,rp⟩:=j2 x H2 y;refine hl H_.1 H2 B j o' _ x _ _ (R'.to s2) rp (a4 i _ j ed p') λa7 a9 R3 q3=>?_;have a6:Grow (o.map Prod.snd) (o'.map Prod.snd) H1 H2:=g'.trans (Grow.same s2);have a8:Grow (o.map Prod.snd) (o'.map Prod.snd) H H2:=gg.trans (Grow.same s2);exact⟨a7,o',R3,_,q3,λq N H4 o4 g4 R4 q4=>⟨q,o4,a6.trans g4,R4,q4⟩,λq N H4 o4 g4 R4 q4=>k1 q N H4 o4 (a8.trans g4) R4 q4,λq N H4 o4 g4 R4 q4=>⟨q,o4,a6.trans g4,R4,q4⟩,k4⟩
 have e:i=ds.length:=by omega
 subst e;exact .inl ⟨I.stop H' _ a5,k1 j B H' o' gg R' (fin j p')⟩
end
section
variable{tg e:Expr}{te:TD}{t:TDs}{pos:Pos}
def impI{t t':TI}(h:PI X tg iter t)(i:∀ G H R,t' G H R->t G H R):PI X tg iter t':=λpn s G H R I q=>h pn s G H R I (i G H R q)
def PV(X:Cx)(tg:Expr)(r:V->Hp->(It->Hp->Prop)->Prop):Prop :=
 ∀(pn:List (Addr×Obj))(s:Shared)(G:St)(H:Hp)(x:V)(v:Value)(R:It->Hp->Prop),Inv X pn G H s->RelV x v->r x H R->wpAny (model X.prog X.w) X.A (pyIter v) (PIE X pn G tg R) X.xe s
def Bb{l:Expr}{r:V->Hp->(It->Hp->Prop)->Prop}(hl:PE X l tl)(B:PV X tg r):PI X tg l (λG H R=>tl G H λx H1=>r x H1 R):=λpn s G H R I h =>
 thn (hl pn s G H _ I h) λv s1 ⟨x,H1,M,j,q⟩=>B pn s1 G H1 x v R M j q
def J2:PV X tg (λx H R=>∃a,x=.ref a/\(∃xs,SqL X.K H a xs)/\R (Itl X.K a) H):=by
 intro pn s1 G H1 x v R j B I;obtain⟨a,e,⟨xs,M⟩,q⟩:=I;subst e;cases B;obtain⟨its,Z,p,hz⟩:=j.list M;refine wpAny_pyIter_list p.isList ?_;refine⟨s1.heap.objs.size,[s1.heap.objs.size],_,_,H1,rfl,j.kept (t':=s1.toks) λb o e=>zac _ e,Tv a _,⟨_,zad _ rfl,rfl,rfl⟩,λb N=>?_,q⟩;have e:b=s1.heap.objs.size:=by simpa using N
 subst e;exact j.fpOk (zaj _) (j.hok.fresh (zaj _))
def E3:PV X tg (λx H R=>∃a,x=.ref a/\(∃xs,SqT X.K H a xs)/\R (Itt X.K a) H):=by
 intro pn s1 G H1 x v R j B I;obtain⟨a,e,⟨xs,M⟩,q⟩:=I;subst e;cases B;obtain⟨its,Z,p,hz⟩:=j.tuple M;refine wpAny_pyIter_tuple (show s1.heap.IsTuple a its.toArray from p) ?_;refine⟨s1.heap.objs.size,[s1.heap.objs.size],_,_,H1,rfl,j.kept (t':=s1.toks) λb o e=>zac _ e,Uo a _,⟨_,zad _ rfl,rfl,rfl⟩,λb N=>?_,q⟩;have e:b=s1.heap.objs.size:=by simpa using N
 subst e;exact j.fpOk (zaj _) (j.hok.fresh (zaj _))
def E4:PV X tg (λx H R=>∃z,x=.str z/\R (Itv z.cps.size (Gg z)) H):=by
 intro pn s1 G H1 x v R I M N;obtain⟨z,e,q⟩:=N;subst e;obtain⟨t,rfl⟩:=M;have j:∀(T:String),(∀A:Around,A.handled=none->Walks X.prog X.w A s1.heap.objs.size [s1.heap.objs.size] [s1.heap.objs.size] z.cps.size (SignAt z) (λi h=>h.IsStrIter s1.heap.objs.size T z t i)) ->
   (∀(A:Around)(i:Nat)(s:Shared)(Q:Value->Shared->Prop)(E:Value->Shared->Prop),s.heap.IsStrIter s1.heap.objs.size T z t i->Q (.ref s1.heap.objs.size) s->wpAny (model X.prog X.w) A (pyIter (.ref s1.heap.objs.size)) Q E s) ->
   ["enumerate","zip","dict_itemiterator","dict_reverseitemiterator","odict_iterator","itertools.zip_longest","itertools.pairwise"].contains T=false ->
   PIE X pn G tg R (.ref s1.heap.objs.size) {s1 with heap:=s1.heap.push {cls:=.type T,data:=.fields #[.str z t,.int 0 0]}}:=λT W Z hT=>by
  have I2:Inv X pn G H1 {s1 with heap:=s1.heap.push {cls:=.type T,data:=.fields #[.str z t,.int 0 0]}}:=I.kept (t':=s1.toks) λb u e=>zac _ e;refine⟨s1.heap.objs.size,[s1.heap.objs.size],_,_,H1,rfl,I2,O3 W Z hT,⟨_,zad _ rfl,rfl,rfl⟩,λb hb=>?_,q⟩;have e:b=s1.heap.objs.size:=by simpa using hb
  subst e;exact I.fpOk (zaj _) I.fresh
 cases ha:z.cps.all (·<128)
 ·exact wpAny_pyIter_wide ha (j "str_iterator" (λA B=>Walks.strWide B _ z t) (λA i s Q E st q=>wpAny_pyIter_striter_wide st q) (by decide))
 exact wpAny_pyIter_ascii ha (j "str_ascii_iterator" (λA B=>Walks.strAscii B _ z t) (λA i s Q E st q=>wpAny_pyIter_striter_ascii st q) (by decide))
def Lm:D->Option (List D)
 |.lst ds=>some ds
 |.tup ds=>some ds
 |.scr ns=>some (ns.map D.int)
 |.str z=>some (z.cps.toList.map λc=>D.str ⟨#[c]⟩)
 |_=>none
def iSeq(te:TD):TID:=λU Y=>te U λr=>(match r.k with|.own=>False|_=>True)/\match Lm r.d with
 |some ds=>Y ds
 |none=>False
def Dp{K:W.Frag}{a:Addr}{ds:List D}:ItD K (Itl K a) ds (λH O=>∃xs,H a=some (.lst xs)/\a∉O/\Reps K H O ds xs) where
 go:=λH O i d ⟨xs,q,n,r⟩ e=>by
  obtain⟨v,j,B⟩:=r.get e;refine⟨⟨xs,v,SqL.of q,j⟩,λx H' y=>?_⟩;obtain⟨e1,y⟩:=y;subst e1;have:=y xs (SqL.of q);rw[j]at this;cases this;exact⟨Same.refl _,B⟩
 stop:=λH O ⟨xs,q,n,r⟩=>⟨xs,SqL.of q,by rw[r.length];exact zaj _⟩
 keep:=λO O' H H' ⟨xs,q,n,r⟩ g=>⟨xs,(g.keep _ _ q n).1,(g.keep _ _ q n).2,Reps.grow g _ _ r⟩
def Dl{K:W.Frag}{a:Addr}{ds:List D}:ItD K (Itt K a) ds (λH O=>∃xs,SqT K H a xs/\Reps K H O ds xs) where
 go:=λH O i d ⟨xs,q,r⟩ e=>by
  obtain⟨v,j,B⟩:=r.get e;refine⟨⟨xs,v,q,j⟩,λx H' y=>?_⟩;obtain⟨e1,y⟩:=y;subst e1;have:=y xs q;rw[j]at this;cases this;exact⟨Same.refl _,B⟩
 stop:=λH O ⟨xs,q,r⟩=>⟨xs,q,by rw[r.length];exact zaj _⟩
 keep:=λO O' H H' ⟨xs,q,r⟩ g=>⟨xs,Zc g q,Reps.grow g _ _ r⟩
def Dn{K:W.Frag}{a:Addr}{ns:List Int}:ItD K (Itl K a) (ns.map D.int) (λH _=>Scr K H a ns) where
 go:=λH O i d q e=>by
  rw[zai]at e;cases en:ns[i]? with
  |none=>rw[en]at e;cases e
  |some n =>
   rw[en]at e;cases e;have j:(ns.map V.int)[i]?=some (.int n):=by rw[zai,en];rfl
   refine⟨⟨_,_,q.seq,j⟩,λx H' y=>?_⟩;obtain⟨e1,y⟩:=y;subst e1;have:=y _ q.seq;rw[j]at this;cases this;exact⟨Same.refl _,rfl⟩
 stop:=λH O q=>⟨_,q.seq,by rw[zLm,zLm];exact zaj _⟩
 keep:=λO O' H H' q g=>jo g q
def Dm{K:W.Frag}{z:Str}:ItD K (Itv z.cps.size (Gg z)) (z.cps.toList.map λc=>D.str ⟨#[c]⟩) (λ_ _=>True) where
 go:=λH O i d _ e=>by
  rw[zai]at e;cases en:z.cps.toList[i]? with
  |none=>rw[en]at e;cases e
  |some n =>
   rw[en]at e;cases e;have hl:=(zag.mp en).1;refine⟨(show i<z.cps.size by simpa using hl),λx H' y=>?_⟩
   obtain⟨e1,c,j,ex⟩:=y;subst e1 ex;have:z.cps.toList[i]?=some c:=by rw[Array.getElem?_toList];exact j
   rw[en]at this;cases this;exact⟨Same.refl _,rfl⟩
 stop:=λH O _=>by show _=_;simp
 keep:=λ_ _ _ _ _ _=>trivial
def rngD(lo:Int)(n:Nat):List D:=(List.range n).map λ(i:Nat)=>D.int (lo+(i:Int))
def Do{K:W.Frag}{lo:Int}{n:Nat}:ItD K (Itr lo n) (rngD lo n) (λ_ _=>True) where
 go:=λH O i d _ e=>by
  unfold rngD at e;rw[zai]at e;cases en:(List.range n)[i]? with
  |none=>rw[en]at e;cases e
  |some m =>
   rw[en]at e;cases e;have hl:=(zag.mp en).1;rw[List.length_range]at hl;have:m=i:=by
    rw[List.getElem?_range hl]at en;exact(Option.some.inj en).symm
   subst this;refine⟨hl,λx H' y=>?_⟩;obtain⟨e1,ex⟩:=y;subst e1 ex;exact⟨Same.refl _,rfl⟩
 stop:=λH O _=>by show n<=_;unfold rngD;simp
 keep:=λ_ _ _ _ _ _=>trivial
def PV.or{r B:V->Hp->(It->Hp->Prop)->Prop}(h:PV X tg r)(h':PV X tg B):PV X tg (λx H R=>r x H R\/B x H R):=λpn s G H x v R I j q=>q.elim (h pn s G H x v R I j) (h' pn s G H x v R I j)
def wg(M:ED L X e te):EI L X tg e (iSeq te):=λH_=>impI (Bb (M H_) (J2.or (E3.or E4))) λG H R q=>by
 obtain⟨U,o,N,Y,B,k⟩:=q;refine⟨U,o,N,_,B,λv r H1 s1 I h1=>?_⟩;obtain⟨h0,h1⟩:=h1;have j:=I.solid (ub h0);obtain⟨Z,d⟩:=r;cases d with
 |lst ds =>
  obtain⟨a,xs,rfl,q,n,r⟩:=j;exact .inl ⟨a,rfl,⟨xs,SqL.of q⟩,k _ _ _ H1 s1 Dp ⟨xs,q,n,r⟩ h1⟩
 |tup ds =>
  obtain⟨a,xs,rfl,q,r⟩:=j;exact .inr (.inl ⟨a,rfl,⟨xs,q.1⟩,k _ _ _ H1 s1 Dl ⟨xs,q.1,r⟩ h1⟩)
 |scr ns =>
  obtain⟨a,rfl,q⟩:=j;exact .inl ⟨a,rfl,⟨_,q.seq⟩,k _ _ _ H1 s1 Dn q h1⟩
 |str z =>
  cases (show v=_ from j)
  exact .inr (.inr ⟨z,rfl,k _ _ _ H1 s1 Dm trivial h1⟩)
 |_=>exact h1.elim
def iR1(t:TDs):TID:=λU Y=>t U λrs=>match rs with
 |[⟨_,.int j⟩]=>-(2 ^ 62)<=j/\j<2 ^ 62/\Y (rngD 0 j.toNat)
 |_=>False
def wo{a:Expr}(Z:X.mg "range" = none)(ha:EA L X [a] t)(hg:Gl X "range":=by rfl)(N:starEach [a] X.env=[(false,eval a X.env)]:=by rfl):EI L X tg (.Call (.Name "range" p) [a] [] pos) (iR1 t):=λH_=>impI (Rc hg Z (ha H_) N) λG H R q=>by
 obtain⟨U,o,RE,Y,I,k⟩:=q;refine⟨U,o,RE,_,I,λvs rs H1 s1 B h1=>?_⟩;split at h1
 ·rename_i kd j;obtain⟨v,ws,rfl,M,rfl⟩:=B;cases (show v=_ from M.view);exact⟨j,rfl,h1.1,h1.2.1,k _ _ _ H1 s1 Do trivial h1.2.2⟩
 exact h1.elim
end
section
variable{scope:Scope}{T F:List Str}{js:List Nat}{tg iter elt:Expr}{ifs:List Expr}{pos:Pos}{ti:TID}{g2:TG}{g:TGD}{tc:TDb}{te:TD}
def ρ0(n:Nat)(js:List Nat)(U:DE):DE:=List.replicate n none++js.map λj=>slot U j
def ixO(n:Nat)(js:List Nat)(j:Nat):Nat:=if j∈js then n+js.idxOf j else n+js.length+1+j
theorem Zd:∀{U:DE}{i:Nat}{r:EV},slot U i=some r ↔ U[i]?=some (some r)
 |[],_,_=>by simp[slot]
 |x::_,0,_=>by simp[slot]
 |_::l,i+1,r=>by rw[slot,List.getElem?_cons_succ];exact Zd (U:=l)
def cz{K:W.Frag}{H_ H H':Hp}{G:St}{U:DE}{o:List (Nat×Addr)}{n:Nat}{js:List Nat}{D:Addr}{ys:List V}(R:REnv K H_ H G U o)(nd:js.Nodup)(hD:H D=none)(s:Same H H')(M:H' D=some (.lst ys))(Tn:List Str)(hT:Tn.length=n) :
  REnv K H_ H' (st0 Tn js G) (ρ0 n js U) ((n+js.length,D)::o.map λp=>(ixO n js p.1,p.2)):=by
 have hO:((n+js.length,D)::o.map λp=>(ixO n js p.1,p.2)).map Prod.snd=D::o.map Prod.snd:=by
  rw[List.map_cons,List.map_map];rfl
 have g:Grow (o.map Prod.snd) (D::o.map Prod.snd) H H':=⟨λb u h nb=>⟨s b u h,λz=>(zam.mp z).elim (λe=>zo h hD e) nb⟩,λb xs h=>s b _ h,λb ob u h=>s b _ h⟩;have R':=R.to s;exact {
  same:=R'.same
  fresh:=λp B=>by
   rcases zam.mp B with rfl|B
   ·exact R.same.free hD
   obtain⟨q,N,rfl⟩:=zah.mp B;exact R.fresh q N
  trk:=λp B=>by
   rcases zam.mp B with rfl|B
   ·exact⟨_,M⟩
   obtain⟨q,N,rfl⟩:=zah.mp B;exact R'.trk q N
  mtb:=λp B=>by
   rcases zam.mp B with rfl|B
   ·exact⟨(λxs z=>by rw[M]at z;cases z),(λob u z=>by rw[M]at z;cases z)⟩
   obtain⟨q,N,rfl⟩:=zah.mp B;exact R'.mtb q N
  nda:=by
   rw[hO,List.nodup_cons];exact⟨R.ofree hD,R.nda⟩
  len:=by
   unfold st0 ρ0;simp[hT]
  slots:=λi r e=>by
   rw[hO];unfold ρ0 at e;have hi:n<=i:=by
    rcases Nat.lt_or_ge i n with z|z
    ·rw[List.getElem?_append_left (by simpa using z),List.getElem?_replicate]at e
     split at e <;> cases e
    exact z
   rw[List.getElem?_append_right (by simpa using hi),List.length_replicate,zai]at e
   cases ej:js[i-n]? with
   |none=>rw[ej]at e;cases e
   |some j =>
    rw[ej]at e;have e':slot U j=some r:=Option.some.inj e;obtain⟨v,ev,q⟩:=R.slots j r (vd e');refine⟨v,?_,?_⟩
    ·unfold st0;rw[List.getElem?_append_right (by simpa [hT] using hi),List.length_replicate,zai,hT,ej]
     show some ((G[j]?).join)=_;rw[ev];rfl
    rcases q with⟨k,q⟩|⟨k,a,e1,m,c⟩
    ·exact .inl ⟨k,Rep.grow g _ _ q⟩
    refine .inr ⟨k,a,e1,zal _ (zah.mpr ⟨_,m,?_⟩),c.grow (λu q=>s _ _ q) g⟩;have I:j∈js:=zan ej;have Z:js.idxOf j=i-n:=by
     have h1:=(zag.mp ej);have h2:=List.getElem_idxOf (List.idxOf_lt_length_iff.mpr I);exact(List.getElem_inj nd).mp (h2.trans h1.2.symm)
    show(ixO n js j,a)=(i,a);unfold ixO;rw[if_pos I,Z]
    congr 1
    omega}
def bYes:TDb:=λ_ Y=>Y true
def Mh(ti:TID)(n:Nat)(js:List Nat)(g:TGD)(tc:TDb)(te:TD):TD:=λU Y=>ti U λds=>∃f:D->Option D,ds.length<=100000 /\
 (∀d∈ds,g d (ρ0 n js U) λj=>tc j λc=>(c=true->te j λr=>(match r.k with|.own=>False|_=>True)/\f d=some r.d)/\(c=false->f d=none))/\Y (df (.lst (ds.filterMap f)))
def EIf(G:Hp->Prop)(X:Cx)(ifs:List Expr)(t:TDb):Prop:=∀H_:{H:Hp // G H},PIf X ifs (Zn X.K H_.1 t)
def xx:EIf L X [] bYes:=λH_ pn s G H Q I h=>by
 obtain⟨U,o,R,Y,j,k⟩:=h;exact J8 pn s G H Q I (k true H (Same.refl H) j)
def Y7{c:Expr}(h:ET L X c tc):EIf L X [c] tc:=λH_=>J7 (h H_)
def Yw(nd:js.Nodup)(hl:qz X.K g2 g):∀G H Q,qo X.K H_ (Mh ti T.length js g tc te) G H Q->O8 (Ju X.K H_ ti) T js g2 (Zn X.K H_ tc) (qo X.K H_ te) G H Q:=λG H Q q=>by
  obtain⟨U,o,R,Y,a9,k⟩:=q;refine⟨U,o,R,_,a9,λJ ds P H1 s1 I hP ⟨f,b0,a4,fin⟩ Da j=>?_⟩;have R1:=R.to s1;have gD:∀{H':Hp},Same H1 H'->Grow (o.map Prod.snd) (Da::o.map Prod.snd) H1 H':=λs=>⟨λb u h nb=>⟨s b u h,λz=>(zam.mp z).elim (λe=>zo h j e) nb⟩,λb xs h=>s b _ h,λb ob u h=>s b _ h⟩;refine⟨λi m ys H'=>m=ds.length-i/\i<=ds.length/\Same H1 H'/\H' Da=some (.lst ys)/\Reps X.K H' (Da::o.map Prod.snd) ((ds.take i).filterMap f) ys,
   ⟨_,rfl,Nat.zero_le _,yf j _,zm,rfl⟩,?_⟩
  rintro i m ys H' ⟨rfl,b5,s2,N,rp⟩;refine⟨N,?_⟩;have a5:=I.keep _ _ _ _ hP (gD s2);by_cases hlt:i<ds.length
  ·have ed:ds[i]?=some ds[i]:=by simp[hlt]
   obtain⟨j1,j2⟩:=I.go H' _ i _ a5 ed;refine .inr ⟨j1,λzs H2=>Same H1 H2/\H2 Da=some (.lst zs)/\Reps X.K H2 (Da::o.map Prod.snd) ((ds.take (i+1)).filterMap f) zs,λzs H2 ⟨a1,a2,a3⟩=>⟨_,(by omega:ds.length-(i+1)<ds.length-i),rfl,hlt,a1,a2,a3⟩,λx H2 y=>?_⟩
   obtain⟨s3,rx⟩:=j2 x H2 y;have B:=s2.trans s3;have a7:=s3 _ _ N;have RB:=cz (n:=T.length) R1 nd j B a7 T rfl;have hO:((T.length+js.length,Da)::o.map λp=>(ixO T.length js p.1,p.2)).map Prod.snd=Da::o.map Prod.snd:=by
    rw[List.map_cons,List.map_map];rfl
   have tk:(ds.take (i+1)).filterMap f=(ds.take i).filterMap f++(f ds[i]).toList:=by
    rw[List.take_succ,ed,List.filterMap_append];cases e:f ds[i] <;> simp[e]
   have a8:ys.length<=100000:=by
    rw[rp.length];refine zak (List.length_filterMap_le _ _) ?_;rw[List.length_take];omega
   refine hl H_ H2 (st0 T js G) (ρ0 T.length js U) _ _ x _ _ RB (by rw[hO];exact rx) (a4 _ (List.getElem_mem hlt)) λa0 b4 R' q'=>?_
   refine⟨a0,_,R',_,q',λc H3 Z h4=>?_⟩;have a6:=Z _ _ a7;cases c with
   |false =>
    refine iteF ⟨B.trans Z,a6,?_⟩;rw[tk,h4.2 rfl];simpa using Reps.grow (Grow.same (s3.trans Z)) _ _ rp
   |true =>
    refine iteT ⟨a0,_,R'.to Z,_,h4.1 rfl,λv r H4 s5 rv h5=>?_⟩;have M:=s5 _ _ a6;have rd:=rv.solid (ub h5.1);rw[hO]at rd;have ne:∀b u,H1 b=some u->b≠Da:=λb u h=>zo h j;have gu:Grow (Da::o.map Prod.snd) (Da::o.map Prod.snd) H4 (upd H4 Da (.lst (ys++[v]))) :=
     ⟨λb u h n=>⟨by rw[y0 (λz=>n (zam.mpr (.inl z)))];exact h,n⟩,λb xs h=>by rw[y0 (λz=>by rw[z,M]at h;cases h)];exact h,λb ob u h=>by rw[y0 (λz=>by rw[z,M]at h;cases h)];exact h⟩
    refine⟨M,Nat.lt_of_le_of_lt a8 (by decide),⟨λb u h=>?_,zm,?_⟩⟩
    ·rw[y0 (ne b u h)];exact s5 _ _ (Z _ _ (B b u h))
    rw[tk,h5.2];exact Reps.grow gu _ _ ((Reps.grow (Grow.same (s3.trans (Z.trans s5))) _ _ rp).append (Reps.one rd))
  have e:i=ds.length:=by omega
  subst e;rw[List.take_length]at rp;refine .inl ⟨I.stop H' _ a5,?_⟩;exact k (.ref Da) (df (.lst (ds.filterMap f))) H' (s1.trans s2) ⟨Da,rfl,s1.free j,R.ofree (s1.free j),ys,N,rp⟩ fin
def rz(hi:EI L X tg iter ti)(S:y4 X.env.scope scope T F)(q:Paired (λx j=>X.N[j]?=some x) F js)(B:js.Nodup)(hg:∀ cl C fp s H,PG (yw X (T++F) scope cl C fp s H) tg g2)(Z:cg T.length g2)(hl:qz X.K g2 g)(I:∀ cl C fp s H,EIf L (yw X (T++F) scope cl C fp s H) ifs tc)(he:∀ cl C fp s H,ED L (yw X (T++F) scope cl C fp s H) elt te)(hc:X.calm=true:=by rfl)(M:∀ x,foldedSetIterable iter X.env x=pure x:=by intro _;rfl):ED L X (.ListComp elt [⟨tg,iter,ifs,0⟩] scope pos) (Mh ti T.length js g tc te):=λH_ =>
 impE (Rj (tc:=Zn X.K H_.1 tc) (te:=qo X.K H_.1 te) hc (hi H_) S q hg Z (λcl C fp s H=>I cl C fp s H H_) (λcl C fp s H=>he cl C fp s H H_) M) (Yw B hl)
def si(i:Nat)(hN:X.N.Nodup)(hi:EI L X tg iter ti)(S:y4 X.env.scope scope T F)(I:Paired (λx j=>X.N[j]?=some x) F js)(nd:js.Nodup)(hg:∀ cl C fp s H,PG (yw X (T++F) scope cl C fp s H) tg g2)(hk:cg T.length g2)(hl:qz X.K g2 g)(ht:∀ cl C fp s H,EIf L (yw X (T++F) scope cl C fp s H) ifs tc)(he:∀ cl C fp s H,ED L (yw X (T++F) scope cl C fp s H) elt te)(hc:X.calm=true:=by rfl)(hs:∀ x,foldedSetIterable iter X.env x=pure x:=by intro _;rfl)(hy:X.N[i]?=some y:=by rfl)(q:X.env.scope.names.lookup y=some .local:=by rfl)(B:swapsWith (.ListComp elt [⟨tg,iter,ifs,0⟩] scope pos) (some (.Name y py)) spos.line X.env=pure true:=by rfl):SD L X (.Assign [.Name y py] (.ListComp elt [⟨tg,iter,ifs,0⟩] scope pos) spos) (sSet i (Mh ti T.length js g tc te)):=λH_ =>
 impS (bg (tc:=Zn X.K H_.1 tc) (te:=qo X.K H_.1 te) hc hN hy (.inl q) (hi H_) S I hg hk (λcl C fp s H=>ht cl C fp s H H_) (λcl C fp s H=>he cl C fp s H H_) B hs (.inr q)) λD G H h=>by
  obtain⟨U,o,R,Z,hZ,k1,k2,k3,k4⟩:=h;refine Yw nd hl G H _ ⟨U,o,R,_,hZ,λv r H1 s1 M h1=>?_⟩;obtain⟨o',R',g'⟩:=R.put s1 i M (ub h1.1);exact k1 _ _ H1 o' g' R' h1.2
end
section
variable{x:Str}{e a b:Expr}{es:List Expr}{t:TDs}{p pos:Pos}
structure Kit(K:W.Frag):Prop where
 ne:∀q∈([("NoneType","int"),("NoneType","bool"),("NoneType","str"),("NoneType","tuple"),("NoneType","list"),("NoneType","dict"),("bool","str"),("bool","tuple"),("bool","list"),("bool","dict"),
  ("int","bool"),("int","str"),("int","tuple"),("int","list"),("int","dict"),("str","int"),("str","bool"),("str","tuple"),("str","list"),("str","dict"),
  ("tuple","int"),("tuple","bool"),("tuple","str"),("tuple","list"),("tuple","dict"),("list","int"),("list","bool"),("list","str"),("list","tuple"),("list","dict"),
  ("dict","int"),("dict","bool"),("dict","str"),("dict","tuple"),("dict","list")]:List (String×String)),W.kitOne K (.type q.1) (.type q.2)=some false
 bi:W.kitOne K (.type "bool") (.type "int")=some true
def Qc{K:W.Frag}:Kit K:=by
 constructor
 ·intro q j;simp only[zam,List.not_mem_nil,or_false]at j;rcases j with rfl|rfl|rfl|rfl|rfl|rfl|rfl|rfl|rfl|rfl|rfl|rfl|rfl|rfl|rfl|rfl|rfl|rfl|rfl|rfl|rfl|rfl|rfl|rfl|rfl|rfl|rfl|rfl|rfl|rfl|rfl|rfl|rfl|rfl|rfl <;> kernel_rfl
 kernel_rfl
def Nl{K:W.Frag}{T:String}:W.kitOne K (.type T) (.type T)=some true:=by
 unfold W.kitOne;rw[if_pos (by simp)]
def Pq:bootBuiltins "str" = some (.type "str"):=by decide +kernel
def dn:bootBuiltins "int" = some (.type "int"):=by decide +kernel
def sr:bootBuiltins "bool" = some (.type "bool"):=by decide +kernel
def wv:bootBuiltins "tuple" = some (.type "tuple"):=by decide +kernel
def ky:bootBuiltins "list" = some (.type "list"):=by decide +kernel
def boot_dict':bootBuiltins "dict" = some (.type "dict"):=by decide +kernel
def jn:bootBuiltins "isinstance" = some (.builtin "isinstance"):=by decide +kernel
def D9{K:W.Frag}(a T:String)(h:(a,T)∈([("NoneType","int"),("NoneType","bool"),("NoneType","str"),("NoneType","tuple"),("NoneType","list"),("NoneType","dict"),("bool","str"),("bool","tuple"),("bool","list"),("bool","dict"),
  ("int","bool"),("int","str"),("int","tuple"),("int","list"),("int","dict"),("str","int"),("str","bool"),("str","tuple"),("str","list"),("str","dict"),
  ("tuple","int"),("tuple","bool"),("tuple","str"),("tuple","list"),("tuple","dict"),("list","int"),("list","bool"),("list","str"),("list","tuple"),("list","dict"),
  ("dict","int"),("dict","bool"),("dict","str"),("dict","tuple"),("dict","list")]:List (String×String))):W.kitOne K (.type a) (.type T)=some false:=Qc.ne (a,T) h
def Mq:D->String
 |.non=>"NoneType"
 |.bl _=>"bool"
 |.int _=>"int"
 |.str _=>"str"
 |.tup _=>"tuple"
 |.lst _=>"list"
 |.dk _ _=>"dict"
 |.ty _=>"type"
 |.scr _=>"list"
 |.sx _=>"exc"
 |.ob _ _ _=>"exc"
def Nm:List (String×String):=[("NoneType","int"),("NoneType","bool"),("NoneType","str"),("NoneType","tuple"),("NoneType","list"),("NoneType","dict"),("bool","str"),("bool","tuple"),("bool","list"),("bool","dict"),
  ("int","bool"),("int","str"),("int","tuple"),("int","list"),("int","dict"),("str","int"),("str","bool"),("str","tuple"),("str","list"),("str","dict"),
  ("tuple","int"),("tuple","bool"),("tuple","str"),("tuple","list"),("tuple","dict"),("list","int"),("list","bool"),("list","str"),("list","tuple"),("list","dict"),
  ("dict","int"),("dict","bool"),("dict","str"),("dict","tuple"),("dict","list")]
def isN(a T:String):Option Bool:=if a=T then some true else if a = "bool"/\T = "int" then some true else if (a,T)∈Nm then some false else none
def isT(d:D)(T:String):Option Bool:=match d with
 |.ty _=>none
 |.scr _=>none
 |.sx _=>none
 |.ob _ _ _=>none
 |d=>isN (Mq d) T
def Ha{K:W.Frag}{a T:String}{b:Bool}(h:isN a T=some b):W.kitOne K (.type a) (.type T)=some b:=by
 unfold isN at h;split at h
 ·rename_i q;cases h;subst q;exact Nl
 split at h
 ·rename_i q;cases h;obtain⟨rfl,rfl⟩:=q;exact Qc.bi
 split at h
 ·rename_i q;cases h;exact D9 a T q
 cases h
def Jz{K:W.Frag}{d:D}{T:String}{b:Bool}(h:isT d T=some b):W.kitOne K (.type (Mq d)) (.type T)=some b:=by
 cases d with
 |ty _=>cases h
 |scr _=>cases h
 |sx _=>cases h
 |ob _ _ _=>cases h
 |_=>exact Ha h
def Wg:isT .non "int" = some false:=(by decide:isN "NoneType" "int" = some false)
def X4:isT .non "bool" = some false:=(by decide:isN "NoneType" "bool" = some false)
def Zq:isT .non "tuple" = some false:=(by decide:isN "NoneType" "tuple" = some false)
def T8(b:Bool):isT (.bl b) "int" = some true:=(by decide:isN "bool" "int" = some true)
def rm(b:Bool):isT (.bl b) "bool" = some true:=(by decide:isN "bool" "bool" = some true)
def X7(b:Bool):isT (.bl b) "tuple" = some false:=(by decide:isN "bool" "tuple" = some false)
def fi(i:Int):isT (.int i) "int" = some true:=(by decide:isN "int" "int" = some true)
def jf(i:Int):isT (.int i) "bool" = some false:=(by decide:isN "int" "bool" = some false)
def Wi(i:Int):isT (.int i) "str" = some false:=(by decide:isN "int" "str" = some false)
def Zt(i:Int):isT (.int i) "tuple" = some false:=(by decide:isN "int" "tuple" = some false)
def Wf(x:Str):isT (.str x) "int" = some false:=(by decide:isN "str" "int" = some false)
def X3(x:Str):isT (.str x) "bool" = some false:=(by decide:isN "str" "bool" = some false)
def fh(x:Str):isT (.str x) "str" = some true:=(by decide:isN "str" "str" = some true)
def Zp(x:Str):isT (.str x) "tuple" = some false:=(by decide:isN "str" "tuple" = some false)
def We(l:List D):isT (.tup l) "int" = some false:=(by decide:isN "tuple" "int" = some false)
def X2(l:List D):isT (.tup l) "bool" = some false:=(by decide:isN "tuple" "bool" = some false)
def vn(l:List D):isT (.tup l) "tuple" = some true:=(by decide:isN "tuple" "tuple" = some true)
def X1(l:List D):isT (.tup l) "list" = some false:=(by decide:isN "tuple" "list" = some false)
def Wh(l:List D):isT (.lst l) "int" = some false:=(by decide:isN "list" "int" = some false)
def X5(l:List D):isT (.lst l) "bool" = some false:=(by decide:isN "list" "bool" = some false)
def Zr(l:List D):isT (.lst l) "tuple" = some false:=(by decide:isN "list" "tuple" = some false)
def t9(l:List D):isT (.lst l) "list" = some true:=(by decide:isN "list" "list" = some true)
def T7(k:List Key)(l:List D):isT (.dk k l) "int" = some false:=(by decide:isN "dict" "int" = some false)
def Wk(k:List Key)(l:List D):isT (.dk k l) "bool" = some false:=(by decide:isN "dict" "bool" = some false)
def X6(k:List Key)(l:List D):isT (.dk k l) "tuple" = some false:=(by decide:isN "dict" "tuple" = some false)
def Wj(k:List Key)(l:List D):isT (.dk k l) "dict" = some true:=(by decide:isN "dict" "dict" = some true)
def Mj:ux X (.builtin "isinstance") (λxs H Q=>∃d x T b,xs=[x,.ty T]/\Rep X.K H [] d x/\isT d T=some b/\Q (.bl b) H):=by
 intro pn s G H xs us Q I r h;obtain⟨d,x,T,b,rfl,B,e,q⟩:=h;obtain⟨u,v,rfl,j,Z⟩:=Pz r;cases Z;have M:=Jz (K:=X.K) e;have fin:∀tk,EP X pn G Q (.bool b) {s with toks:=tk}:=λtk=>⟨.bl b,H,I.tok tk,rfl,q⟩;cases d with
 |non=>cases (show x=_ from B);exact uk I j .non M fin
 |bl c=>cases (show x=_ from B);exact uk I j (.bl c) M fin
 |int c=>cases (show x=_ from B);exact uk I j (.int c) M fin
 |str c=>cases (show x=_ from B);exact uk I j (.str c) M fin
 |ty _=>cases e
 |scr _=>cases e
 |sx _=>cases e
 |ob _ _ _=>cases e
 |lst ds=>obtain⟨a,xs,rfl,N,_⟩:=B;exact uk I j (.lst N) M fin
 |dk ks ds=>obtain⟨a,xs,rfl,N,_⟩:=B;exact uk I j (.dK N) M fin
 |tup ds =>
  obtain⟨a,xs,rfl,N,_⟩:=B;cases (show u=Value.ref a from j);obtain⟨its,_,p,_⟩:=I.tuple N.1;obtain⟨o,h1,h2,_⟩:=p;exact W.kia_one W.kitx_tuple I.kIn ⟨o,h1,h2⟩ M (λz=>nomatch z) fin
def sIsI:FT:=λds Y=>match ds with
 |[d,.ty T]=>match isT d T with
  |some b=>Y (dv (.bl b))
  |none=>False
 |_=>False
def x4(M:X.mg "isinstance" = none)(ha:EA L X (e::es) t)(N:Gl X "isinstance":=by rfl)(Z:S_ X e es:=by rfl)(j:B_ X es pos:=by rfl):ED L X (.Call (.Name "isinstance" p) (e::es) [] pos) (dCB sIsI t) :=
 qy Mj (λH O ds vs Y Q ho I h k=>by
  unfold sIsI at h;split at h
  ·split at h
   ·rename_i d T b eb;obtain⟨v,ws,rfl,h1,B,q,rfl,h2,rfl⟩:=I;cases (show B=_ from h2);exact⟨_,v,_,_,rfl,h1.rep0,eb,k _ _ H (Same.refl H) (by exact rfl) h⟩
   exact h.elim
  exact h.elim) M jn ha N (by decide) (by decide) Z j
def sTupC:FT:=λds Y=>match ds with
 |[.lst l]=>Y (dv (.tup l))
 |[.tup l]=>Y (dv (.tup l))
 |_=>False
def wq(M:X.mg "tuple" = none)(ha:EA L X (e::es) t)(N:Gl X "tuple":=by rfl)(Z:S_ X e es:=by rfl)(j:B_ X es pos:=by rfl):ED L X (.Call (.Name "tuple" p) (e::es) [] pos) (dCB sTupC t) :=
 qx Yb (λH O ds vs Y Q ho B h k=>by
  unfold sTupC at h;split at h
  ·obtain⟨v,I,rfl,⟨a,xs,rfl,q,r⟩,rfl⟩:=B;exact⟨a,xs,rfl,.inl ⟨SqL.of q,λl hl=>k _ _ _ (yf hl _) (Vd hl r) h⟩⟩
  ·obtain⟨v,I,rfl,⟨a,xs,rfl,q,r⟩,rfl⟩:=B;exact⟨a,xs,rfl,.inr ⟨q.1,k (.ref a) (dv (.tup _)) H (Same.refl H) ⟨a,xs,rfl,q,r⟩ h⟩⟩
  exact h.elim) M wv ha N (by decide) (by decide) Z j
def sListC:FT:=λds Y=>match ds with
 |[.lst l]=>Y (df (.lst l))
 |[.tup l]=>Y (df (.lst l))
 |_=>False
def Y8(M:X.mg "list" = none)(ha:EA L X (e::es) t)(N:Gl X "list":=by rfl)(Z:S_ X e es:=by rfl)(j:B_ X es pos:=by rfl):ED L X (.Call (.Name "list" p) (e::es) [] pos) (dCB sListC t) :=
 qx Xj (λH O ds vs Y Q ho B h k=>by
  unfold sListC at h;split at h
  ·obtain⟨v,I,rfl,⟨a,xs,rfl,q,r⟩,rfl⟩:=B;exact⟨a,xs,rfl,.inl (SqL.of q),λl hl=>k _ _ _ (yf hl _) (qe ho hl r) h⟩
  ·obtain⟨v,I,rfl,⟨a,xs,rfl,q,r⟩,rfl⟩:=B;exact⟨a,xs,rfl,.inr q.1,λl hl=>k _ _ _ (yf hl _) (qe ho hl r) h⟩
  exact h.elim) M ky ha N (by decide) (by decide) Z j
def sIntC:FT:=λds Y=>match ds with
 |[.bl b]=>Y (dv (.int (if b then 1 else 0)))
 |[.int i]=>Y (dv (.int i))
 |_=>False
def Wy(I:X.mg "int" = none)(Z:EA L X (e::es) t)(M:Gl X "int":=by rfl)(N:S_ X e es:=by rfl)(j:B_ X es pos:=by rfl):ED L X (.Call (.Name "int" p) (e::es) [] pos) (dCB sIntC t) :=
 qx Pp (λH O ds vs Y Q ho q h k=>by
  unfold sIntC at h;split at h
  ·obtain⟨v,B,rfl,h1,rfl⟩:=q;cases (show v=_ from h1);exact .inr ⟨_,rfl,k _ _ H (Same.refl H) (by exact rfl) h⟩
  ·obtain⟨v,B,rfl,h1,rfl⟩:=q;cases (show v=_ from h1);exact .inl ⟨_,rfl,k _ _ H (Same.refl H) (by exact rfl) h⟩
  exact h.elim) I dn Z M (by decide) (by decide) N j
end
section
variable{x:Str}{e:Expr}{te:TD}{apos np cpos pos:Pos}
def sApp(i:Nat)(te:TD):TDS:=λU Z=>match slot U i with
 |some ⟨.own,.lst ds⟩=>te U λr=>(match r.k with|.own=>False|_=>True)/\ds.length<=100000/\Z.nx (setS U i (dO (.lst (ds++[r.d]))))
 |_=>False
def wy(i:Nat)(he:ED L X e te)(hN:X.N[i]?=some x:=by rfl)(hv:Vis X.env.scope x:=by walk_at "o")(hd:D_ x:=by decide)(M:(x==("__classdict__" : Str))=false:=by decide)(hp:∀ {ta tb:TE},PE X (.Name x np) ta->PE X e tb->PS X (.Expr (.Call (.Attribute (.Name x np) "append" apos) [e] [] cpos) pos) (Ur (tBM X.K "list" W5 ta (Sb tb tNil))):=by
   intro ta tb h1 h2;exact rj (Ro PySem.F.plainAttrs_list PySem.F.slot_list_append PySem.F.type_list_append gm h1 (u0 h2 sw))) :
  SD L X (.Expr (.Call (.Attribute (.Name x np) "append" apos) [e] [] cpos) pos) (sApp i te):=λH_=>impS (hp (uu hN hv hd M) (he H_)) λD G H h=>by
 obtain⟨U,o,R,Z,q,k1,k2,k3,k4⟩:=h;unfold sApp at q;split at q
 ·rename_i ds es;obtain⟨v0,j,q0⟩:=R.slots i _ (vd es);rcases q0 with⟨k,_⟩|⟨_,a,rfl,m,c⟩
  ·cases k
  obtain⟨xs,hx,rx⟩:=c;refine⟨.ref a,j,.inl ⟨rfl,xs,SqL.of hx⟩,?_⟩;refine⟨U,o,R,_,q,λv r H1 s1 rv h1=>?_⟩;obtain⟨h0,hl,hn⟩:=h1;have I:=s1 _ _ hx;have R1:=R.to s1;have B:=Reps.grow (Grow.same s1) _ _ rx;refine⟨a,xs,v,rfl,rfl,I,?_,?_⟩
  ·rw[rx.length];exact Nat.lt_of_le_of_lt hl (by decide)
  obtain⟨R2,g2⟩:=R1.chg (d':=.lst (ds++[r.d])) (ho:=.lst (xs++[v])) (vd es) j m ⟨λ_ z=>(by cases z),λ_ _ z=>(by cases z)⟩ λgr=>⟨xs++[v],zm,gr _ _ (B.append (Reps.one (rv.solid (ub h0))))⟩
  exact k1 _ G _ o ((Grow.same s1).trans g2) R2 hn
 exact q.elim
end
def wa(n:Nat)(ds:List D):DE:=ds.map (λd=>some (dv d))++List.replicate (n-ds.length) none
def Qt{x j:Str}{st:Stmt}{f:Addr}{fd:FuncData}{N ps:List Str}{k:Nat}{T:FT}(F:Fun K x j st f fd)(S:zu N ps (zd st))(qY:∀ (qZ:Value) (A:Around) (outer:List Env) (s:Shared) (H:Hp) (E:XK) (ds:List D) (Y:EV->Prop),Room k (A.deeper (envOfC j (zd st) s.heap.objs.size f qZ))->ds.length=ps.length->T ds Y ->
   ∃ t,SDs (λ_=>True) (cxOf CX0 P w K mg base N j (zd st) f qZ A outer s H E).nox (yt st) t/\t (wa N.length ds) {nx:=λ_=>Y (dv .non),rt:=λr=>qf r/\Y r}):FnOk P w K mg base CX0 (k+1) f fd ps (spD K ps.length T):=by
 refine F.ok S (λvs H Q E h=>?_) (λqZ A outer s H vs Q E hr h=>?_)
 ·obtain⟨ds,Y,hl,r,_⟩:=h;rw[r.length,hl]
 obtain⟨ds,Y,hl,r,hT,M⟩:=h;obtain⟨t,ht,hq⟩:=qY qZ A outer s H E ds Y hr hl hT;have I:=r.length;refine⟨Qa K H t,ht ⟨H,trivial⟩,wa N.length ds,[],⟨Same.refl H,(λ_ z=>absurd z (by simp)),(λ_ z=>absurd z (by simp)),(λ_ z=>absurd z (by simp)),List.nodup_nil,λi r' e=>?_,?_⟩,_,hq,λa4 a0 H' o' g R' q=>?_,λ_ _ _ _ _ _ q=>q.elim,λ_ _ _ _ _ _ q=>q.elim,λv r' H' s' B q=>M v r' H' s' B q.1 q.2⟩
 ·unfold wa at e;rcases Nat.lt_or_ge i ds.length with hi|hi
  ·rw[List.getElem?_append_left (by simpa using hi),zai]at e
   have Z:ds[i]?=some ds[i]:=by simp[hi]
   rw[Z]at e;have e':some (dv ds[i])=some r':=Option.some.inj e;cases e';obtain⟨v,ev,B⟩:=r.get Z;refine⟨v,?_,.inl ⟨rfl,B⟩⟩;unfold ZZ.start;rw[List.getElem?_append_left (by rw[zLm,I];exact hi),zai,ev]
   rfl
  rw[List.getElem?_append_right (by simpa using hi),List.getElem?_replicate]at e
  split at e <;> cases e
 ·unfold ZZ.start wa;simp[I]
 exact M .non (dv .non) H' R'.same rfl trivial q
def u6{x j:Str}{st:Stmt}{f:Addr}{fd:FuncData}{N ps:List Str}{k:Nat}{T:FT}(F:Fun K x j st f fd)(S:zu N ps (zd st))(b:ua K fd ps [])(m:mg x=some (.ref f))(q:∀ (qZ:Value) (A:Around) (outer:List Env) (s:Shared) (H:Hp) (E:XK) (ds:List D) (Y:EV->Prop),Room k (A.deeper (envOfC j (zd st) s.heap.objs.size f qZ))->ds.length=ps.length->T ds Y ->
   ∃ t,SDs (λ_=>True) (cxOf CX0 P w K mg base N j (zd st) f qZ A outer s H E).nox (yt st) t/\t (wa N.length ds) {nx:=λ_=>Y (dv .non),rt:=λr=>qf r/\Y r}):FD P w K mg base (k+1) x ps T:=⟨f,fd,Qt F S q,b,F.kp,m⟩
def lawT:FT:=λds Y=>∃ns:List Int,ds=[.scr ns]/\ns.length<=63/\Y (dv (.bl true))
def walkD{l:W.OpenLaw}{XP:(Str->Option Value)->Heap->Prop}{YP:World->Heap->Prop}{d:DefRec}{K:Params->W.Frag}{x:Str}{k:Nat}(I:l.most=some 63)(j:d.params.defaults=[])(hr:Room k callerA)(M:∀ (w:World) (h:Heap),YP w h->(K w.params).In h)(F:∀ (w:World) (mg:Str->Option Value) (fa:Addr) (h:Heap),(K w.params).In h->h.Ns mainGlobals mg->mg d.name=some (.ref fa) ->
   ∃ fd:FuncData,(∀ (s:Shared) (u:Value),BindsTo s fd ⟨[u],[]⟩ [(x,u)])/\∀ base:Heap,(K w.params).In base->base.Ns mainGlobals mg->FnOk l.prog w (K w.params) mg base CX0 k fa fd [x] (spD (K w.params) 1 lawT)) :
  W.WalkO q loose XP YP l.row.toRowW d [] (λf vs=>PySem.call f vs) :=
 ZZ.walk_of (n:=63) (k:=k) (x:=x) (CX:=λ_=>CX0) (sp:=λw=>spD (K w.params) 1 lawT) I (by decide) j hr M F (λw H a ns hl ho N=>by
  refine⟨[.scr ns],λr=>r=dv (.bl true),rfl,⟨.ref a,[],rfl,⟨a,rfl,?_⟩,rfl⟩,⟨ns,rfl,hl,rfl⟩,λv r H' s B p e=>by subst e;exact B⟩
  rcases N with(h|⟨o,h⟩)|h
  ·rcases ho a with z|⟨o,xs,z⟩
   ·rw[z]at h;cases h
   rw[z]at h;cases h
  ·exact .inl ⟨o,h⟩
  exact .inr h) λ_ _ _ _ _ z=>z
def Uy{xs:Array Value}{x:Value}(hi:s.heap.IsTupleIter it l i)(hl:s.heap.IsTuple l xs)(I:xs[i]?=some x)(N:∀ g,g.IsTupleIter it l (i+1)->Heap.SameBut it s.heap g->Q x {s with heap:=g}):wpAny (model P w) A (Builtin.SmallTypes.nextOf (.ref it)) Q E s:=by
 obtain⟨o,ho,M,j⟩:=id hi;obtain⟨Z,q,_,nl,B⟩:=hl;unfold Builtin.SmallTypes.nextOf;refine zaa (wpAny_callSpecial?_slot (name:=Str.ofString "__next__") hi.typeIs F.slot_tuple_iterator_next (wpAny_call_entry F.slot_tuple_iterator_next hi.typeIs F.entry_tuple_iterator_next ?_ (F.args_tuple_iterator_next_1 _)));show wpAny _ _ (field (.ref it) 0 >>= _) _ _ s;refine zaa (wpAny_field ho j (x:=.ref l) rfl ?_);show wpAny _ _ (if (Value.ref l==Value.none)=true then _ else _) _ _ s
 rw[if_neg (show ¬ ((Value.ref l==Value.none)=true) from Bool.false_ne_true)];show wpAny _ _ (field (.ref it) 1 >>= _) _ _ s;refine zaa (wpAny_field ho j (x:=.int i 0) rfl ?_);show wpAny _ _ (seqItems? (.ref l) >>= _) _ _ s;refine zaa (wpAny_seqItems q B ?_);simp only[Int.toNat_natCast,I];refine zaa (wpAny_setField ho j (by simp) (zab ⟨x,rfl,zab (N _ ⟨_,Heap.get?_update_self _ ho (Obj.isFreed_of_fields (Obj.data_mapFields j _)),(Obj.cls_mapFields ..).trans M,?_⟩ (Heap.SameBut.update ..))⟩))
 rw[Obj.data_mapFields j];simp[rawInt]
def Q2{xs:Array Value}(I:A.handled=none)(hi:s.heap.IsTupleIter it l i)(hl:s.heap.IsTuple l xs)(M:xs[i]?=none)(N:∀ g e,Heap.ExtBut it s.heap g->(∃ o,g.get? e=some o/\o.cls=.type "StopIteration")->E (.ref e) {s with heap:=g}):wpAny (model P w) A (Builtin.SmallTypes.nextOf (.ref it)) Q E s:=by
 obtain⟨o,ho,hc,B⟩:=id hi;obtain⟨Z,j,_,nl,q⟩:=hl;unfold Builtin.SmallTypes.nextOf;refine zaa (wpAny_callSpecial?_slot (name:=Str.ofString "__next__") hi.typeIs F.slot_tuple_iterator_next (wpAny_call_entry F.slot_tuple_iterator_next hi.typeIs F.entry_tuple_iterator_next ?_ (F.args_tuple_iterator_next_1 _)));show wpAny _ _ (field (.ref it) 0 >>= _) _ _ s;refine zaa (wpAny_field ho B (x:=.ref l) rfl ?_);show wpAny _ _ (if (Value.ref l==Value.none)=true then _ else _) _ _ s
 rw[if_neg (show ¬ ((Value.ref l==Value.none)=true) from Bool.false_ne_true)];show wpAny _ _ (field (.ref it) 1 >>= _) _ _ s;refine zaa (wpAny_field ho B (x:=.int i 0) rfl ?_);show wpAny _ _ (seqItems? (.ref l) >>= _) _ _ s;refine zaa (wpAny_seqItems j q ?_);simp only[Int.toNat_natCast,M];refine zaa (wpAny_rule (zaa (wpAny_setField ho B (by simp) ?_)))
 show wpAny _ _ (newExc (.type "StopIteration") [] >>= _) _ _ _;refine zaa ?_;simp only[newExc,newTuple];refine zaa (wpAny_newObj_type ?_ (by size_fits))
 refine zaa (m:=firstArgMember _ _) (wpAny_of_eq (a:=Value.none) (by first|rfl|(simp only[firstArgMember];rfl)) ?_)
 refine wpAny_newObj_type ?_ (by size_fits)
 simp only[raiseNew];refine zaa (wpAny_handled ?_)
 first|rw[show A.in1.handled=none from I]|rw[I]
 exact zaa (zab (wpAny_throw (N _ _ (((Heap.SameBut.update ..).extBut.push _).push _) ⟨_,zad _ rfl,rfl⟩)))
def SqAt(b:Bool)(h:Heap)(l:Addr)(xs:Array Value):Prop:=match b with
 |true=>h.IsTuple l xs
 |false=>h.IsList l xs
def ItAt(b:Bool)(h:Heap)(it l:Addr)(i:Nat):Prop:=match b with
 |true=>h.IsTupleIter it l i
 |false=>h.IsListIter it l i
theorem SqAt.at{b:Bool}{h g:Heap}{l:Addr}{xs:Array Value}(x:SqAt b h l xs)(k:∀ o,h.get? l=some o->g.get? l=some o):SqAt b g l xs:=by
 cases b with
 |true=>exact Heap.IsTuple.at (show h.IsTuple l xs from x) k
 |false=>exact Heap.IsList.at (show h.IsList l xs from x) k
theorem ItAt.at{b:Bool}{h g:Heap}{it l:Addr}{i:Nat}(x:ItAt b h it l i)(k:∀ o,h.get? it=some o->g.get? it=some o):ItAt b g it l i:=by
 cases b with
 |true=>exact Heap.IsTupleIter.at (show h.IsTupleIter it l i from x) k
 |false=>exact Heap.IsListIter.at (show h.IsListIter it l i from x) k
def uj{xs:Array Value}{x:Value}(hi:ItAt b s.heap it l i)(hl:SqAt b s.heap l xs)(j:xs[i]?=some x)(q:∀ g,ItAt b g it l (i+1)->Heap.SameBut it s.heap g->Q x {s with heap:=g}):wpAny (model P w) A (Builtin.SmallTypes.nextOf (.ref it)) Q E s:=by
 cases b with
 |true=>exact Uy hi hl j q
 |false=>exact wpAny_nextOf_list_item hi hl j q
def gk{xs:Array Value}(q:A.handled=none)(hi:ItAt b s.heap it l i)(hl:SqAt b s.heap l xs)(j:xs[i]?=none)(B:∀ g e,Heap.ExtBut it s.heap g->(∃ o,g.get? e=some o/\o.cls=.type "StopIteration")->E (.ref e) {s with heap:=g}):wpAny (model P w) A (Builtin.SmallTypes.nextOf (.ref it)) Q E s:=by
 cases b with
 |true=>exact Q2 q hi hl j B
 |false=>exact wpAny_nextOf_list_end q hi hl j B
structure ZAt(b1 b2:Bool)(g:Heap)(z ti to i1 i2 l1 l2:Addr)(f:Value)(k:Nat):Prop where
 zz:IsZip g z ti to f
 its:IsPair g ti (.ref i1) (.ref i2)
 out:∃a b,IsPair g to a b
 one:ItAt b1 g i1 l1 k
 two:ItAt b2 g i2 l2 k
structure ZNe(z ti to i1 i2:Addr):Prop where
 ab:ti≠z
 ac:to≠z
 ad:i1≠z
 ae:i2≠z
 bc:ti≠to
 bd:ti≠i1
 be:ti≠i2
 cd:to≠i1
 ce:to≠i2
 de:i1≠i2
def ZOff(z to i1 i2 c:Addr):Prop:=c≠z/\c≠to/\c≠i1/\c≠i2
def Pw{b1 b2:Bool}{k:Nat}{xs ys:Array Value}{x y:Value}{Q:Value->Shared->Prop}(D:ZNe z ti to i1 i2)(d1:ZOff z to i1 i2 l1)(d2:ZOff z to i1 i2 l2)(Z:ZAt b1 b2 s.heap z ti to i1 i2 l1 l2 .none k)(t1:SqAt b1 s.heap l1 xs)(t2:SqAt b2 s.heap l2 ys)(hx:xs[k]?=some x)(hy:ys[k]?=some y)(hQ:∀ g,ZAt b1 b2 g z ti to i1 i2 l1 l2 (rawInt s.heap.objs.size) (k+1)->IsPair g s.heap.objs.size x y->(∀ c o,ZOff z to i1 i2 c->s.heap.get? c=some o->g.get? c=some o)->Q (.ref s.heap.objs.size) {s with heap:=g}) :
  wpAny (model P w) A (Builtin.«zip.__next__» ⟨[.ref z],[]⟩) (λfin s'=>∃v,fin=.done (.ret v)/\Q v s') E s:=by
 obtain⟨hz,a5,⟨a,b,a6⟩,h1,h2⟩:=Z;show wpAny _ _ (field (.ref z) 2 >>= _) _ _ _;refine zaa (wpAny_field hz rfl (x:=.bool false) rfl ?_);show wpAny _ _ (field (.ref z) 3 >>= _) _ _ _;refine zaa (wpAny_field hz rfl (x:=.ref ti) rfl ?_);refine zaa (wpAny_seqItems a5 rfl ?_);show wpAny _ _ (Builtin.SmallTypes.ownedTupleIsFree (.ref z) >>= _) _ _ _;refine zaa ?_;unfold Builtin.SmallTypes.ownedTupleIsFree;refine zaa (wpAny_field hz rfl (x:=.none) rfl (zab ?_));simp only[if_true];refine zaa (wpAny_rule ?_);refine zaa (wpAny_field hz rfl (x:=.ref to) rfl ?_);refine zaa (wpAny_setField_rec hz (by simp) λg1 z1 s1=>?_)
 replace z1:IsZip g1 z ti to .ellipsis:=z1
 refine zaa ?_;simp only[List.zipIdx_cons,List.zipIdx_nil,List.forIn_cons,List.forIn_nil];refine zaa (zaa (wpAny_onRaise ?_));show wpAny _ _ (Builtin.SmallTypes.nextOf (.ref i1) >>= _) _ _ _;refine zaa (uj (h1.at λo e=>s1.extBut _ o D.ad e) (t1.at λo e=>s1.extBut _ o d1.1 e) hx λg2 p2 s2=>zab ?_);have a0:IsPair g2 to a b:=s2.extBut _ _ D.cd (s1.extBut _ _ D.ac a6);refine zaa (wpAny_seqItems a0 rfl (zaa (wpAny_updateSeq_pair a0 λg3 I M=>?_)))
 replace I:IsPair g3 to x b:=I
 refine zaa (wpAny_letGo (zab (zaa (zaa (wpAny_onRaise ?_)))));show wpAny _ _ (Builtin.SmallTypes.nextOf (.ref i2) >>= _) _ _ _;refine zaa (uj (h2.at λo e=>M.extBut _ o D.ce.symm (s2.extBut _ o D.de.symm (s1.extBut _ o D.ae e))) (t2.at λo e=>M.extBut _ o d2.2.1 (s2.extBut _ o d2.2.2.1 (s1.extBut _ o d2.1 e))) hy λg4 p4 s4=>zab ?_);have N:IsPair g4 to x b:=s4.extBut _ _ D.ce I;refine zaa (wpAny_seqItems N rfl (zaa (wpAny_updateSeq_pair N λj B s5=>?_)))
 replace B:IsPair j to x y:=B
 refine zaa (wpAny_letGo (zab (zab (zaa (wpAny_seqItems B rfl (zaa (wpAny_newTuple ?_)))))));have sz:j.objs.size=s.heap.objs.size:=by rw[s5.1,s4.1,M.1,s2.1,s1.1]
 have z5:IsZip j z ti to .ellipsis:=s5.extBut _ _ D.ac.symm (s4.extBut _ _ D.ae.symm (M.extBut _ _ D.ac.symm (s2.extBut _ _ D.ad.symm z1)));have a4:∀c o,ZOff z to i1 i2 c->s.heap.get? c=some o->j.get? c=some o:=λc o q e=>s5.extBut _ _ q.2.1 (s4.extBut _ _ q.2.2.2 (M.extBut _ _ q.2.1 (s2.extBut _ _ q.2.2.1 (s1.extBut _ _ q.1 e))));have q1:ItAt b1 j i1 l1 (k+1):=p2.at λo e=>s5.extBut _ o D.cd.symm (s4.extBut _ o D.de (M.extBut _ o D.cd.symm e));have q2:ItAt b2 j i2 l2 (k+1):=p4.at λo e=>s5.extBut _ o D.ce.symm e;have lz:z<j.objs.size:=zae z5;show wpAny _ _ (Builtin.SmallTypes.ownedTupleHandOut (.ref z) (.ref j.objs.size) >>= _) _ _ _;refine zaa ?_;unfold Builtin.SmallTypes.ownedTupleHandOut;have z6:IsZip (j.push {cls:=.type "tuple",data:=.seq #[x,y]}) z ti to .ellipsis:=zac _ z5;refine zaa (wpAny_setField_rec z6 (by simp) λg7 z7 s7=>?_)
 replace z7:IsZip g7 z ti to (rawInt j.objs.size):=z7
 refine wpAny_setField_rec z7 (by simp) λg8 z8 s8=>?_
 replace z8:IsZip g8 z ti to (rawInt j.objs.size):=z8
 have up:∀c o,c≠z->j.get? c=some o->g8.get? c=some o:=λc o c1 e=>s8.extBut _ _ c1 (s7.extBut _ _ c1 (zac _ e));have pr:IsPair g8 j.objs.size x y:=s8.extBut _ _ (Nat.ne_of_gt lz) (s7.extBut _ _ (Nat.ne_of_gt lz) (zad _ rfl));rw[sz]at z8 pr;refine zab ⟨_,rfl,?_⟩;show Q (.ref j.objs.size) _;rw[sz];exact hQ g8 ⟨z8,up _ _ D.ab (a4 _ _ ⟨D.ab,D.bc,D.bd,D.be⟩ a5),⟨_,_,up _ _ D.ac B⟩,q1.at λo e=>up _ o D.ad e,q2.at λo e=>up _ o D.ae e⟩ pr λc o q e=>up c o q.1 (a4 c o q e)
def K5{xs ys:Array Value}{Q:Fin->Shared->Prop}(hh:A.handled=none)(D:ZNe z ti to i1 i2)(d1:ZOff z to i1 i2 l1)(d2:ZOff z to i1 i2 l2)(Z:ZAt b1 b2 s.heap z ti to i1 i2 l1 l2 .none k)(t1:SqAt b1 s.heap l1 xs)(t2:SqAt b2 s.heap l2 ys)(a0:xs[k]?=none\/ys[k]?=none)(hE:∀ g e,(∀ c o,ZOff z to i1 i2 c->s.heap.get? c=some o->g.get? c=some o)->(∃ o,g.get? e=some o/\o.cls=.type "StopIteration")->E (.ref e) {s with heap:=g}) :
  wpAny (model P w) A (Builtin.«zip.__next__» ⟨[.ref z],[]⟩) Q E s:=by
 obtain⟨N,a5,⟨a,b,a4⟩,h1,h2⟩:=Z;show wpAny _ _ (field (.ref z) 2 >>= _) _ _ _;refine zaa (wpAny_field N rfl (x:=.bool false) rfl ?_);show wpAny _ _ (field (.ref z) 3 >>= _) _ _ _;refine zaa (wpAny_field N rfl (x:=.ref ti) rfl ?_);refine zaa (wpAny_seqItems a5 rfl ?_);show wpAny _ _ (Builtin.SmallTypes.ownedTupleIsFree (.ref z) >>= _) _ _ _;refine zaa ?_;unfold Builtin.SmallTypes.ownedTupleIsFree;refine zaa (wpAny_field N rfl (x:=.none) rfl (zab ?_));simp only[if_true];refine zaa (wpAny_rule ?_);refine zaa (wpAny_field N rfl (x:=.ref to) rfl ?_);refine zaa (wpAny_setField_rec N (by simp) λg1 z1 s1=>?_)
 replace z1:IsZip g1 z ti to .ellipsis:=z1
 refine zaa ?_;simp only[List.zipIdx_cons,List.zipIdx_nil,List.forIn_cons,List.forIn_nil];refine zaa (zaa (wpAny_onRaise ?_));show wpAny _ _ (Builtin.SmallTypes.nextOf (.ref i1) >>= _) _ _ _;cases hx:xs[k]? with
 |none =>
  refine zaa (gk hh (h1.at λo e=>s1.extBut _ o D.ad e) (t1.at λo e=>s1.extBut _ o d1.1 e) hx λg2 e s2 he=>?_);obtain⟨oe,j,B⟩:=he;have z2:IsZip g2 z ti to .ellipsis:=s2 _ _ D.ad.symm z1;have ez:e≠z:=λx=>by subst x;rw[z2]at j;cases j;simp at B
  exact wpAny_setField_rec z2 (by simp) λg3 _ I=>hE g3 e (λc o q x=>I.extBut _ _ q.1 (s2 _ _ q.2.2.1 (s1.extBut _ _ q.1 x))) ⟨oe,I.extBut _ _ ez j,B⟩
 |some x =>
  have hy:ys[k]?=none:=by rcases a0 with h|h;rw[hx]at h;cases h;exact h
  refine zaa (uj (h1.at λo e=>s1.extBut _ o D.ad e) (t1.at λo e=>s1.extBut _ o d1.1 e) hx λg2 p2 s2=>zab ?_);have M:IsPair g2 to a b:=s2.extBut _ _ D.cd (s1.extBut _ _ D.ac a4);refine zaa (wpAny_seqItems M rfl (zaa (wpAny_updateSeq_pair M λg3 a6 I=>?_)));refine zaa (wpAny_letGo (zab (zaa (zaa (wpAny_onRaise ?_)))));show wpAny _ _ (Builtin.SmallTypes.nextOf (.ref i2) >>= _) _ _ _;refine zaa (gk hh (h2.at λo e=>I.extBut _ o D.ce.symm (s2.extBut _ o D.de.symm (s1.extBut _ o D.ae e))) (t2.at λo e=>I.extBut _ o d2.2.1 (s2.extBut _ o d2.2.2.1 (s1.extBut _ o d2.1 e))) hy λg4 e s4 he=>?_);obtain⟨oe,j,B⟩:=he;have z4:IsZip g4 z ti to .ellipsis:=s4 _ _ D.ae.symm (I.extBut _ _ D.ac.symm (s2.extBut _ _ D.ad.symm z1));have ez:e≠z:=λx=>by subst x;rw[z4]at j;cases j;simp at B
  exact wpAny_setField_rec z4 (by simp) λg5 _ s5=>hE g5 e (λc o q x=>s5.extBut _ _ q.1 (s4 _ _ q.2.2.2 (I.extBut _ _ q.2.1 (s2.extBut _ _ q.2.2.1 (s1.extBut _ _ q.1 x))))) ⟨oe,s5.extBut _ _ ez j,B⟩
def Yt{xs ys:Array Value}{x y:Value}{Q:Option Value->Shared->Prop}(D:ZNe z ti to i1 i2)(d1:ZOff z to i1 i2 l1)(d2:ZOff z to i1 i2 l2)(Z:ZAt b1 b2 s.heap z ti to i1 i2 l1 l2 .none k)(t1:SqAt b1 s.heap l1 xs)(t2:SqAt b2 s.heap l2 ys)(B:xs[k]?=some x)(q:ys[k]?=some y)(I:∀ g,ZAt b1 b2 g z ti to i1 i2 l1 l2 (rawInt s.heap.objs.size) (k+1)->IsPair g s.heap.objs.size x y->(∀ c o,ZOff z to i1 i2 c->s.heap.get? c=some o->g.get? c=some o)->Q (some (.ref s.heap.objs.size)) {s with heap:=g}) :
  wpAny (model P w) A (pyNext (.ref z)) Q E s:=by
 have j:s.TypeIs (.ref z) "zip":=⟨_,Z.zz,rfl⟩;unfold pyNext;exact zaa (wpAny_attempt (wpAny_callSpecial?_slot (name:=Str.ofString "__next__") j F.slot_zip_next (wpAny_call_entry F.slot_zip_next j F.entry_zip_next (Pw D d1 d2 Z t1 t2 B q λg a b c=>zab (I g a b c)) (F.args_zip_next_1 _))))
def Vw{xs ys:Array Value}{Q:Option Value->Shared->Prop}(I:A.handled=none)(D:ZNe z ti to i1 i2)(d1:ZOff z to i1 i2 l1)(d2:ZOff z to i1 i2 l2)(Z:ZAt b1 b2 s.heap z ti to i1 i2 l1 l2 .none k)(t1:SqAt b1 s.heap l1 xs)(t2:SqAt b2 s.heap l2 ys)(j:xs[k]?=none\/ys[k]?=none)(hQ:∀ g,(∀ c o,ZOff z to i1 i2 c->s.heap.get? c=some o->g.get? c=some o)->Q none {s with heap:=g}):wpAny (model P w) A (pyNext (.ref z)) Q E s:=by
 have q:s.TypeIs (.ref z) "zip":=⟨_,Z.zz,rfl⟩;unfold pyNext;refine zaa (wpAny_attempt (wpAny_callSpecial?_slot (name:=Str.ofString "__next__") q F.slot_zip_next (wpAny_call_entry F.slot_zip_next q F.entry_zip_next (K5 I D d1 d2 Z t1 t2 j λg e B M=>?_) (F.args_zip_next_1 _))));obtain⟨o,ho,N⟩:=M;refine zaa (wpAny_isInstance (T:="StopIteration") (b:=true) ⟨o,ho,N⟩ isSubtype_stop ?_);exact zab (hQ _ B)
def Ln(b:Bool):String:=match b with
 |true=>"tuple_iterator"
 |false=>"list_iterator"
abbrev zh1(b1:Bool)(h:Heap)(l1:Addr):Heap:=h.push {cls:=.type (Ln b1),data:=.fields #[.ref l1,.int 0 0]}
abbrev zh2(b1 b2:Bool)(h:Heap)(l1 l2:Addr):Heap:=(zh1 b1 h l1).push {cls:=.type (Ln b2),data:=.fields #[.ref l2,.int 0 0]}
abbrev zh3(b1 b2:Bool)(h:Heap)(l1 l2:Addr):Heap:=(zh2 b1 b2 h l1 l2).push {cls:=.type "tuple",data:=.seq #[.ref h.objs.size,.ref (zh1 b1 h l1).objs.size]}
abbrev zh4(b1 b2:Bool)(h:Heap)(l1 l2:Addr):Heap:=(zh3 b1 b2 h l1 l2).push {cls:=.type "tuple",data:=.seq #[.none,.none]}
abbrev zh5(b1 b2:Bool)(h:Heap)(l1 l2:Addr):Heap:=(zh4 b1 b2 h l1 l2).push {cls:=.type "zip",data:=.fields #[.none,.bool false,.bool false,.ref (zh2 b1 b2 h l1 l2).objs.size,.ref (zh3 b1 b2 h l1 l2).objs.size]}
def K3(b1 b2:Bool)(l1 l2:Addr)(xs ys:Array Value) :
  Meets (Builtin.«zip.__new__» ⟨[.type "zip",.ref l1,.ref l2],[]⟩) (λ_ R s=>SqAt b1 s.heap l1 xs/\SqAt b2 s.heap l2 ys/\R (.ok (.ret (.ref (zh4 b1 b2 s.heap l1 l2).objs.size))) {s with heap:=zh5 b1 b2 s.heap l1 l2}) :=
 .of_wp λprog w A R s h=>by
  obtain⟨q,g,d,tk,j⟩:=s;obtain⟨a1,a2,h⟩:=h;have B:=sub_zip;cases b1 <;> cases b2
  ·have b1:Heap.IsList (Shared.heap ⟨q,g,d,tk,j⟩) l1 xs:=a1;have b2:Heap.IsList (Shared.heap ⟨q.push {cls:=.type "list_iterator",data:=.fields #[.ref l1,.int 0 0]},g,d,tk,j⟩) l2 ys:=Heap.IsList.push a2 _;wp_walk using wpAny_pyIter_list b1,wpAny_pyIter_list b2;exact⟨_,rfl,h⟩
  ·have b1:Heap.IsList (Shared.heap ⟨q,g,d,tk,j⟩) l1 xs:=a1;have b2:Heap.IsTuple (Shared.heap ⟨q.push {cls:=.type "list_iterator",data:=.fields #[.ref l1,.int 0 0]},g,d,tk,j⟩) l2 ys:=Heap.IsTuple.push a2 _;wp_walk using wpAny_pyIter_list b1,wpAny_pyIter_tuple b2;exact⟨_,rfl,h⟩
  ·have b1:Heap.IsTuple (Shared.heap ⟨q,g,d,tk,j⟩) l1 xs:=a1;have b2:Heap.IsList (Shared.heap ⟨q.push {cls:=.type "tuple_iterator",data:=.fields #[.ref l1,.int 0 0]},g,d,tk,j⟩) l2 ys:=Heap.IsList.push a2 _;wp_walk using wpAny_pyIter_tuple b1,wpAny_pyIter_list b2;exact⟨_,rfl,h⟩
  have b1:Heap.IsTuple (Shared.heap ⟨q,g,d,tk,j⟩) l1 xs:=a1;have b2:Heap.IsTuple (Shared.heap ⟨q.push {cls:=.type "tuple_iterator",data:=.fields #[.ref l1,.int 0 0]},g,d,tk,j⟩) l2 ys:=Heap.IsTuple.push a2 _;wp_walk using wpAny_pyIter_tuple b1,wpAny_pyIter_tuple b2;exact⟨_,rfl,h⟩
def V4{xs ys:Array Value}(t1:SqAt b1 s.heap l1 xs)(t2:SqAt b2 s.heap l2 ys)(h:∀ g,ZAt b1 b2 g (s.heap.objs.size+4) (s.heap.objs.size+2) (s.heap.objs.size+3) s.heap.objs.size (s.heap.objs.size+1) l1 l2 .none 0->(∀ c o,s.heap.get? c=some o->g.get? c=some o)->Q (.ref (s.heap.objs.size+4)) {s with heap:=g}) :
  wpAny (model P w) A (call (.type "zip") [.ref l1,.ref l2]) Q E s:=by
 refine callType_new F.called_zip (by decide) (F.typeCall_zip_2 _ _) (F.newCall_zip_2 _ _) (λj=>F.args_object_init_3 j _ _) F.entry_zip_new (K3 b1 b2 l1 l2 xs ys) ⟨t1,t2,?_⟩
 have I:(zh1 b1 s.heap l1).objs.size=s.heap.objs.size+1:=Heap.size_push ..;have B:(zh2 b1 b2 s.heap l1 l2).objs.size=s.heap.objs.size+2:=by rw[Heap.size_push,I]
 have q:(zh3 b1 b2 s.heap l1 l2).objs.size=s.heap.objs.size+3:=by rw[Heap.size_push,B]
 have N:(zh4 b1 b2 s.heap l1 l2).objs.size=s.heap.objs.size+4:=by rw[Heap.size_push,q]
 have M:(zh5 b1 b2 s.heap l1 l2).get? (zh4 b1 b2 s.heap l1 l2).objs.size=some _:=zad _ rfl;have Z:(zh5 b1 b2 s.heap l1 l2).get? (zh3 b1 b2 s.heap l1 l2).objs.size=some _:=zac _ (zad _ rfl);have g3:(zh5 b1 b2 s.heap l1 l2).get? (zh2 b1 b2 s.heap l1 l2).objs.size=some _:=zac _ (zac _ (zad _ rfl));have g2:(zh5 b1 b2 s.heap l1 l2).get? (zh1 b1 s.heap l1).objs.size=some _:=zac _ (zac _ (zac _ (zad _ rfl)));have g1:(zh5 b1 b2 s.heap l1 l2).get? s.heap.objs.size=some _:=zac _ (zac _ (zac _ (zac _ (zad _ rfl))));show _/\_;rw[B,q,N]at M;rw[I,B]at g3;rw[q]at Z;rw[I]at g2;rw[N];exact⟨⟨_,M,rfl⟩,h _ ⟨M,g3,⟨_,_,Z⟩,(by cases b1 <;> exact⟨_,g1,rfl,rfl⟩),(by cases b2 <;> exact⟨_,g2,rfl,rfl⟩)⟩ λc o e=>zac _ (zac _ (zac _ (zac _ (zac _ e))))⟩
def ItAt.there(x:ItAt b h it l i):∃o,h.get? it=some o/\∀v,o.data≠.cell v:=by
 cases b with
 |true =>
  obtain⟨o,e,c,d⟩:=(show h.IsTupleIter it l i from x);exact⟨o,e,λv q=>by rw[d]at q;cases q⟩
 |false =>
  obtain⟨o,e,c,d⟩:=(show h.IsListIter it l i from x);exact⟨o,e,λv q=>by rw[d]at q;cases q⟩
def SqK(b:Bool)(K:W.Frag)(H:Hp)(l:Addr)(xs:List V):Prop:=match b with
 |true=>SqT K H l xs
 |false=>SqL K H l xs
def Yk(I:Inv X pn G H s)(h:SqK b X.K H l xs):∃its,Vals xs its/\SqAt b s.heap l its.toArray:=by
 cases b with
 |true =>
  obtain⟨its,r,p,_⟩:=I.tuple h;exact⟨its,r,(show s.heap.IsTuple l its.toArray from p)⟩
 |false =>
  obtain⟨its,r,p,_⟩:=I.list h;exact⟨its,r,p.isList⟩
def Mx(I:Inv X pn G H s)(h:SqK b X.K H l xs)(h':SqK b X.K H l ys):xs=ys:=by
 cases b with
 |true=>exact I.tuple_inj h h'
 |false=>exact I.list_inj h h'
def vi{l c:Addr}(I:Inv X pn G H s)(h:SqK b X.K H l xs)(f:FpOk X pn H c):l≠c:=by
 have B:∀{o:Obj},X.K.lookup l=some o->l≠c:=λ{o} j z=>by
  subst z;have e:=I.ok.mod.kin _ _ j;rcases f.2.2.2.1 with q|q
  ·exact I.ok.noex _ _ e q
  exact absurd (Nat.lt_of_lt_of_le (zae e) I.ok.bsz) (Nat.not_lt.mpr q)
 cases b with
 |true =>
  rcases h with(h|⟨o,h⟩)|⟨o,its,n,j,_⟩
  ·exact zo h f.1
  ·exact zo h f.1
  exact B j
 |false =>
  rcases h with(h|⟨o,h⟩)|⟨o,its,n,j,_⟩
  ·exact zo h f.1
  ·exact zo h f.1
  exact B j
def Itz(b1 b2:Bool)(K:W.Frag)(l1 l2:Addr):It :=
 ⟨λi H=>∃xs ys x y,SqK b1 K H l1 xs/\SqK b2 K H l2 ys/\xs[i]?=some x/\ys[i]?=some y,
  λi H v H'=>∃T x y,H T=none/\v=.ref T/\(∀xs,SqK b1 K H l1 xs->xs[i]?=some x)/\(∀ys,SqK b2 K H l2 ys->ys[i]?=some y)/\H'=upd H T (.tup [x,y]),
  λi H=>∃xs ys,SqK b1 K H l1 xs/\SqK b2 K H l2 ys/\(xs.length<=i\/ys.length<=i)⟩
def O2{P:Program}{w:World}{K:W.Frag}{es:List Expr}{kk:Nat}{tp:Pos}{b1 b2:Bool}{z ti to i1 i2 l1 l2:Addr}(D:ZNe z ti to i1 i2) :
  Turn P w K (.Tuple es kk tp) (Itz b1 b2 K l1 l2) [z,ti,to,i1,i2] z (λi h=>ZAt b1 b2 h z ti to i1 i2 l1 l2 .none i) where
 mem:=by simp
 obj:=λi h Z b B=>by
  obtain⟨hz,N,⟨u,v,M⟩,h1,h2⟩:=Z;obtain⟨o1,e1,d1⟩:=h1.there;obtain⟨o2,e2,d2⟩:=h2.there;simp only[zam,List.not_mem_nil,or_false]at B;rcases B with rfl|rfl|rfl|rfl|rfl
  ·exact⟨_,hz,λv q=>(by cases q)⟩
  ·exact⟨_,N,λv q=>(by cases q)⟩
  ·exact⟨_,M,λv q=>(by cases q)⟩
  ·exact⟨o1,e1,λv q=>d1 v q⟩
  exact⟨o2,e2,λv q=>d2 v q⟩
 keep:=λi h h' Z k=>by
  obtain⟨hz,N,⟨u,v,M⟩,h1,h2⟩:=Z;exact⟨k z (by simp) _ hz,k ti (by simp) _ N,⟨u,v,k to (by simp) _ M⟩,h1.at λo e=>k i1 (by simp) o e,h2.at λo e=>k i2 (by simp) o e⟩
 item:=by
  intro X hP hw hK hc i pn s G H E I hf Z hg;subst hP hw hK;obtain⟨xs,ys,x,y,e1,e2,hx,hy⟩:=hg;obtain⟨a8,r1,g1⟩:=Yk I e1;obtain⟨a7,r2,g2⟩:=Yk I e2;obtain⟨u,hu,ru⟩:=r1.get hx;obtain⟨v,hv,rv⟩:=r2.get hy;have fz:=hf z (by simp)
  have a0:=hf to (by simp)
  have f1:=hf i1 (by simp)
  have f2:=hf i2 (by simp)
  have a4:∀b ho,H b=some ho->ZOff z to i1 i2 b:=λb ho e=>⟨zo e fz.1,zo e a0.1,zo e f1.1,zo e f2.1⟩;refine Yt D ⟨vi I e1 fz,vi I e1 a0,vi I e1 f1,vi I e1 f2⟩ ⟨vi I e2 fz,vi I e2 a0,vi I e2 f1,vi I e2 f2⟩ Z g1 g2 (x:=u) (y:=v) (by simpa using hu) (by simpa using hv) λg Z2 pr kp=>?_
  have hn:H s.heap.objs.size=none:=I.fresh;have j:∀b,b∉[z,to,i1,i2]->ZOff z to i1 i2 b:=λb B=>by
   simp only[zam,List.not_mem_nil,or_false,not_or]at B;exact B
  have un:Un (frs X.stack) [z,to,i1,i2] H (upd H s.heap.objs.size (.tup [x,y])) s.heap g :=
   ⟨λb o q _ _ hx=>kp b o (j b hx) q,λb o q _ _ hx=>⟨o.slots,kp b o (j b hx) q⟩,λb o q n _=>by rw[y0 (Nat.ne_of_lt (zae q))];exact n,λb o q hx=>⟨o,kp b o (j b hx) q⟩,
    λb zs q=>by rw[y0 (zo q hn)];exact q,λb o zs q=>by rw[y0 (zo q hn)];exact q,λb ps q=>⟨#[],by rw[y0 (zo q hn),q];simp⟩⟩
  have hok:HOk X.prog X.w (upd H s.heap.objs.size (.tup [x,y])) g:=λb o e=>by
   by_cases B:b=s.heap.objs.size
   ·subst B;rw[zm]at e;cases e;refine⟨by simp only[zLc,zLn];rw[sizeLine_eq];decide,[u,v],.cons ru (.cons rv .nil),⟨_,pr,rfl,_,rfl⟩,_,pr,rfl⟩
   rw[y0 B]at e;refine(I.hok b o e).stay (λc ob hc q=>kp c ob ?_ q) (λc q=>by rw[y0 (zo q hn)];exact q) λc zs q=>by rw[y0 (zo q hn)];exact q
   rcases hc with rfl|hc
   ·exact a4 _ _ e
   exact a4 _ _ hc
  have I2:Inv X pn G (upd H s.heap.objs.size (.tup [x,y])) {s with heap:=g}:=I.call' (s':={s with heap:=g}) (ch:=[z,to,i1,i2]) rfl un hok I.bare λb B=>by
   have a6:b∈[z,ti,to,i1,i2]:=by
    simp only[zam,List.not_mem_nil,or_false]at B ⊢;rcases B with rfl|rfl|rfl|rfl <;> simp
   have q:=hf b a6;exact⟨q.2.2.2.1,q.2.1,q.2.2.2.2.1,q.2.2.2.2.2⟩
  have a5:∀b∈[z,ti,to,i1,i2],upd H s.heap.objs.size (.tup [x,y]) b=none:=λb B=>by
   have lb:b<s.heap.objs.size:=by
    obtain⟨hz,N,⟨u,v,M⟩,h1,h2⟩:=Z;obtain⟨_,q1,_⟩:=h1.there;obtain⟨_,q2,_⟩:=h2.there;simp only[zam,List.not_mem_nil,or_false]at B;rcases B with rfl|rfl|rfl|rfl|rfl
    ·exact zae hz
    ·exact zae N
    ·exact zae M
    ·exact zae q1
    exact zae q2
   rw[y0 (Nat.ne_of_lt lb)];exact(hf b B).1
  refine⟨_,rfl,wpAny_letOwnedTupleGo_zip Z2.zz λg2 z3 sb=>?_⟩;refine⟨.ref s.heap.objs.size,_,I2.turned (t':=s.toks) (λb o B e=>sb.extBut b o B e) (a5 z (by simp)) fz.2.1 fz.2.2.2.1 fz.2.2.2.2.1 fz.2.2.2.2.2,rfl,⟨_,x,y,hn,rfl,(λzs q=>by rw[<- Mx I e1 q];exact hx),(λzs q=>by rw[<- Mx I e2 q];exact hy),rfl⟩,?_,a5⟩
  obtain⟨_,N,⟨u2,v2,M⟩,h1,h2⟩:=Z2;exact⟨z3,sb.extBut _ _ D.ab N,⟨u2,v2,sb.extBut _ _ D.ac M⟩,h1.at λo e=>sb.extBut _ o D.ad e,h2.at λo e=>sb.extBut _ o D.ae e⟩
 done:=by
  intro X hP hw hK hc i pn s G H E I hf Z hg;subst hP hw hK;obtain⟨xs,ys,e1,e2,a9⟩:=hg;obtain⟨a8,r1,g1⟩:=Yk I e1;obtain⟨a7,r2,g2⟩:=Yk I e2;have fz:=hf z (by simp)
  have a0:=hf to (by simp)
  have f1:=hf i1 (by simp)
  have f2:=hf i2 (by simp)
  have a4:∀b ho,H b=some ho->ZOff z to i1 i2 b:=λb ho e=>⟨zo e fz.1,zo e a0.1,zo e f1.1,zo e f2.1⟩;have b4:=r1.length;have b0:=r2.length;refine Vw (I.ok.hd hc) D ⟨vi I e1 fz,vi I e1 a0,vi I e1 f1,vi I e1 f2⟩ ⟨vi I e2 fz,vi I e2 a0,vi I e2 f1,vi I e2 f2⟩ Z g1 g2 ?_ λg kp=>?_
  ·rcases a9 with q|q
   ·exact .inl (by simp;omega)
   exact .inr (by simp;omega)
  refine⟨rfl,?_⟩;have j:∀b,b∉[z,to,i1,i2]->ZOff z to i1 i2 b:=λb B=>by
   simp only[zam,List.not_mem_nil,or_false,not_or]at B;exact B
  have un:Un (frs X.stack) [z,to,i1,i2] H H s.heap g :=
   ⟨λb o q _ _ hx=>kp b o (j b hx) q,λb o q _ _ hx=>⟨o.slots,kp b o (j b hx) q⟩,λb o q n _=>n,λb o q hx=>⟨o,kp b o (j b hx) q⟩,
    λb zs q=>q,λb o zs q=>q,λb ps q=>⟨#[],by rw[q];simp⟩⟩
  refine I.call' (s':={s with heap:=g}) (ch:=[z,to,i1,i2]) rfl un (λb o e=>(I.hok b o e).stay (λc ob hc q=>kp c ob ?_ q) (λc q=>q) λc zs q=>q) I.bare λb B=>?_
  ·rcases hc with rfl|hc
   ·exact a4 _ _ e
   exact a4 _ _ hc
  have a6:b∈[z,ti,to,i1,i2]:=by
   simp only[zam,List.not_mem_nil,or_false]at B ⊢;rcases B with rfl|rfl|rfl|rfl <;> simp
  have q:=hf b a6;exact⟨q.2.2.2.1,q.2.1,q.2.2.2.2.1,q.2.2.2.2.2⟩
 self:=λ_ _ _ _ _ Z h=>wpAny_pyIter_zip Z.zz h
def Xm:bootBuiltins "zip" = some (.type "zip"):=by kernel_rfl
def iZip(K:W.Frag)(ta:TA):TI:=λG H R=>ta G H λvs H1=>∃b1 b2 l1 l2 xs ys,vs=[.ref l1,.ref l2]/\SqK b1 K H1 l1 xs/\SqK b2 K H1 l2 ys/\R (Itz b1 b2 K l1 l2) H1
def Ea{X:Cx}{es:List Expr}{kk:Nat}{tp:Pos}{a b:Expr}{ta:TA}{p pos:Pos}(hg:Gl X "zip")(hm:X.mg "zip" = none)(ha:PA X [a,b] ta)(he:starEach [a,b] X.env=(false,eval a X.env)::starEach [b] X.env:=by rfl)(N:(backTo pos (starEach [b] X.env)).any (·.1)=false:=by rfl):PI X (.Tuple es kk tp) (.Call (.Name "zip" p) [a,b] [] pos) (iZip X.K ta):=by
 intro pn s G H R I h;refine wpAny_Call_Name_kw (je I hg hm Xm ?_ (by decide) (by decide))
 refine PyProof.Rows.callWith_type1 (thn (ha pos pn s G H _ I h) λus s1 Zh=>?_) he N;obtain⟨vs,H1,M,r1,b1,b2,l1,l2,xs,ys,e,e1,e2,q⟩:=Zh;subst e;obtain⟨u,v,rfl,ru,rv⟩:=Pz r1;cases ru;cases rv;obtain⟨B,r1,g1⟩:=Yk M e1;obtain⟨j,r2,g2⟩:=Yk M e2;refine V4 (xs:=B.toArray) (ys:=j.toArray) g1 g2 λg Z kp=>wpAny_pyIter_zip Z.zz ?_;have D:ZNe (s1.heap.objs.size+4) (s1.heap.objs.size+2) (s1.heap.objs.size+3) s1.heap.objs.size (s1.heap.objs.size+1):=by
  constructor <;> (intro z;exact absurd (show(_:Nat)=_ from z) (by omega))
 refine⟨_,_,_,_,H1,rfl,M.kept (t':=s1.toks) kp,O2 D,Z,λb hb=>?_,q⟩;have lb:s1.heap.objs.size<=b:=by
  simp only[zam,List.not_mem_nil,or_false]at hb;rcases hb with rfl|rfl|rfl|rfl|rfl
  ·exact Nat.le_add_right _ _
  ·exact Nat.le_add_right _ _
  ·exact Nat.le_add_right _ _
  ·exact zaj _
  exact Nat.le_add_right _ _
 exact M.fpOk lb (M.hok.fresh lb)
structure FlyB(P:Program)(w:World)(outer:List Env)(H:Hp)(h:Heap)(H':Hp)(B:Heap)(h':Heap):Prop where
 un:Un (frs outer) [] H H' h h'
 hok:HOk P w H' h'
 cov:∀b o,h'.get? b=some o->b∉frs outer->(H' b≠none\/∃o0,h.get? b=some o0)->B.get? b=some o
def CX1(P:Program)(w:World):CXT:=λouter H s E e s'=>∃(a C:Addr)(t:Value)(H':Hp)(B:Heap),e=.ref a/\s'.os=s.os/\AllBare s'.gens/\FlyB P w outer H s.heap H' B s'.heap /\
 Heap.FlyingW B outer a (.ref C) t s'.heap/\E (.ref C) none H'
def sg(t b:Int):Int:=if b<0 then -(Int.gcd t b:Int) else Int.gcd t b
open PySem.Builtin.Int (intBits)
def fdOk{i j:Int}{m:Nat}(h:j≠0)(q:intBits j<=m)(B:m<=8999:=by omega):FdOk i j:=by
 refine⟨h,?_⟩;unfold intBits at q;rw[if_neg (by simpa using h)]at q
 omega
def yo{n:Nat}{i:Int}:okD n (.int i)=True:=by cases n <;> rfl
def Lh{n:Nat}{i:Bool}:okD n (.bl i)=True:=by cases n <;> rfl
def ym{n:Nat}:okD n (.str i)=True:=by cases n <;> rfl
def Q0{n:Nat}:okD n .non=True:=by cases n <;> rfl
def Jk{n:Nat}(h:0<n):okD n (.tup ds)=∀x∈ds,okD (n-1) x:=by
 cases n with
 |zero=>omega
 |succ n=>rfl
def Y6{a b:Int}:eqD (.int a) (.int b)=(a==b):=rfl
def Y5{a b:Str}:eqD (.str a) (.str b)=(a==b):=rfl
def C6{a b:Bool}:eqD (.bl a) (.bl b)=(a==b):=rfl
def w2(g:Int->Int->(EV->Prop)->Prop):FT:=λds Y=>match ds with
 |[.int a,.int b]=>g a b Y
 |_=>False
def w1(g:Int->(EV->Prop)->Prop):FT:=λds Y=>match ds with
 |[.int a]=>g a Y
 |_=>False
structure Sm(a b c d:Int):Prop where
 a:intBits a<=3000
 b:intBits b<=3000
 c:intBits c<=3000
 d:intBits d<=3000
def Mm{α:Type}{x:α}{l:List α}:atI (x::l) 0=some x:=by
 rw[show(0:Int)=((0:Nat):Int) from rfl];exact Ye rfl
def Ck{α:Type}{x y:α}{l:List α}:atI (x::y::l) 1=some y:=by
 rw[show(1:Int)=((1:Nat):Int) from rfl];exact Ye rfl
def Aa{α:Type}{x y z:α}{l:List α}:atI (x::y::z::l) 2=some z:=by
 rw[show(2:Int)=((2:Nat):Int) from rfl];exact Ye rfl
variable{κ:Type}[DecidableEq κ]
def valV(j:List (κ×V))(k:κ):Option V:=(j.find? λq=>decide (q.1=k)).map (·.2)
def putK(j:List (κ×V))(k:κ)(v:V):List (κ×V) :=
 if (j.any λq=>decide (q.1=k))=true then j.map (λq=>if q.1=k then(q.1,v) else q) else j++[(k,v)]
def Z6{p:κ×V}{r:List (κ×V)}{k:κ}(e:p.1=k):valV (p::r) k=some p.2:=by simp[valV,List.find?_cons,e]
def Z7{p:κ×V}{r:List (κ×V)}{k:κ}(e:¬ p.1=k):valV (p::r) k=valV r k:=by simp[valV,List.find?_cons,e]
def Wa(j:List (κ×V))(k:κ)(v:V):(putK j k v).length<=j.length+1:=by
 unfold putK;split
 ·rw[zLm];omega
 rw[zLa,zLc,zLn];omega
def RelO.isSome_eq{o:Option V}{u:Option Value}(r:RelO o u):o.isSome=u.isSome:=by
 cases o with
 |none=>cases u with
  |none=>rfl
  |some _=>exact(show False from r).elim
 |some _=>cases u with
  |none=>exact(show False from r).elim
  |some _=>rfl
theorem RelO.getD{o:Option V}{u:Option Value}{d:V}{d':Value}(r:RelO o u)(j:RelV d d'):RelV (o.getD d) (u.getD d'):=by
 cases o with
 |none=>cases u with
  |none=>exact j
  |some _=>exact(show False from r).elim
 |some _=>cases u with
  |none=>exact(show False from r).elim
  |some _=>exact r
def KV.val{j:List (κ×V)}{vs:List (κ×Value)}(r:KV j vs)(k:κ):RelO (valV j k) (valueAt vs k):=by
 unfold KV at r
 induction r with
 |nil=>exact True.intro
 |@cons p q ps qs h t ih =>
  obtain⟨h1,h2⟩:=h;by_cases e:p.1=k
  ·have B:q.1=k:=h1.symm.trans e;have b:valueAt (q::qs) k=some q.2:=by simp[valueAt,List.find?_cons,B]
   rw[Z6 e,b];exact h2
  have B:¬ q.1=k:=λz=>e (h1.trans z);have b:valueAt (q::qs) k=valueAt qs k:=by simp[valueAt,List.find?_cons,B]
  rw[Z7 e,b];exact ih
theorem KV.any{j:List (κ×V)}{vs:List (κ×Value)}(r:KV j vs)(k:κ):(j.any λq=>decide (q.1=k))=vs.any λq=>decide (q.1=k):=by
 unfold KV at r
 induction r with
 |nil=>rfl
 |cons h t ih=>rw[List.any_cons,List.any_cons,ih,h.1]
def KV.repl{B:List (κ×V)}{vs:List (κ×Value)}(r:KV B vs)(k:κ){y:V}{u:Value}(I:RelV y u) :
  KV (B.map λj=>if j.1=k then(j.1,y) else j) (vs.map λj=>if j.1=k then(j.1,u) else j):=by
 unfold KV at r ⊢
 induction r with
 |nil=>exact .nil
 |@cons p q ps qs h t ih =>
  rw[List.map_cons,List.map_cons];refine .cons ?_ ih;obtain⟨h1,h2⟩:=h;by_cases e:p.1=k
  ·rw[if_pos e,if_pos (h1.symm.trans e)];exact⟨h1,I⟩
  rw[if_neg e,if_neg (λz=>e (h1.trans z))];exact⟨h1,h2⟩
def KV.put{j:List (κ×V)}{vs:List (κ×Value)}(r:KV j vs)(k:κ){y:V}{u:Value}(q:RelV y u):KV (putK j k y) (stored vs k u):=by
 unfold putK stored;rw[r.any k];by_cases e:(vs.any λB=>decide (B.1=k))=true
 ·rw[if_pos e,if_pos e];exact r.repl k q
 rw[if_neg e,if_neg e];exact Paired.snoc r ⟨rfl,q⟩
theorem KV.length{j:List (κ×V)}{vs:List (κ×Value)}(r:KV j vs):j.length=vs.length:=Paired.length r
def Qh{P:Program}{w:World}{k:Key}{u:Value}(r:RelV (kV k) u):(yq P w).is k u=true:=by
 cases k with
 |inl i=>obtain⟨t,e⟩:=(show ∃t,u=Value.int i t from r);subst e;exact W9 P w i t
 |inr x=>obtain⟨t,e⟩:=(show ∃t,u=Value.str x t from r);subst e;exact gp P w x t
theorem X0{P:Program}{w:World}:∀{ks:List Key}{us:List Value},Vals (ks.map kV) us->ItemsAre (yq P w) ks us
 |[],_,r=>by rw[List.map_nil]at r;cases r;exact .nil
 |k::ks,_,r=>by
  rw[List.map_cons]at r;cases r with
  |cons h t=>exact .cons (Qh h) (X0 t)
abbrev KT(H:Hp):List (List Key×V)->List (List Key×Addr×Value)->Prop:=Paired λp q=>p.1=q.1/\H q.2.1=some (.tup (p.1.map kV))/\RelV p.2 q.2.2
def KT.val{H:Hp}{j:List (List Key×V)}{xs:List (List Key×Addr×Value)}(r:KT H j xs)(k:List Key):RelO (valV j k) ((atKey xs k).map (·.2)):=by
 induction r with
 |nil=>exact True.intro
 |@cons p q ps qs h t ih =>
  obtain⟨h1,_,h2⟩:=h;by_cases e:p.1=k
  ·have B:q.1=k:=h1.symm.trans e;have b:atKey (q::qs) k=some q.2:=by simp[atKey,List.find?_cons,B]
   rw[Z6 e,b];exact h2
  have B:¬ q.1=k:=λz=>e (h1.trans z);have b:atKey (q::qs) k=atKey qs k:=by simp[atKey,List.find?_cons,B]
  rw[Z7 e,b];exact ih
def Fm{u:HO}(ok:HOk P w H h)(e:Rd H a u):wj P w H h a u:=e.ok ok
def Pg{j:List (Key×V)}(ok:HOk P w H h)(e:Rd H a (.dK j)):j.length<=sizeLine/\(a==sysModules)=false/\∃vs,KV j vs/\h.DictOf (yq P w) a vs :=
 show wj P w H h a (.dK j) from Fm ok e
def Ga{j:List (Key×V)}(ok:HOk P w H h)(e:H a=some (.dK j)):j.length<=sizeLine/\(a==sysModules)=false/\∃vs,KV j vs/\h.DictOf (yq P w) a vs:=Pg ok (.inl e)
def Qe{ks:List Key}(ok:HOk P w H h)(e:H a=some (.tup (ks.map kV))):(tupleKind (yq P w)).is h ks a:=by
 obtain⟨_,its,r,⟨o,h1,h2,n,j⟩,_⟩:=(show wj P w H h a (.tup (ks.map kV)) from ok a _ e);exact⟨o,its.toArray,n,h1,h2,j,by simpa using X0 r⟩
def Mf{j:List (List Key×V)}(ok:HOk P w H h)(e:Rd H a (.dT j)):j.length<=sizeLine/\(a==sysModules)=false /\
  ∃xs,KT H j xs/\h.DictOfH (tupleKind (yq P w)) a xs:=by
 obtain⟨z,y,xs,r,o,es,Z,h1,h2,N,M,I⟩:=(show wj P w H h a (.dT j) from Fm ok e);refine⟨z,y,xs,r,o,es,Z,h1,h2,N,M,λx B=>?_,I⟩;have all:∀{l:List (List Key×V)}{m:List (List Key×Addr×Value)},KT H l m->∀x∈m,(tupleKind (yq P w)).is h x.1 x.2.1:=by
  intro l m q
  induction q with
  |nil=>intro x B;exact nomatch B
  |@cons p q ps qs hq t ih =>
   intro x B;rcases zam.mp B with e|B
   ·subst e;exact Qe ok (by rw[<- hq.1];exact hq.2.1)
   exact ih x B
 exact all r x B
def DGet(H:Hp)(a:Addr)(y:V)(r:Option V):Prop :=
 (∃kvs k,Rd H a (.dK kvs)/\y=kV k/\r=valV kvs k)\/∃kvs k b,Rd H a (.dT kvs)/\y=.ref b/\H b=some (.tup (k.map kV))/\r=valV kvs k
def DPut(H:Hp)(a:Addr)(y v:V)(H':Hp):Prop :=
 (∃kvs k,H a=some (.dK kvs)/\y=kV k/\kvs.length<sizeLine/\H'=upd H a (.dK (putK kvs k v))) \/
 ∃kvs k b,H a=some (.dT kvs)/\y=.ref b/\H b=some (.tup (k.map kV))/\kvs.length<sizeLine/\H'=upd H a (.dT (putK kvs k v))
def DGet.k{H:Hp}{a:Addr}{j:List (Key×V)}{k:Key}(e:H a=some (.dK j)):DGet H a (kV k) (valV j k):=.inl ⟨j,k,.inl e,rfl,rfl⟩
def DGet.t{H:Hp}{a b:Addr}{j:List (List Key×V)}{k:List Key}(e:H a=some (.dT j))(q:H b=some (.tup (k.map kV))):DGet H a (.ref b) (valV j k):=.inr ⟨j,k,b,.inl e,rfl,q,rfl⟩
def DPut.t{H:Hp}{a b:Addr}{j:List (List Key×V)}{k:List Key}{v:V}(e:H a=some (.dT j))(q:H b=some (.tup (k.map kV)))(hl:j.length<sizeLine) :
  DPut H a (.ref b) v (upd H a (.dT (putK j k v))):=.inr ⟨j,k,b,e,rfl,q,hl,rfl⟩
variable{y:V}{u:Value}{o:Option V}
def Inv.big(I:Inv X pn G H s):sysModules<s.heap.objs.size:=by
 have h:mainGlobals<s.heap.objs.size:=(I.mod.glob.keeps I.bk).lt;exact Nat.lt_trans (by decide) h
def Pi{Q:Value->Shared->Prop}(hu:A.units+1<cLine)(I:Inv X pn G H s)(g:DGet H a y (some v))(ry:RelV y u)(h:∀ B s',Inv X pn G H s'->RelV v B->Q B s') :
  wpAny (model X.prog X.w) A (getItem (.ref a) u) Q E s:=by
 rcases g with⟨M,k,e,ey,l⟩|⟨M,k,b,e,ey,eb,l⟩
 ·subst ey;obtain⟨z,hd,vs,q,dd⟩:=Pg I.hok e;obtain⟨B,N,j⟩:=RelO.some_of (v:=v) (o:=valueAt vs k) (by rw[l];exact q.val k)
  exact wpAny_getItem_of (Qh ry) dd.mapOf N (h B _ (I.tok _) j)
 subst ey;cases (show u=Value.ref b from ry);obtain⟨z,hd,xs,q,dd⟩:=Mf I.hok e;obtain⟨B,N,j⟩:=RelO.some_of (v:=v) (o:=(atKey xs k).map (·.2)) (by rw[l];exact q.val k)
 obtain⟨p,hp,Z⟩:=zar.mp N;refine wpAny_getItem_heap (tupleKind_room_in1 hu) (Qe I.hok eb) dd hp ?_;rw[Z];exact h B _ (I.tok _) j
def d_in{Q:Value->Shared->Prop}(hu:A.units+1<cLine)(I:Inv X pn G H s)(g:DGet H a y o)(Z:RelV y u)(h:∀ s',Inv X pn G H s'->Q (.bool o.isSome) s') :
  wpAny (model X.prog X.w) A (compareOp .In u (.ref a)) Q E s:=by
 rcases g with⟨B,k,e,N,l⟩|⟨B,k,b,e,N,eb,l⟩
 ·subst N;obtain⟨z,M,vs,j,dd⟩:=Pg I.hok e;refine wpAny_in_of (Qh Z) M dd.mapOf ?_;rw[<- (j.val k).isSome_eq,<- l];exact h _ (I.tok _)
 subst N;cases (show u=Value.ref b from Z);obtain⟨z,M,xs,j,dd⟩:=Mf I.hok e;refine wpAny_in_heap (tupleKind_room_in1 hu) (Qe I.hok eb) M dd ?_;have q:=(j.val k).isSome_eq;rw[Option.isSome_map]at q;rw[<- q,<- l];exact h _ (I.tok _)
def Ph{h':Heap}{t':Nat}{j:HO}(I:Inv X pn G H s)(B:Mut (H a))(M:Heap.SameBut a s.heap h')(N:∃ q,h'.get? a=some q)(new:wj X.prog X.w (upd H a j) h' a j) :
  Inv X pn G (upd H a j) {s with heap:=h',toks:=t'} :=
 I.write (x:=a) (e:=a) B (.inl rfl) (λb q Z z=>(M.2 b Z).trans z) N new
def Ud{P:Program}{w:World}{H':Hp}{h':Heap}{j:List (Key×V)}{vs:List (Key×Value)}(z:j.length<=sizeLine)(B:(a==sysModules)=false)(q:KV j vs)(dd:h'.DictOf (yq P w) a vs) :
  wj P w H' h' a (.dK j):=⟨z,B,vs,q,dd⟩
def Wz{X:Cx}{pn:List (Addr×Obj)}{G:St}{H:Hp}{s:Shared}{a:Addr}{y:V}{o:Option V}(I:Inv X pn G H s)(g:DGet H a y o):s.TypeIs (.ref a) "dict":=by
 rcases g with⟨j,k,e,_,_⟩|⟨j,k,b,e,_,_,_⟩
 ·obtain⟨_,_,vs,_,dd⟩:=Pg I.hok e;exact dd.typeIs
 obtain⟨_,_,xs,_,dd⟩:=Mf I.hok e;exact dd.typeIs
def Mg{P:Program}{w:World}{H:Hp}(h:Heap)(j:sysModules<h.objs.size):wj P w H (h.push {cls:=.type "dict",data:=.dict #[]}) h.objs.size (.dK []) :=
 ⟨Nat.zero_le _,beq_eq_false_iff_ne.mpr (Ne.symm (Nat.ne_of_lt j)),[],.nil,Heap.DictOf.new h⟩
def S8:List (TE×TE)->St->Hp->(List (V×V)->Hp->Prop)->Prop
 |[],_,H,Q=>Q [] H
 |(tk,tv)::r,G,H,Q=>tk G H λx H1=>tv G H1 λy H2=>S8 r G H2 λps j=>Q ((x,y)::ps) j
abbrev VV:List (V×V)->List (Value×Value)->Prop:=Paired λp q=>RelV p.1 q.1/\RelV p.2 q.2
def PPs(X:Cx)(pos:Pos)(q:List (Option Expr))(j:List Expr)(B:List (TE×TE)):Prop :=
 ∀(pn:List (Addr×Obj))(s:Shared)(G:St)(H:Hp)(Q:List (V×V)->Hp->Prop),Inv X pn G H s->S8 B G H Q ->
  wpAny (model X.prog X.w) X.A (evalPairs (pairTrees q j X.env pos)) (λvs s'=>∃ps H',Inv X pn G H' s'/\VV ps vs/\Q ps H') X.xe s
def Ra{X:Cx}{pos:Pos}:PPs X pos [] [] []:=λpn s G H Q I h=>pairTrees_nil_walk ⟨[],H,I,.nil,h⟩
def qg{X:Cx}{pos:Pos}{k v:Expr}{ks:List (Option Expr)}{vs:List Expr}{tk tv:TE}{j:List (TE×TE)}(hk:PE X k tk)(hv:PE X v tv)(hr:PPs X pos ks vs j) :
  PPs X pos (some k::ks) (v::vs) ((tk,tv)::j):=λpn s G H Q I h =>
 pairTrees_cons_walk (thn (hk pn s G H _ I h) λu s1 ⟨x,H1,I1,M,q1⟩=>thn (hv pn s1 G H1 _ I1 q1) λw2 s2 ⟨y,H2,I2,B,Z⟩ =>
  thn (hr pn s2 G H2 _ I2 Z) λws s3 ⟨ps,H3,I3,q,N⟩=>⟨(x,y)::ps,H3,I3,.cons ⟨M,B⟩ q,N⟩)
def qj(j more:List (Key×V)):List (Key×V):=more.foldl (λq B=>putK q B.1 B.2) j
def KV.merge:∀{more:List (Key×V)}{rs:List (Key×Value)}{j:List (Key×V)}{vs:List (Key×Value)},KV more rs->KV j vs->KV (qj j more) (merged vs rs):=by
 intro more rs j vs r;unfold KV at r
 induction r generalizing j vs with
 |nil=>intro q;exact q
 |@cons p q ps qs h t ih =>
  intro B;have e:KV (putK j p.1 p.2) (stored vs q.1 q.2):=by
   have:=B.put p.1 h.2;rw[<- h.1];exact this
  exact ih e
theorem qp:∀(more kvs:List (Key×V)),(qj kvs more).length<=kvs.length+more.length
 |[],kvs=>by show kvs.length<=kvs.length+0;omega
 |p::r,kvs=>by
  have h1:=qp r (putK kvs p.1 p.2);have h2:=Wa kvs p.1 p.2;show(qj (putK kvs p.1 p.2) r).length<=_;rw[zLc];omega
theorem Z0{P:Program}{w:World}:∀{kvs:List (Key×V)}{ws:List (Value×Value)},VV (kvs.map λj=>(kV j.1,j.2)) ws->∃rs,Carries (yq P w) ws rs/\KV kvs rs
 |[],_,r=>by rw[List.map_nil]at r;cases r;exact⟨[],True.intro,.nil⟩
 |p::kvs,_,r=>by
  rw[List.map_cons]at r;cases r with
  |@cons a b as bs h t =>
   obtain⟨rs,c,q⟩:=Z0 (P:=P) (w:=w) t;obtain⟨b1,b2⟩:=b;exact⟨(p.1,b2)::rs,⟨Qh h.1,rfl,c⟩,.cons ⟨rfl,h.2⟩ q⟩
def Cz(j:List (TE×TE)):TE:=λG H Q=>∀p,H p=none->S8 j G (upd H p (.dK [])) λps H2=>H2 p=some (.dK [])/\∃kvs:List (Key×V),ps=kvs.map (λq=>(kV q.1,q.2))/\kvs.length<=15/\Q (.ref p) (upd H2 p (.dK (qj [] kvs)))
def Ri{X:Cx}{pos:Pos}{j:List (Option Expr)}{B:List Expr}{M:List (TE×TE)}(h:PPs X pos j B M)(Z:j.all (·.isSome)=true)(hl:j.length=B.length)(h0:j≠[])(a5:j.length<=15):PE X (.Dict j B pos) (Cz M):=by
 intro pn s G H Q I q;have hn:=I.hok.fresh (zaj s.heap.objs.size);have I1:=I.laid (a:=s.heap.objs.size) (o:=.dK []) (h':=s.heap.push {cls:=.type "dict",data:=.dict #[]}) (t':=s.toks) (λ_ _ q=>zac _ q) (zaj _) (Mg s.heap I.big);refine wpAny_Dict_walk (knd:=yq X.prog X.w) Z hl h0 a5 (thn (h pn _ G _ _ I1 (q _ hn)) λws s2 Zh=>?_);obtain⟨ps,H2,I2,a4,e,N,ep,lk,q2⟩:=Zh;subst ep;obtain⟨rs,c,rk⟩:=Z0 (P:=X.prog) (w:=X.w) a4;obtain⟨z,hd,a6,r0,dd⟩:=Ga I2.hok e;cases r0;refine⟨rs,c,dd,λh' a0 hs=>⟨.ref s.heap.objs.size,_,?_,rfl,q2⟩⟩;have hz:(qj [] N).length<=sizeLine:=by
  have h1:=qp N [];rw[zLn]at h1;rw[sizeLine_eq];omega
 have he:∃q,h'.get? s.heap.objs.size=some q:=let ⟨q,_,_,hq,_⟩:=a0;⟨q,hq⟩
 exact Ph I2 (by rw[e];exact True.intro) hs he (Ud hz hd (rk.merge .nil) a0)
structure M1(X:Cx)(o:Expr)(m:Str)(apos:Pos)(e:Expr)(cpos:Pos):Prop where
 base:attributeBase o m X.env (eval o X.env)=eval o X.env
 few:((backTo cpos (starEach [e] X.env)).all (λx=>!x.1)&&(backToKw cpos (keywordEach [] X.env)).all (λx=>x.1.isSome)
  && decide (([e]:List Expr).length+([]:List Keyword).length+(if ([]:List Keyword).isEmpty then 0 else 1)<30))=true
 line:(apos.endLine==cpos.line)=true
 trees:backTo cpos (starEach [e] X.env)=[(false,eval e X.env)]
def IsD(H:Hp)(a:Addr):Prop:=(∃kvs,Rd H a (.dK kvs))\/∃kvs,Rd H a (.dT kvs)
def Dq{X:Cx}{pn:List (Addr×Obj)}{G:St}{H:Hp}{s:Shared}{a:Addr}(I:Inv X pn G H s)(d:IsD H a) :
  s.TypeIs (.ref a) "dict"/\(∀b,Value.ref a=.ref b->∃j,s.heap.get? b=some j/\j.dict=none)/\(a==sysModules)=false:=by
 rcases d with⟨B,e⟩|⟨B,e⟩
 ·obtain⟨_,M,vs,_,dd⟩:=Pg I.hok e;refine⟨dd.typeIs,λb q=>?_,M⟩;cases q;obtain⟨j,_,_,h1,h2,_⟩:=dd;exact⟨j,h1,h2.2.1⟩
 obtain⟨_,M,xs,_,dd⟩:=Mf I.hok e;refine⟨dd.typeIs,λb q=>?_,M⟩;cases q;obtain⟨j,_,_,h1,h2,_⟩:=dd;exact⟨j,h1,h2.2.1⟩
instance decMemKey (k:Key) (ks:List Key):Decidable (k∈ks):=decidable_of_iff (ks.any (λx=>decide (x=k))=true) (by simp)
variable{α:Type}
def t5:List Key->List α->Key->Option α
 |k'::ks,d::ds,k=>if k'=k then some d else t5 ks ds k
 |_,_,_=>none
def kput(ks:List Key)(k:Key):List Key:=if k∈ks then ks else ks++[k]
def dput:List Key->List α->Key->α->List α
 |k'::ks,d'::ds,k,d=>if k'=k then d::ds else d'::dput ks ds k d
 |_,_,_,d=>[d]
theorem Z5:∀(ks:List Key)(xs:List V)(k:Key),valV (ks.zip xs) k=t5 ks xs k
 |[],xs,k=>by cases xs <;> rfl
 |k'::ks,[],k=>rfl
 |k'::ks,x::xs,k=>by
  rw[List.zip_cons_cons,t5];by_cases e:k'=k
  ·rw[if_pos e,Z6 (by exact e)]
  rw[if_neg e,Z7 (by exact e),Z5 ks xs k]
theorem kf{α:Type}:∀{ks:List Key}{xs:List α}{k:Key},ks.length=xs.length->(t5 ks xs k=none ↔ k∉ks)
 |[],xs,k,h=>by cases xs <;> simp[t5] at *
 |k'::ks,[],k,h=>by simp at h
 |k'::ks,x::xs,k,h=>by
  rw[t5];by_cases e:k'=k
  ·simp[e]
  rw[if_neg e,kf (by simpa using h)]
  simp[e,Ne.symm e]
theorem Yo:∀{ks:List Key}{ds:List D}{xs:List V}{k:Key},Reps K H O ds xs->(∀d,t5 ks ds k=some d->∃v,t5 ks xs k=some v/\Rep K H O d v)/\(t5 ks ds k=none->t5 ks xs k=none)
 |[],ds,xs,k,r=>⟨(λd h=>by cases ds <;> cases h),(λ_=>by cases xs <;> rfl)⟩
 |k'::ks,[],xs,k,r=>by
  cases r
  exact⟨(λd h=>by cases h),λ_=>rfl⟩
 |k'::ks,d'::ds,xs,k,r=>by
  obtain⟨v,j,rfl,q,t⟩:=r;rw[t5,t5];by_cases e:k'=k
  ·rw[if_pos e,if_pos e];exact⟨(λd h=>by cases h;exact⟨v,rfl,q⟩),(λh=>by cases h)⟩
  rw[if_neg e,if_neg e];exact Yo t
def keyD:D->Option Key
 |.int i=>some (.inl i)
 |.str x=>some (.inr x)
 |_=>none
def Vz{K:W.Frag}{H:Hp}{O:List Addr}{d:D}{v:V}{k:Key}(h:View K H O d v)(e:keyD d=some k):v=kV k:=by
 cases d with
 |int i=>cases e;exact h
 |str i=>cases e;exact h
 |_=>cases e
section
variable{a b e:Expr}{ta tb:TD}{t:TDs}{pos:Pos}
def El(hu:X.A.units+1<cLine):OpR X (compareOp .In) (λx y H Q=>∃a j k,y=.ref a/\H a=some (.dK j)/\x=kV k/\Q (.bl (valV j k).isSome) H):=by
 intro pn s G H x y v u Q I M B h;obtain⟨a,j,k,rfl,N,rfl,q⟩:=h;cases B;exact d_in hu I (DGet.k N) M λs' Z=>⟨.bl _,H,Z,rfl,q⟩
def Wl{α:Type}{ks:List Key}{xs:List α}(h:ks.length=xs.length):(t5 ks xs k).isSome=decide (k∈ks):=by
 by_cases hk:k∈ks
 ·rw[decide_eq_true hk];cases e:t5 ks xs k with
  |none=>exact absurd hk ((kf h).mp e)
  |some _=>rfl
 rw[decide_eq_false hk,(kf h).mpr hk];rfl
def Y0:D->Bool
 |.non=>true
 |.bl _=>true
 |.int _=>true
 |.str _=>true
 |_=>false
def inD(x:D)(l:List D):Bool:=l.any λy=>eqD y x
def sIn(j:Bool):D->D->(EV->Prop)->Prop:=λx y Y=>match y with
 |.dk ks _=>(match keyD x with|some k=>Y (dv (.bl (if j then !decide (k∈ks) else decide (k∈ks))))|none=>False)
 |.lst l=>Y0 x=true/\l.all Y0=true/\Y (dv (.bl (if j then !inD x l else inD x l)))
 |.tup l=>Y0 x=true/\l.all Y0=true/\Y (dv (.bl (if j then !inD x l else inD x l)))
 |.str z=>(match x with|.str p=>Y (dv (.bl (if j then !(!(Builtin.Str.occurrences z p 0 z.length 1).isEmpty) else !(Builtin.Str.occurrences z p 0 z.length 1).isEmpty)))|_=>False)
 |_=>False
def d8{K:W.Frag}{H:Hp}{O:List Addr}{d:D}{v:V}(h:View K H O d v)(f:Y0 d=true):dw v=true/\∀(e:D)(w:V),View K H O e w->Y0 e=true->eqV v w=eqD d e:=by
 cases d with
 |non=>cases (show v=_ from h);exact⟨rfl,λe w j q=>by cases e <;> first|(cases (show w=_ from j);rfl)|cases q⟩
 |bl b=>cases (show v=_ from h);exact⟨rfl,λe w j q=>by cases e <;> first|(cases (show w=_ from j);rfl)|cases q⟩
 |int b=>cases (show v=_ from h);exact⟨rfl,λe w j q=>by cases e <;> first|(cases (show w=_ from j);rfl)|cases q⟩
 |str b=>cases (show v=_ from h);exact⟨rfl,λe w j q=>by cases e <;> first|(cases (show w=_ from j);rfl)|cases q⟩
 |_=>cases f
theorem Wm{K:W.Frag}{H:Hp}{O:List Addr}{x:D}{v:V}(j:View K H O x v)(B:Y0 x=true):∀{l:List D}{xs:List V},Reps K H O l xs->l.all Y0=true->xs.all dw=true/\inV v xs=inD x l
 |[],_,r,_=>by cases r;exact⟨rfl,rfl⟩
 |d::l,xs,r,f=>by
  obtain⟨w,I,rfl,q,t⟩:=r;rw[List.all_cons,Bool.and_eq_true]at f;obtain⟨i1,i2⟩:=Wm j B t f.2;obtain⟨g1,g2⟩:=d8 q.view f.1;refine⟨by rw[List.all_cons,g1,i1];rfl,?_⟩
  unfold inV inD at *;rw[List.any_cons,List.any_cons,i2,g2 x v j B]
def Jt{K:W.Frag}{B:Bool}:ja K (λx y H Q=>(∃a kvs k,y=.ref a/\H a=some (.dK kvs)/\x=kV k/\Q (.bl (if B then !(valV kvs k).isSome else(valV kvs k).isSome)) H)\/rIn K B x y H Q\/∃i j,x=.str i/\y=.str j/\Q (.bl (if B then !(!(Builtin.Str.occurrences j i 0 j.length 1).isEmpty) else !(Builtin.Str.occurrences j i 0 j.length 1).isEmpty)) H) (sIn B):=by
 intro H O x y vx vy Y Q ho I N h k;unfold sIn at h;split at h
 ·split at h
  ·rename_i ks ds kk ek;obtain⟨a,xs,rfl,q,l,nd,r⟩:=N;refine .inl ⟨a,_,kk,rfl,q,Vz I ek,?_⟩;rw[Z5,Wl (by rw[l,r.length])]
   exact k _ _ H (Same.refl H) (by exact rfl) h
  exact h.elim
 ·obtain⟨M,Z,h⟩:=h;obtain⟨a,xs,rfl,q,r⟩:=N;obtain⟨g1,g2⟩:=Wm I M r Z;refine .inr (.inl ⟨a,xs,rfl,.inl (SqL.of q),(d8 I M).1,g1,?_⟩);rw[g2];exact k _ _ H (Same.refl H) (by exact rfl) h
 ·obtain⟨M,Z,h⟩:=h;obtain⟨a,xs,rfl,q,r⟩:=N;obtain⟨g1,g2⟩:=Wm I M r Z;refine .inr (.inl ⟨a,xs,rfl,.inr q.1,(d8 I M).1,g1,?_⟩);rw[g2];exact k _ _ H (Same.refl H) (by exact rfl) h
 ·split at h
  ·exact .inr (.inr ⟨_,_,I,N,k _ _ H (Same.refl H) (by exact rfl) h⟩)
  exact h.elim
 exact h.elim
def C4(hu:X.A.units+64<cLine)(B:ED L X a ta)(q:ED L X b tb)(j:behindInMarks .In b=false:=by with_unfolding_all rfl):ET L X (.Compare a [.In] [b] pos) (tBo (d2 (sIn false) ta tb)):=tw ((El (by omega)).or (Rt.or Rr)) Jt B q j
def sIxx:D->D->(EV->Prop)->Prop:=λx y Y=>match x with
 | .dk ks ds=>(match keyD y with
  | some k=>(match t5 ks ds k with
   |some d=>Y (dv d)
   | none=>False)
  | none=>False)
 |x=>sIx1 x y Y
def Wc(hu:X.A.units+1<cLine):IxR X (λx y H Q=>∃a j k v,x=.ref a/\H a=some (.dK j)/\y=kV k/\valV j k=some v/\Q v H):=by
 intro value B pn s G H x y v u Q I Z N h hs;obtain⟨a,j,k,w,rfl,ha,rfl,e,q⟩:=h;cases Z;have g:DGet H a (kV k) (some w):=by rw[<- e];exact DGet.k ha
 exact tail_any (Wz I g) PySem.F.slot_dict_getitem.lookup (Pi hu I g N λw' s' I' M=>⟨w,H,I',M,q⟩) hs
def Nc:ja X.K (λx y H Q=>rIx X.K x y H Q\/∃a kvs k v,x=.ref a/\H a=some (.dK kvs)/\y=kV k/\valV kvs k=some v/\Q v H) sIxx:=by
 intro H O x y N M Y Q ho I B h k;cases x with
 |dk ks ds =>
  obtain⟨a,xs,rfl,q,l,nd,r⟩:=I;unfold sIxx at h
  dsimp only at h
  split at h
  ·rename_i j ek;split at h
   ·rename_i d ed;obtain⟨v,ev,Z⟩:=(Yo (ks:=ks) (k:=j) r).1 d ed;exact .inr ⟨a,_,j,v,rfl,q,Vz B ek,by rw[Z5];exact ev,k _ _ H (Same.refl H) (RV.val Z) h⟩
   exact h.elim
  exact h.elim
 |_=>exact .inl (Jr H O _ y N M Y Q ho I B h k)
def zg(hu:X.A.units+64<cLine)(B:ED L X a ta)(q:ED L X b tb)(j:kz b:=by intro _ _;rfl):ED L X (.Subscript a b pos) (d2 sIxx ta tb):=λH_=>impE (gj (Ll.or (Wc (by omega))) (B H_) (q H_) j) (Ng Nc)
end
section
variable{te tk:TD}
def Ff(i:Nat)(tk te:TD):TDS:=λU Z=>match slot U i with
 | some ⟨.own,.dk ks ds⟩=>te U λr=>tk U λj=>(match r.k with|.own=>False|_=>True)/\ds.length<=100000/\(match keyD j.d with
  |some k=>Z.nx (setS U i (dO (.dk (kput ks k) (dput ks ds k r.d))))
  | none=>False)
 |_=>False
end
def XP(L:Hp->Prop)(X:Cx)(q:DE->Addr->Prop):Prop:=∀(H_:Hp),L H_->∀(U:DE)(o:List (Nat×Addr))(pn:List (Addr×Obj))(G:St)(H:Hp)(s:Shared)(e:Value)(s':Shared),Inv X pn G H s->REnv X.K H_ H G U o ->
 CX1 X.prog X.w X.stack H s (λj _ H'=>Same H H'/\∃C,j=.ref C/\q U C) e s'->X.xe e s'
def sj(r:Reps K H [] ds vs):REnv K H H (ZZ.start N vs) (wa N.length ds) []:=by
 have j:=r.length;refine⟨Same.refl H,(λ_ z=>absurd z (by simp)),(λ_ z=>absurd z (by simp)),(λ_ z=>absurd z (by simp)),List.nodup_nil,λi r' e=>?_,?_⟩
 ·unfold wa at e;rcases Nat.lt_or_ge i ds.length with hi|hi
  ·rw[List.getElem?_append_left (by simpa using hi),zai]at e
   have q:ds[i]?=some ds[i]:=by simp[hi]
   rw[q]at e;have M:some (dv ds[i])=some r':=Option.some.inj e;cases M;obtain⟨v,I,B⟩:=r.get q;refine⟨v,?_,.inl ⟨rfl,B⟩⟩;unfold ZZ.start;rw[List.getElem?_append_left (by rw[zLm,j];exact hi),zai,I]
   rfl
  rw[List.getElem?_append_right (by simpa using hi),List.getElem?_replicate]at e
  split at e <;> cases e
 unfold ZZ.start wa;simp[j]
def cp10(h0:0<=j)(h1:j<=1000):CPow 10 j=True:=by
 refine eq_true ⟨h0,by omega,by decide⟩
def Tw:((10:Int) ^ k=0)=False:=by
 refine eq_false ?_;have:(0:Int)<10 ^ k:=Int.pow_pos (by decide)
 omega
def Lp(h:j≠0)(h1:j.natAbs<=1000000000000):FdOk i j=True:=eq_true (fdOk (m:=64) h (PySem.intBits_le_iff.mpr (by omega)))
def dh(l:List D)(k:Nat):cutD l none (some (k:Int))=l.take k:=by
 unfold cutD;rw[ZZ.sIx_none,ZZ.sIx_nat,List.drop_zero,Nat.sub_zero];rw[List.take_eq_take_iff];omega
def Pk(l:List D)(k:Nat):cutD l (some (k:Int)) none=l.drop k:=by
 unfold cutD;rw[ZZ.sIx_none,ZZ.sIx_nat];by_cases h:k<=l.length
 ·rw[Nat.min_eq_left h,List.take_of_length_le (by simp)]
 rw[Nat.min_eq_right (by omega),List.drop_of_length_le (zaj _),List.drop_of_length_le (by omega)]
 simp
def Ue(l:List D)(j k:Nat):cutD l (some (j:Int)) (some (k:Int))=(l.drop j).take (k-j):=by
 unfold cutD;rw[ZZ.sIx_nat,ZZ.sIx_nat];by_cases h:j<=l.length
 ·rw[Nat.min_eq_left h,List.take_eq_take_iff,List.length_drop];omega
 rw[show min j l.length=l.length by omega,List.drop_of_length_le (zaj _),List.drop_of_length_le (by omega)]
 simp
def wu{α:Type}{l:List α}{i:Int}{x:α}(h0:0<=i)(h:l[i.toNat]?=some x):atI l i=some x:=by
 have:=Ye h
 rwa [Int.toNat_of_nonneg h0]at this
def gn(x m:Int)(h:0<m):0<=x.fmod m/\x.fmod m<m:=⟨Int.fmod_nonneg_of_pos x h,Int.fmod_lt_of_pos x h⟩
def K1{x:Int}(h:x.natAbs<2 ^ m):intBits x<=m:=PySem.intBits_le_iff.mpr h
def uf(ds:List D)(h:∀ Y:List D->Prop,Y ds->ti U Y)(P:Nat->DE->Prop)(h0:P 0 U)(q:∀ i d U,ds[i]?=some d->P i U->g d U λj=>tb j {Z with nx:=P (i+1),ct:=P (i+1),bk:=Z.nx})(B:∀ U,P ds.length U->Z.nx U):sFor ti g tb U Z:=h _ ⟨P,h0,q,B⟩
def wr(ds:List D)(h:∀ M:List D->Prop,M ds->ti U M)(f:D->Option D)(hl:ds.length<=100000)(B:∀ d∈ds,g d (ρ0 n js U) λj=>tc j λc=>(c=true->te j λr=>(match r.k with|.own=>False|_=>True)/\f d=some r.d)/\(c=false->f d=none))(q:Y (df (.lst (ds.filterMap f)))):Mh ti n js g tc te U Y:=h _ ⟨f,hl,B,q⟩
def ur{lo:Int}(h:(rngD lo n)[i]?=some d):i<n/\d=.int (lo+(i:Int)):=by
 unfold rngD at h;rw[zai]at h;cases e:(List.range n)[i]? with
 |none=>rw[e]at h;cases h
 |some m =>
  rw[e]at h;have hi:=(zag.mp e).1;rw[List.length_range]at hi;rw[List.getElem?_range hi]at e;cases e;cases h;exact⟨hi,rfl⟩
def vz{lo:Int}:(rngD lo n).length=n:=by unfold rngD;simp
def Ge{α q:Type}(f:α->q)(l:List α)(i:Int):atI (l.map f) i=(atI l i).map f:=by
 unfold atI;rw[zLm];cases ixN l.length i with
 |none=>rfl
 |some j=>simp
def ug(I:X.K=K0)(B:X.calm=true)(h:PGs X es t)(q:(assignEach es X.env).length=n:=by rfl)(j:(assignEach es X.env).findIdx? (·.1)=none:=by rfl):PG X (.Tuple es k pos) (gTup K0 n t):=by
 subst I;exact Eb B h q j
def zipD(xs ys:List D):List D:=List.zipWith (λx y=>D.tup [x,y]) xs ys
def seqD:D->Option (List D)
 |.lst ds=>some ds
 |.tup ds=>some ds
 |.scr ns=>some (ns.map D.int)
 |_=>none
def Od:seqD (.lst ds)=some ds:=rfl
def Ob:seqD (.tup ds)=some ds:=rfl
def Oc:seqD (.scr ns)=some (ns.map D.int):=rfl
def SeqP(b:Bool)(K:W.Frag)(H:Hp)(O:List Addr)(l:Addr)(d:D):Prop:=match d with
 |.lst ds=>b=false/\∃xs,H l=some (.lst xs)/\l∉O/\Reps K H O ds xs
 |.tup ds=>b=true/\∃xs,SqT K H l xs/\Reps K H O ds xs
 |.scr ns=>b=false/\Scr K H l ns
 |_=>False
def SeqP.of{K:W.Frag}{H:Hp}{O:List Addr}{d:D}{v:V}{ds:List D}(h:Rep K H O d v)(e:seqD d=some ds):∃b l,v=.ref l/\SeqP b K H O l d:=by
 cases d with
 |lst es=>obtain⟨a,xs,rfl,q,n,r⟩:=h;exact⟨false,a,rfl,rfl,xs,q,n,r⟩
 |tup es=>obtain⟨a,xs,rfl,q,r⟩:=h;exact⟨true,a,rfl,rfl,xs,q.1,r⟩
 |scr ns=>obtain⟨a,rfl,q⟩:=h;exact⟨false,a,rfl,rfl,q⟩
 |_=>cases e
def SeqP.sq{b:Bool}{K:W.Frag}{H:Hp}{O:List Addr}{l:Addr}{d:D}{ds:List D}(h:SeqP b K H O l d)(e:seqD d=some ds):∃xs,SqK b K H l xs/\Reps K H O ds xs:=by
 cases d with
 |lst es=>obtain⟨rfl,xs,q,n,r⟩:=h;cases e;exact⟨xs,SqL.of q,r⟩
 |tup es=>obtain⟨rfl,xs,q,r⟩:=h;cases e;exact⟨xs,q,r⟩
 |scr ns=>obtain⟨rfl,q⟩:=h;cases e;exact⟨_,q.seq,Reps.ints ns⟩
 |_=>cases e
theorem SeqP.grow{b:Bool}{K:W.Frag}{H H':Hp}{O O':List Addr}{l:Addr}{d:D}(h:SeqP b K H O l d)(g:Grow O O' H H'):SeqP b K H' O' l d:=by
 cases d with
 |lst es=>obtain⟨rfl,xs,q,n,r⟩:=h;exact⟨rfl,xs,(g.keep _ _ q n).1,(g.keep _ _ q n).2,Reps.grow g _ _ r⟩
 |tup es=>obtain⟨rfl,xs,q,r⟩:=h;exact⟨rfl,xs,Zc g q,Reps.grow g _ _ r⟩
 |scr ns=>obtain⟨rfl,q⟩:=h;exact⟨rfl,jo g q⟩
 |_=>exact h.elim
def Dk{K:W.Frag}{b1 b2:Bool}{l1 l2:Addr}{d1 d2:D}{xs ys:List D}(e1:seqD d1=some xs)(e2:seqD d2=some ys):ItD K (Itz b1 b2 K l1 l2) (zipD xs ys) (λH O=>SeqP b1 K H O l1 d1/\SeqP b2 K H O l2 d2) where
 go:=λH O i d ⟨B,p2⟩ e=>by
  obtain⟨us,M,r1⟩:=B.sq e1;obtain⟨vs,I,Z⟩:=p2.sq e2;unfold zipD at e;rw[List.getElem?_zipWith]at e;cases ex:xs[i]? with
  |none=>rw[ex]at e;cases e
  |some x =>
   cases ey:ys[i]? with
   |none=>rw[ex,ey]at e;cases e
   |some y =>
    rw[ex,ey]at e;cases e;obtain⟨u,eu,ru⟩:=r1.get ex;obtain⟨v,ev,rv⟩:=Z.get ey;refine⟨⟨us,vs,u,v,M,I,eu,ev⟩,λz H' yl=>?_⟩;obtain⟨T,u',v',hT,rfl,q,j,rfl⟩:=yl;have q:=q _ M;have j:=j _ I;rw[eu]at q;rw[ev]at j;cases q;cases j;have N:Same H (upd H T (.tup [u,v])):=λb w hb=>by rw[y0 (zo hb hT)];exact hb
    refine⟨N,T,[u,v],rfl,⟨.inl (.inl zm),zm⟩,?_⟩;exact⟨u,[v],rfl,Rep.grow (Grow.same N) _ _ ru,v,[],rfl,Rep.grow (Grow.same N) _ _ rv,rfl⟩
 stop:=λH O ⟨B,p2⟩=>by
  obtain⟨us,M,r1⟩:=B.sq e1;obtain⟨vs,I,Z⟩:=p2.sq e2;refine⟨us,vs,M,I,?_⟩;have h1:=r1.length;have h2:=Z.length;unfold zipD;rw[List.length_zipWith,h1,h2];omega
 keep:=λO O' H H' ⟨B,p2⟩ g=>⟨B.grow g,p2.grow g⟩
def iZ(t:TDs):TID:=λU Y=>t U λrs=>match rs with
 |[⟨k1,d1⟩,⟨k2,d2⟩]=>(match k1 with|.own=>False|_=>True)/\(match k2 with|.own=>False|_=>True)/\match seqD d1,seqD d2 with
  |some xs,some ys=>Y (zipD xs ys)
  |_,_=>False
 |_=>False
def C8{es:List Expr}{kk:Nat}{tp:Pos}{a b:Expr}{t:TDs}{p pos:Pos}(hm:X.mg "zip" = none)(ha:EA L X [a,b] t)(hg:Gl X "zip":=by rfl)(he:starEach [a,b] X.env=(false,eval a X.env)::starEach [b] X.env:=by rfl)(I:(backTo pos (starEach [b] X.env)).any (·.1)=false:=by rfl):EI L X (.Tuple es kk tp) (.Call (.Name "zip" p) [a,b] [] pos) (iZ t):=λH_=>impI (Ea hg hm (ha H_) he I) λG H R q=>by
 obtain⟨U,o,RE,Y,B,k⟩:=q;refine⟨U,o,RE,_,B,λvs rs H1 s1 j h1=>?_⟩;split at h1
 ·rename_i k1 d1 k2 d2;obtain⟨n1,n2,h1⟩:=h1;obtain⟨v1,w1,rfl,q1,v2,w2,rfl,q2,rfl⟩:=j;have p1:=q1.solid (ub n1);have p2:=q2.solid (ub n2);split at h1
  ·rename_i xs ys e1 e2;obtain⟨b1,l1,rfl,N⟩:=SeqP.of p1 e1;obtain⟨b2,l2,rfl,M⟩:=SeqP.of p2 e2;obtain⟨us,y1,_⟩:=N.sq e1;obtain⟨ws,Z,_⟩:=M.sq e2;exact⟨b1,b2,l1,l2,us,ws,rfl,y1,Z,k _ _ _ H1 s1 (Dk e1 e2) ⟨N,M⟩ h1⟩
  exact h1.elim
 exact h1.elim
theorem Qk:∀{ns:List Int}{its:List Value},Vals (ns.map V.int) its->∃xs:List (Int×Tok),its=xs.map (λp=>Value.int p.1 p.2)/\xs.map (·.1)=ns
 |[],_,h=>by cases h;exact⟨[],rfl,rfl⟩
 |n::ns,_,h=>by
  cases h with
  |cons r t =>
   obtain⟨xs,e1,e2⟩:=Qk t;obtain⟨tk,rfl⟩:=r;exact⟨(n,tk)::xs,by rw[e1];rfl,by rw[<- e2];rfl⟩
def Pn(Z:X.calm=true):ux X (.builtin "sum") (λxs H Q=>∃(p:Addr)(ns:List Int),xs=[.ref p]/\SqL X.K H p (ns.map V.int)/\Q (.int ns.sum) H):=by
 intro pn s G H xs us Q I r h;obtain⟨p,ns,rfl,M,q⟩:=h;obtain⟨u,rfl,j⟩:=jw r;cases j;obtain⟨its,B,pl,hz⟩:=I.list M;obtain⟨xs,e1,e2⟩:=Qk B;have hl:s.heap.IsList p (intItems xs.toArray):=by
  have:=pl.isList;rw[e1]at this;unfold intItems;simpa using this
 refine sum_intListG (I.ok.hd Z) hl λh' tk t' N=>?_;rw[preSum_eq,List.take_of_length_le (by simp)]
 rw[show xs.toArray.toList.map (·.1)=ns from e2];exact⟨.int ns.sum,H,I.kept (t':=tk) N,⟨t',rfl⟩,q⟩
def Zu:List D->Option (List Int)
 |[]=>some []
 |.int n::r=>(Zu r).map (n::·)
 |_::_=>none
theorem U1:∀{ds:List D}{ns:List Int},Zu ds=some ns->ds=ns.map D.int
 |[],ns,h=>by cases h;rfl
 |d::r,ns,h=>by
  cases d with
  |int n =>
   cases e:Zu r with
   |none=>unfold Zu at h;rw[e]at h;cases h
   |some ms =>
    unfold Zu at h;rw[e]at h;cases h;rw[U1 e];rfl
  |_=>cases h
theorem fq:∀(ns:List Int),Zu (ns.map D.int)=some ns
 |[]=>rfl
 |n::ns=>by rw[List.map_cons,Zu,fq ns];rfl
theorem Yp{K:W.Frag}{H:Hp}{O:List Addr}:∀{ns:List Int}{xs:List V},Reps K H O (ns.map D.int) xs->xs=ns.map V.int
 |[],_,h=>h
 |n::ns,xs,h=>by
  obtain⟨v,r,rfl,q,t⟩:=h;rw[Yp t];cases (show v=_ from q);rfl
def sSum:FT:=λds Y=>match ds with
 |[.lst l]=>match Zu l with
  |some ns=>Y (dv (.int ns.sum))
  |none=>False
 |_=>False
def Hw{e:Expr}{es:List Expr}{t:TDs}{p pos:Pos}(I:X.mg "sum" = none)(ha:EA L X (e::es) t)(Z:X.calm=true:=by rfl)(M:Gl X "sum":=by rfl)(N:S_ X e es:=by rfl)(j:B_ X es pos:=by rfl):ED L X (.Call (.Name "sum" p) (e::es) [] pos) (dCB sSum t) :=
 qy (Pn Z) (λH O ds vs Y Q ho B h k=>by
  unfold sSum at h;split at h
  ·rename_i l;split at h
   ·rename_i ns en;obtain⟨v,ws,rfl,⟨a,xs,rfl,q,r⟩,rfl⟩:=B;have el:=U1 en;subst el;have:=Yp r;subst this;exact⟨a,ns,rfl,SqL.of q,k _ _ H (Same.refl H) (by exact rfl) h⟩
   exact h.elim
  exact h.elim) I (by kernel_rfl) ha M (by decide) (by decide) N j
def frzS:DE->Nat->DE
 |[],_=>[]
 |x::r,0=>x.map (λr=>dv r.d)::r
 |x::r,i+1=>x::frzS r i
theorem U3:∀(U:DE)(i j:Nat),(frzS U i)[j]?=if j=i then U[j]?.map (λx=>x.map λr=>dv r.d) else U[j]?
 |[],i,j=>by simp[frzS]
 |x::r,0,0=>rfl
 |x::r,0,j+1=>by simp[frzS]
 |x::r,i+1,0=>by simp[frzS]
 |x::r,i+1,j+1=>by
  have:=U3 r i j;simp only[frzS,List.getElem?_cons_succ,this];by_cases h:j=i
  ·simp[h]
  rw[if_neg h,if_neg (by omega)]
theorem U2:∀(U:DE)(i:Nat),(frzS U i).length=U.length
 |[],_=>rfl
 |_::_,0=>rfl
 |x::r,i+1=>by simp[frzS,U2 r i]
def REnv.frz1{K:W.Frag}{H_ H:Hp}{G:St}{U:DE}{o:List (Nat×Addr)}(R:REnv K H_ H G U o)(i:Nat):∃o',REnv K H_ H G (frzS U i) o'/\∀p∈o',p∈o:=by
 refine⟨o.filter λp=>decide (p.1≠i),?_,λp I=>(List.mem_filter.mp I).1⟩;have sub:∀p∈o.filter (λp=>decide (p.1≠i)),p∈o:=λp I=>(List.mem_filter.mp I).1;have B:∀a∈(o.filter (λp=>decide (p.1≠i))).map Prod.snd,a∈o.map Prod.snd:=λa Z=>by
  obtain⟨p,I,e⟩:=zah.mp Z;exact zah.mpr ⟨p,sub p I,e⟩
 exact {
  same:=R.same
  fresh:=λp I=>R.fresh p (sub p I)
  trk:=λp I=>R.trk p (sub p I)
  mtb:=λp I=>R.mtb p (sub p I)
  nda:=List.Nodup.sublist (List.Sublist.map _ List.filter_sublist) R.nda
  len:=by rw[U2];exact R.len
  slots:=λj r e=>by
   rw[U3]at e;by_cases hj:j=i
   ·rw[if_pos hj]at e;cases e1:U[j]? with
    |none=>rw[e1]at e;cases e
    |some x =>
     rw[e1]at e;cases x with
     |none=>cases e
     |some r' =>
      have e':some (dv r'.d)=some r:=Option.some.inj e;cases e';obtain⟨v,N,q⟩:=R.slots j r' e1;refine⟨v,N,.inl ⟨rfl,?_⟩⟩;rcases q with⟨_,q⟩|⟨_,a,rfl,m,c⟩
      ·exact Rep.sub B _ _ q
      refine(c.sub B).rep λz=>?_;obtain⟨p,I,ep⟩:=zah.mp z;have:=Zw R.nda (sub p I) m ep;have M:=of_decide_eq_true (List.mem_filter.mp I).2;rw[this]at M;exact M hj
   rw[if_neg hj]at e;obtain⟨v,N,q⟩:=R.slots j r e;refine⟨v,N,?_⟩;rcases q with⟨k,q⟩|⟨k,a,e1,m,c⟩
   ·exact .inl ⟨k,Rep.sub B _ _ q⟩
   exact .inr ⟨k,a,e1,List.mem_filter.mpr ⟨m,decide_eq_true hj⟩,c.sub B⟩}
def sFrz(i:Nat)(t:TDS):TDS:=λU Z=>t (frzS U i) Z
def ut(i:Nat){X:Cx}{st:Stmt}{t:TDS}(h:SD L X st t):SD L X st (sFrz i t):=λH_=>impS (h H_) λD G H h=>by
 obtain⟨U,o,R,Z,hZ,k1,k2,N,M⟩:=h;obtain⟨o',R',sub⟩:=R.frz1 i;have g:Grow (o.map Prod.snd) (o'.map Prod.snd) H H:=⟨λb u h n=>⟨h,λz=>n (by
  obtain⟨p,hp,e⟩:=zah.mp z;exact zah.mpr ⟨p,sub p hp,e⟩)⟩,λb xs h=>h,λb ob u h=>h⟩
 exact⟨_,o',R',Z,hZ,λq j H2 I g2 R2 B=>k1 q j H2 I (g.trans g2) R2 B,λq j H2 I g2 R2 B=>k2 q j H2 I (g.trans g2) R2 B,λq j H2 I g2 R2 B=>N q j H2 I (g.trans g2) R2 B,M⟩
section
variable{x:Str}{e ke:Expr}{te tk:TD}{np pos pos':Pos}
def Sn(i:Nat)(tk te:TD):TDS:=λU Z=>match slot U i with
 | some ⟨.own,.lst ds⟩=>te U λr=>tk U λq=>(match r.k with|.own=>False|_=>True)/\(match q.d with
  | .int k=>(match ixN ds.length k with
   |some j=>Z.nx (setS U i (dO (.lst (ds.set j r.d))))
   | none=>False)
  | _=>False)
 |_=>False
def Sk(i:Nat)(hu:X.A.units+64<cLine)(hk:ED L X ke tk)(he:ED L X e te)(hN:X.N[i]?=some x:=by rfl)(hv:Vis X.env.scope x:=by walk_at "o")(hd:D_ x:=by decide)(a6:(x==("__classdict__" : Str))=false:=by decide)(hs:swapsWithSole [.Subscript (.Name x np) ke pos'] e pos.line X.env=pure false:=by rfl)(hw:swappedStores [.Subscript (.Name x np) ke pos'] e X.env=pure none:=by rfl)(h1:(assignEach [.Subscript (.Name x np) ke pos'] X.env).map (·.2)=[assign (.Subscript (.Name x np) ke pos') X.env]:=by rfl)(ha:∀ v,assign (.Subscript (.Name x np) ke pos') X.env v=(do
   let I <- holding [v] (eval (.Name x np) X.env)
   let iv <- holding [v,I] (eval ke X.env)
   standAt pos'
   holding [v,I,iv] (setItem I iv v)
   release [v,I,iv] []):=by intro _;rfl):SD L X (.Assign [.Subscript (.Name x np) ke pos'] e pos) (Sn i tk te):=λH_ =>
 impS (Yr (he H_) (Re (uu hN hv hd a6) (hk H_) Zf ha) hs hw h1) λD G H h=>by
  obtain⟨U,o,R,Z,M,k1,k2,k3,k4⟩:=h;unfold Sn at M;split at M
  ·rename_i ds es;obtain⟨v0,B,q0⟩:=R.slots i _ (vd es);rcases q0 with⟨k,_⟩|⟨_,a,rfl,m,c⟩
   ·cases k
   obtain⟨xs,hx,rx⟩:=c;refine⟨U,o,R,_,M,λv r H1 s1 rv h1=>⟨.ref a,B,U,o,R.to s1,_,h1,λv2 r2 H2 s2 a4 h2=>?_⟩⟩;obtain⟨h0,h2⟩:=h2;have vw:=a4.view;split at h2
   ·rename_i k ek;rw[ek]at vw;cases (show v2=_ from vw);split at h2
    ·rename_i j ej;have q:=s1.trans s2;have a5:=q _ _ hx;have a0:=Reps.grow (Grow.same q) _ _ rx;refine⟨a,xs,k,j,rfl,rfl,a5,by rw[rx.length];exact ej,?_⟩
     obtain⟨R3,g3⟩:=(R.to q).chg (d':=.lst (ds.set j r.d)) (ho:=.lst (xs.set j v)) (vd es) B m ⟨λ_ z=>(by cases z),λ_ _ z=>(by cases z)⟩ λgr =>
      ⟨xs.set j v,zm,gr _ _ (a0.set j ((rv.same s2).solid (ub h0)))⟩
     exact k1 _ G _ o ((Grow.same q).trans g3) R3 h2
    exact h2.elim
   exact h2.elim
  exact M.elim
end
def blsD:List D->Option (List Bool)
 |[]=>some []
 |.bl b::r=>(blsD r).map (b::·)
 |_::_=>none
theorem Pr:∀{ds:List D}{bs:List Bool},blsD ds=some bs->ds=bs.map D.bl
 |[],bs,h=>by cases h;rfl
 |d::r,bs,h=>by
  cases d with
  |bl n =>
   cases e:blsD r with
   |none=>unfold blsD at h;rw[e]at h;cases h
   |some ms =>
    unfold blsD at h;rw[e]at h;cases h;rw[Pr e];rfl
  |_=>cases h
theorem Yd:∀(bs:List Bool),blsD (bs.map D.bl)=some bs
 |[]=>rfl
 |b::bs=>by rw[List.map_cons,blsD,Yd bs];rfl
theorem Vh{K:W.Frag}{H:Hp}{O:List Addr}:∀{bs:List Bool}{xs:List V},Reps K H O (bs.map D.bl) xs->xs=bs.map V.bl
 |[],_,h=>h
 |n::bs,xs,h=>by
  obtain⟨v,r,rfl,q,t⟩:=h;rw[Vh t];cases (show v=_ from q);rfl
section
variable{e:Expr}{es:List Expr}{t:TDs}{p pos:Pos}
def Oe(g:List Bool->Bool):FT:=λds Y=>match ds with
 |[.lst l]=>match blsD l with
  |some bs=>Y (dv (.bl (g bs)))
  |none=>False
 |_=>False
def Nd{f:List V->Bool}{g:List Bool->Bool}(I:∀ bs:List Bool,f (bs.map V.bl)=g bs):Pu X.K (rAll X.K f) (Oe g):=by
 intro H O ds vs Y Q ho B h k;unfold Oe at h;split at h
 ·rename_i l;split at h
  ·rename_i bs M;obtain⟨v,Z,rfl,⟨a,xs,rfl,q,r⟩,rfl⟩:=B;have N:=Pr M;subst N;have:=Vh r;subst this;refine⟨a,_,rfl,.inl (SqL.of q),λy j=>?_,?_⟩
   ·obtain⟨b,_,rfl⟩:=zah.mp j;rfl
   rw[I];exact k _ _ H (Same.refl H) (by exact rfl) h
  exact h.elim
 exact h.elim
def Pf(q:X.mg "all" = none)(N:EA L X (e::es) t)(M:X.calm=true:=by rfl)(B:Gl X "all":=by rfl)(I:S_ X e es:=by rfl)(j:B_ X es pos:=by rfl):ED L X (.Call (.Name "all" p) (e::es) [] pos) (dCB (Oe λbs=>bs.all id) t) :=
 qy (Xl M) (Nd λbs=>by
  induction bs with
  |nil=>rfl
  | cons b bs ih=>rw[List.map_cons,List.all_cons,List.all_cons,ih];cases b <;> rfl) q (by kernel_rfl) N B (by decide) (by decide) I j
end
def cat_tup0{t b:Addr}{Z:List Value}{Q:Value->Shared->Prop}(ht:IsTup s.heap t #[])(hb:IsTup s.heap b Z.toArray)(h1:Q (.ref b) s):wpAny (model prog w) A (binaryOp .Add (.ref t) (.ref b)) Q E s:=by
 obtain⟨⟨a5,dd,a0,sl⟩,ho,hc,n,hd⟩:=id ht;obtain⟨⟨a4,M,N,I⟩,j,B,n2,q⟩:=id hb;simp only at hc hd B q;subst hc hd B q;exact concat_meets ⟨_,ho,rfl⟩ ⟨_,j,rfl⟩ noFill_tuple_add seq_tuple_add PySem.F.slot_tuple_add PySem.F.entry_tuple_add (PySem.F.args_tuple_add_2 _ _)
   (tuple_addW0 t b #[] Z.toArray n n2 dd M sl I (by simp)) ⟨ho,j,h1⟩
def Fo(K:W.Frag):R2:=λx y H Q=>∃a b ys,x=.ref a/\y=.ref b/\SqT K H a []/\SqT K H b ys/\Q (.ref b) H
def N5:OpR X (binaryOp .Add) (Fo X.K):=by
 intro pn s G H x y v u Q I M B h;obtain⟨a,b,ys,rfl,rfl,ha,hb,q⟩:=h;cases M;cases B;obtain⟨its,N,Z,_⟩:=I.tuple ha;obtain⟨j,r2,p2,_⟩:=I.tuple hb;cases N;exact ZZ.cat_tup0 Z p2 ⟨.ref b,H,I,rfl,q⟩
def RV.anew{K:W.Frag}{H0 H:Hp}{O:List Addr}{r:EV}{v:V}(h:RV K H0 H O r v)(p:qf r):RepN K H (λa=>a∉O/\H0 a=none) r.d v:=by
 obtain⟨k,d⟩:=r;cases k with
 |val=>exact Rep.toN _ _ p h
 |own=>exact p.elim
 |new=>exact h
 |fre =>
  obtain⟨a,rfl,m,n,c⟩:=h;cases d with
  |lst ds=>obtain⟨xs,q,r⟩:=c;exact⟨a,xs,rfl,q,⟨n,m⟩,Reps.toN _ _ p r⟩
  |dk ks ds=>obtain⟨xs,q,l,j,r⟩:=c;exact⟨a,xs,rfl,q,⟨n,m⟩,l,j,Reps.toN _ _ p r⟩
  |_=>exact c.elim
section
variable{a b e:Expr}{es:List Expr}{t:TDs}{ta tb te tk:TD}{pos:Pos}
def Cg(ta tb:TD):TD:=λU Y=>ta U λx=>tb U λy=>match x.d,y.d with
 |.tup p,.tup q=>qf x/\qf y/\p.length+q.length<=sizeLine/\Y ⟨.new,.tup (p++q)⟩
 |_,_=>False
def Hz(ha:ED L X a ta)(hb:ED L X b tb):ED L X (.BinOp a .Add b pos) (Cg ta tb):=λH_=>impE (Uv (Ru.or N5) (ha H_) (hb H_)) λG H Q q=>by
 obtain⟨U,o,R,Y,a0,k⟩:=q;refine⟨U,o,R,_,a0,λv1 B H1 s1 N h1=>⟨U,o,R.to s1,_,h1,λv2 j H2 s2 M h2=>?_⟩⟩;have n1:=λp=>(N.same s2).anew p;have n2:=λp=>(M.start s1).anew p;obtain⟨k1,d1⟩:=B;obtain⟨k2,d2⟩:=j;cases d1 with
 |tup p =>
  cases d2 with
  |tup q =>
   obtain⟨p1,p2,hl,I⟩:=h2;obtain⟨a1,xs,rfl,q1,B⟩:=n1 p1;obtain⟨a2,ys,rfl,Z,j⟩:=n2 p2;have l1:=B.length;have l2:=j.length;cases p with
   |nil =>
    have e:xs=[]:=List.eq_nil_of_length_eq_zero l1;subst e;exact .inr ⟨a1,a2,ys,rfl,rfl,q1.1,Z.1,k _ ⟨.new,.tup q⟩ H2 (s1.trans s2) ⟨a2,ys,rfl,Z,j⟩ I⟩
   |cons d p =>
    refine .inl ⟨a1,a2,xs,ys,rfl,rfl,q1.1,Z.1,(λz=>by subst z;cases l1),by rw[l1,l2];exact hl,λz=>?_,λz p' hp=>?_⟩
    ·subst z;have e:q=[]:=List.eq_nil_of_length_eq_zero l2.symm;subst e;rw[List.append_nil]at I;exact k _ ⟨.new,.tup (d::p)⟩ H2 (s1.trans s2) ⟨a1,xs,rfl,q1,B⟩ I
    exact k _ ⟨.new,.tup (d::p++q)⟩ _ ((s1.trans s2).trans (yf hp _)) ⟨p',xs++ys,rfl,⟨SqT.of zm,zm⟩,xn.to (yf hp _) (λ_ z=>z) _ _ (B.append j)⟩ I
  |_=>exact h2.elim
 |_=>exact h2.elim
def A0(t:TDs)(tk:TD):TD:=λU Y=>t U λrs=>Nat.ble rs.length 1000=true/\tk U λj=>match j.d with
 |.int k=>match atI rs k with
  |some r=>Y r
  |none=>False
 |_=>False
def popD(ds:List D):Option (List D×D):=match ds.getLast? with
 |some d=>some (ds.dropLast,d)
 |none=>none
def Vp(ds:List D)(d:D):popD (ds++[d])=some (ds,d):=by
 unfold popD;simp
def J4(h:popD ds=some (ds',d)):ds=ds'++[d]:=by
 unfold popD at h;split at h
 ·rename_i x e;cases h;obtain⟨y,j⟩:=List.getLast?_eq_some_iff.mp e;rw[j];simp
 cases h
def Oj{K:W.Frag}{H:Hp}{O:List Addr}{ds j:List D}{d:D}{xs:List V}(r:Reps K H O ds xs)(h:popD ds=some (j,d)):∃y,xs[xs.length-1]?=some y/\Rep K H O d y/\Reps K H O j xs.dropLast:=by
 have e:=J4 h;subst e;have l:=r.length;rw[zLa]at l;obtain⟨y,B,q⟩:=r.get (i:=j.length) (d:=d) (by simp)
 refine⟨y,by rw[l];simpa using B,q,?_⟩
 have:=r.dropLast;simpa using this
def sPop(i j:Nat):TDS:=λU Z=>match slot U i with
 |some ⟨.own,.lst ds⟩=>match popD ds with
  |some (ds',d)=>Z.nx (setS (setS U i (dO (.lst ds'))) j (dv d))
  |none=>False
 |_=>False
def Mz(i j:Nat){x y:Str}(hN:X.N.Nodup)(hi:X.N[i]?=some x:=by rfl)(hj:X.N[j]?=some y:=by rfl)(hy:Loc X.env.scope y:=by first|exact Or.inl rfl|exact Or.inr rfl)(hv:Vis X.env.scope x:=by walk_at "o")(hd:D_ x:=by decide)(M:(x==("__classdict__" : Str))=false:=by decide)(hp:∀ {ta:TE},X.N.Nodup->PE X (.Name x np) ta->PS X (.Assign [.Name y pos'] (.Call (.Attribute (.Name x np) "pop" apos) [] [] cpos) pos) (tAsg (tBM0 X.K "list" rPop ta) (wt j)):=by
   intro ta hN h1;exact gh hN rfl (by walk_at "o") (La PySem.F.plainAttrs_list PySem.F.slot_list_pop PySem.F.type_list_pop Li h1)) :
  SD L X (.Assign [.Name y pos'] (.Call (.Attribute (.Name x np) "pop" apos) [] [] cpos) pos) (sPop i j):=λH_=>impS (hp hN (uu hi hv hd M)) λD G H h=>by
 obtain⟨U,o,R,Z,q,k1,k2,k3,k4⟩:=h;unfold sPop at q;split at q
 ·rename_i ds es;obtain⟨v0,B,q0⟩:=R.slots i _ (vd es);rcases q0 with⟨k,_⟩|⟨_,a,rfl,m,c⟩
  ·cases k
  obtain⟨xs,hx,rx⟩:=c;split at q
  ·rename_i a0 d ep;obtain⟨yv,ey,I,rd⟩:=Oj rx ep;obtain⟨R2,g2⟩:=R.chg (d':=.lst a0) (ho:=.lst xs.dropLast) (vd es) B m ⟨λ_ z=>(by cases z),λ_ _ z=>(by cases z)⟩ λgr=>⟨xs.dropLast,zm,gr _ _ rd⟩
   refine⟨.ref a,B,.inl ⟨rfl,xs,SqL.of hx⟩,a,xs,yv,rfl,rfl,hx,ey,?_⟩;exact k1 _ _ _ o g2 (R2.setV j (Rep.grow g2 _ _ I)) q
  exact q.elim
 exact q.elim
def sExt(i:Nat)(t:TDs):TDS:=λU Z=>match slot U i with
 |some ⟨.own,.lst ds⟩=>t U λrs=>jy rs=true/\Nat.ble rs.length 1000=true/\ds.length<=100000/\Z.nx (setS U i (dO (.lst (ds++rs.map EV.d))))
 |_=>False
def Ym(i:Nat){x:Str}(h:EA L X es t)(hi:X.N[i]?=some x:=by rfl)(hv:Vis X.env.scope x:=by walk_at "o")(hd:D_ x:=by decide)(a7:(x==("__classdict__" : Str))=false:=by decide)(hp:∀ {ta:TE} {tc:TA},PE X (.Name x np) ta->PA X es tc->PS X (.Expr (.Call (.Attribute (.Name x np) "extend" apos) [.List es lpos] [] cpos) pos)
    (Ur (tBM X.K "list" W4 ta (Sb (tLst tc) tNil))):=by
   intro ta tc h1 h3;exact rj (Ro PySem.F.plainAttrs_list PySem.F.slot_list_extend PySem.F.type_list_extend Yu h1 (u0 (L8 h3) sw))) :
  SD L X (.Expr (.Call (.Attribute (.Name x np) "extend" apos) [.List es lpos] [] cpos) pos) (sExt i t):=λH_=>impS (hp (uu hi hv hd a7) (h H_)) λD G H h=>by
 obtain⟨U,o,R,Z,hZ,k1,k2,k3,k4⟩:=h;unfold sExt at hZ;split at hZ
 ·rename_i ds a0;obtain⟨v0,M,q0⟩:=R.slots i _ (vd a0);rcases q0 with⟨k,_⟩|⟨_,a,rfl,m,c⟩
  ·cases k
  obtain⟨xs,hx,rx⟩:=c;refine⟨.ref a,M,.inl ⟨rfl,xs,SqL.of hx⟩,?_⟩;refine⟨U,o,R,_,hZ,λvs rs H1 s1 q h1=>?_⟩;obtain⟨a5,I,hl,hn⟩:=h1;have l1:=q.length;have B:=Nat.le_of_ble_eq_true I;refine⟨by rw[l1];exact wm I,λp a6=>?_⟩
  have s2:=yf a6 (.lst vs);have j:=s1.trans s2;have R1:=R.to j;have a4:=Reps.grow (Grow.same j) _ _ rx;refine⟨a,p,xs,vs,rfl,rfl,j _ _ hx,zm,?_,?_⟩
  ·rw[rx.length,l1];exact zak (Nat.add_le_add hl B) (by decide)
  obtain⟨R2,g2⟩:=R1.chg (d':=.lst (ds++rs.map EV.d)) (ho:=.lst (xs++vs)) (vd a0) M m ⟨λ_ z=>(by cases z),λ_ _ z=>(by cases z)⟩ λgr=>⟨xs++vs,zm,gr _ _ (a4.append (Reps.grow (Grow.same s2) _ _ (q.reps (sf a5))))⟩
  exact k1 _ G _ o ((Grow.same j).trans g2) R2 hn
 exact hZ.elim
def sAug(i:Nat)(te:TD):TDS:=λU Z=>match slot U i with
 |some ⟨.val,.int a⟩=>te U λr=>match r.d with
  |.int b=>Z.nx (setS U i (dv (.int (a+b))))
  |_=>False
 |_=>False
def Fb(i:Nat){x:Str}(hN:X.N.Nodup)(he:ED L X e te)(hi:X.N[i]?=some x:=by rfl)(hx:Loc X.env.scope x:=by first|exact Or.inl rfl|exact Or.inr rfl)(hf:X.fn x=true\/X.env.scope.names.lookup x=some .local:=by first|exact .inl rfl|exact .inr rfl|assumption):SD L X (.AugAssign (.Name x pos') .Add e pos) (sAug i te):=λH_=>impS (E8 hN hi hx (he H_) Dr hf) λD G H h=>by
 obtain⟨U,o,R,Z,j,k1,k2,k3,k4⟩:=h;unfold sAug at j;split at j
 ·rename_i a I;obtain⟨v0,B,q⟩:=R.slots i _ (vd I);rcases q with⟨_,q⟩|⟨k,_⟩
  ·cases (show v0=_ from q)
   refine⟨.int a,B,U,o,R,_,j,λv r H1 s1 rv h1=>?_⟩;have M:=rv.view;split at h1
   ·rename_i b eb;rw[eb]at M;cases (show v=_ from M);exact⟨a,b,rfl,rfl,k1 _ _ _ o (Grow.same s1) ((R.to s1).setV i (d:=.int (a+b)) (by exact rfl)) h1⟩
   exact h1.elim
  cases k
 exact j.elim
end
def g1(g:D->(EV->Prop)->Prop):FT:=λds Y=>match ds with
 |[d]=>g d Y
 |_=>False
def g2(g:D->D->(EV->Prop)->Prop):FT:=λds Y=>match ds with
 |[d,e]=>g d e Y
 |_=>False
def g3(g:D->D->D->(EV->Prop)->Prop):FT:=λds Y=>match ds with
 |[d,e,f]=>g d e f Y
 |_=>False
def Ww(h:g1 g ds Y):∃d,ds=[d]/\g d Y:=by
 unfold g1 at h;split at h
 ·exact⟨_,rfl,h⟩
 exact h.elim
def P6(h:g2 g ds Y):∃d e,ds=[d,e]/\g d e Y:=by
 unfold g2 at h;split at h
 ·exact⟨_,_,rfl,h⟩
 exact h.elim
def Bw(h:g3 g ds Y):∃d e f,ds=[d,e,f]/\g d e f Y:=by
 unfold g3 at h;split at h
 ·exact⟨_,_,_,rfl,h⟩
 exact h.elim
def O9:FT:=λds Y=>match ds with
 |[.scr ns,.int k]=>0<=k/\Y (dv (.int (ns.getD k.toNat 0)))
 |_=>False
def zh{t u:TDS}(J:DE->Prop)(h1:t U {Z with nx:=J})(h2:∀ ρ2,J ρ2->u ρ2 Z):sSeq (sCut t) u U Z:=⟨J,h1,h2⟩
def z_g{t u:TDS}{U:DE}{Z:DZ}(E:DE)(h1:t U {Z with nx:=λU=>U=E})(h2:u E Z):sSeq (sCut t) u U Z:=⟨λU=>U=E,h1,λ_ e=>by subst e;exact h2⟩
def Mo(e:slot U i=some (dO (.lst ds)))(h:Y (!ds.isEmpty)):tTru (uh i) U Y:=by
 unfold tTru uh;rw[e];exact h
def uz(e:slot U i=some (dO (.lst ds)))(h:te U λr=>(match r.k with|.own=>False|_=>True)/\ds.length<=100000/\Z.nx (setS U i (dO (.lst (ds++[r.d]))))):sApp i te U Z:=by
 unfold sApp;rw[e];exact h
def rf:entryFor table "dict.update.loop" = some Builtin.«dict.update.loop»:=entryFor_of_tree (by kernel_rfl)
def wx:plainId "dict.update.loop" = true:=by decide +kernel
def dt:typeLookup (.type "list") "keys" = pure none:=by rw[typeLookup_type,builtinLookup_eq_fast];kernel_rfl
def Qd{xs:Array Value}{Q:Option Value->Shared->Prop}(hl:PlainL s.heap a xs)(hA:A.handled=none)(h:∀ h' tk,(∀ b o,s.heap.get? b=some o->h'.get? b=some o)->Q none {s with heap:=h',toks:=tk}):wpAny (model prog w) A (getAttr? (.ref a) "keys") Q E s:=by
 obtain⟨o,k,I,N,M,j⟩:=hl;obtain⟨c,a0,a4,Z⟩:=o;simp only at N j M;subst N j M;obtain⟨hp,g,d,tk,os⟩:=s;have hT:∀q,(⟨hp,g,d,q,os⟩:Shared).TypeIs (.ref a) "list":=λ_=>⟨_,I,rfl⟩;have f1:=sub_AttributeError;have f3:=F.slot_list_getattribute.lookup;have f4:=F.slot_list_getattribute.bind (.ref a);have f5:=am_list_getattr_none;unfold getAttr? getAttrBy? getAttrBy
 repeat (any_goals (first|assumption|exact hT _|((with_reducible show wpAny _ _ (call (Value.builtin "list.__getattribute__") _ _) _ _ _);refine call_meets F.slot_list_getattribute (hT _) am_entry_list_getattribute (F.args_list_getattribute_2 _ _) (meets_getattribute_miss_list a xs k Z "keys" _ dt (by decide +kernel) (by size_fits)) ⟨I,hA,λh' q e B=>?_⟩)|wp_step))
 obtain⟨t',u',he⟩:=B.there;show wpAny _ _ (getattributeRaised _ _ _ _ _ _ _) _ _ _;unfold getattributeRaised
 repeat (any_goals (first|assumption|wp_step))
 exact h _ _ B.keeps
section
variable{K:Type}[DecidableEq K]{knd:KeyKind prog w K}{R:Result->Shared->Prop}
def Uj(knd:KeyKind prog w K)(h:Heap)(v:Value)(j:K×Value):Prop:=∃b o n key,v=.ref b/\h.get? b=some o/\o.cls=.type "tuple"/\o.data=.seq #[key,j.2] n/\knd.is j.1 key=true
def cq{j:List (K×Value)}{k:K}{x:Value}(h:k∉j.map (·.1)):stored j k x=j++[(k,x)]:=by
 unfold stored;rw[if_neg];intro z;rw[List.any_eq_true]at z;obtain⟨p,q,e⟩:=z;exact h (zah.mpr ⟨p,q,by simpa using e⟩)
def O0(hh:A.handled=none)(d it l:Addr)(Z:d≠it)(b8:d≠l)(a6:l≠it)(its:List Value)(more:List (K×Value))(c1:its.length=more.length)(b6:(more.map (·.1)).Nodup)(hsz:more.length<=sizeLine) :
  ∀(k i:Nat)(s:Shared),its.length=i+k->s.heap.IsListIter it l i->s.heap.IsList l its.toArray->s.heap.DictOf knd d (more.take i) ->
  (∀(j:Nat) v kx,its[j]?=some v->more[j]?=some kx->Uj knd s.heap v kx) ->
  (∀h' tk,h'.DictOf knd d more->(∀b o,b≠d->b≠it->s.heap.get? b=some o->h'.get? b=some o)->R (.ok (.ret .none)) {s with heap:=h',toks:=tk}) ->
  codeAny (model prog w) A (.builtin "dict.update.loop" ⟨[.ref d,.ref it,rawInt (i:Int),.none],[]⟩) R s:=by
 intro k
 induction k with
 |zero =>
  intro i s hk hi hl hd hp hR;refine codeAny_builtin rf ?_;rw[Around.under_plainId wx _];have W:=Walks.list (prog:=prog) (w:=w) (A:=A.in1) hh it l a6 its.toArray;show wpAny _ A.in1 (pyNext (.ref it) >>= _) _ _ s;refine zaa (W.done s _ _ ⟨by simpa [hk] using hi,hl⟩ λh' tk I=>?_)
  show wpAny _ A.in1 (Builtin.Dict.addKeywords d [] >>= _) _ _ _;refine zaa (zab (zab ?_));refine hR h' tk ?_ λb o _ hb e=>I b o (by simpa using hb) e
  rw[List.take_of_length_le (by omega)]at hd
  obtain⟨o,es,ep,ho,r⟩:=hd;exact⟨o,es,ep,I d o (by simpa using Z) ho,r⟩
 |succ k ih =>
  intro i s hk hi hl hd hp hR;refine codeAny_builtin rf ?_;rw[Around.under_plainId wx _];have W:=Walks.list (prog:=prog) (w:=w) (A:=A.in1) hh it l a6 its.toArray;show wpAny _ A.in1 (pyNext (.ref it) >>= _) _ _ s;refine zaa (W.item i s _ _ (by simp;omega) ⟨hi,hl⟩ λv h' tk hv N I=>?_)
  have b5:its[i]?=some v:=by simpa using hv
  have b7:i<more.length:=by omega
  obtain⟨kx,a0⟩:∃kx,more[i]?=some kx:=⟨more[i],zaf b7⟩;have a9:h'.DictOf knd d (more.take i):=by
   obtain⟨o,es,ep,ho,r⟩:=hd;exact⟨o,es,ep,I d o (by simpa using Z) ho,r⟩
  have a4:∀(j:Nat) v kx,its[j]?=some v->more[j]?=some kx->Uj knd h' v kx:=λj v kx h1 h2=>by
   obtain⟨b,o,n,B,e1,e2,e3,e4,e5⟩:=hp j v kx h1 h2;refine⟨b,o,n,B,e1,I b o ?_ e2,e3,e4,e5⟩;intro z;have:b=it:=by simpa using z
   subst this;obtain⟨o',q,b0,_⟩:=hi;rw[q]at e2;cases e2;rw[b0]at e3;exact absurd e3 (by decide)
  obtain⟨b,o,n,B,rfl,hb,c0,b9,a7⟩:=a4 i v kx b5 a0;have hT:({s with heap:=h',toks:=tk}:Shared).TypeIs (.ref b) "tuple":=⟨o,hb,c0⟩;refine zaa (wpAny_holding ?_);refine zaa (wpAny_tryCatch ?_);show wpAny _ A.in1 (typeOf (.ref b) >>= _) _ _ _;refine zaa (wpAny_typeOf hT ?_);show wpAny _ A.in1 (seqItems? (.ref b) >>= _) _ _ _;refine zaa (wpAny_seqItems hb b9 (zab ?_));show wpAny _ A.in1 (holding [B,kx.2] (dictSet d B kx.2)) _ _ _;have a5:kx.1∉(more.take i).map (·.1):=by
   have e:more.take (i+1)=more.take i++[kx]:=by rw[List.take_succ,a0];rfl
   have h4:((more.take (i+1)).map (·.1)).Nodup:=b6.sublist ((List.take_sublist _ _).map _);rw[e,zMa,List.nodup_append]at h4;intro z;exact h4.2.2 _ z kx.1 (by simp) rfl
  refine wpAny_holding (wpAny_dictSet_pairs (hsz:=by rw[List.length_take];omega) a7 a9 λh2 dd hs=>?_)
  rw[cq a5,show more.take i++[(kx.1,kx.2)]=more.take (i+1) by rw[List.take_succ,a0];rfl]at dd
  refine zab ⟨plainId_quiet wx _,?_⟩;have keep:∀b o,b≠d->h'.get? b=some o->h2.get? b=some o:=λb o hb e=>(hs.2 b hb).trans e;refine ih (i+1) _ (by omega) ?_ ?_ dd ?_ λh3 b4 d3 k3=>?_
  ·obtain⟨o',q,r'⟩:=N.1;exact⟨o',keep _ _ (Ne.symm Z) q,r'⟩
  ·obtain⟨o',q,r'⟩:=N.2;exact⟨o',keep _ _ (Ne.symm b8) q,r'⟩
  ·intro j v kx h1 M;obtain⟨b,o,n,B,e1,e2,e3,e4,e5⟩:=a4 j v kx h1 M;refine⟨b,o,n,B,e1,keep b o ?_ e2,e3,e4,e5⟩;intro z;subst z;obtain⟨o',es,ep,q,b0,a8,_⟩:=a9;rw[q]at e2;cases e2;rw[a8]at e4;cases e4
  exact hR h3 b4 d3 λb o h1 M e=>k3 b o h1 M (keep b o h1 (I b o (by simpa using M) e))
def dj{E:Value->Shared->Prop}{l:Addr}{its:List Value}{more:List (K×Value)}{Q:Value->Shared->Prop}(hh:A.handled=none)(hl:PlainL s.heap l its.toArray)(a0:its.length=more.length)(a6:(more.map (·.1)).Nodup)(hsz:more.length<=sizeLine)(hp:∀ (j:Nat) v kx,its[j]?=some v->more[j]?=some kx->Uj knd s.heap v kx)(h:∀ h' tk,h'.DictOf knd s.heap.objs.size more->(∀ b o,s.heap.get? b=some o->h'.get? b=some o)->Q (.ref s.heap.objs.size) {s with heap:=h',toks:=tk}) :
  wpAny (model prog w) A (call (.type "dict") [.ref l]) Q E s:=by
 refine callType_codes (Q₁:=λN B=>N=.ref s.heap.objs.size/\B={s with heap:=s.heap.push {cls:=.type "dict",data:=.dict #[]}}) F.kt_called_dict (F.kt_typeCall_dict_1 _) F.entry_dict_init (kt_code_dict_new _ ⟨rfl,rfl⟩) ?_;rintro N B ⟨rfl,rfl⟩;have q:(s.heap.push {cls:=.type "dict",data:=.dict #[]}).DictOf knd s.heap.objs.size []:=Heap.DictOf.new s.heap;have k1:∀b o,s.heap.get? b=some o->(s.heap.push {cls:=.type "dict",data:=.dict #[]}).get? b=some o:=λb o e=>zac _ e;have hl1:=hl.keeps k1;have a8:l<s.heap.objs.size:=by obtain⟨o,n,e,_⟩:=hl;exact zae e
 refine⟨q.typeIs,F.args_dict_init_2 _ _,?_⟩;unfold Builtin.«dict.__init__»;refine zaa ?_;unfold Builtin.Dict.selfAndRest;refine zaa (wpAny_notOrdered_dict q.typeIs ?_);show wpAny _ _ (pure (s.heap.objs.size,[Value.ref l])) _ _ _;refine zab ?_;show wpAny _ _ (Builtin.Dict.updateFrom "dict.__init__" s.heap.objs.size (.ref l) [] .none) _ _ _;unfold Builtin.Dict.updateFrom;refine zaa (wpAny_typeOf hl1.isList.typeIs ?_);rw[if_pos (by decide)]
 refine zaa (Qd hl1 hh λh2 b0 Z=>?_);rw[if_pos (by rfl)]
 refine zaa (wpAny_rule ?_);have M:=(hl1.keeps Z).isList;have a7:l<h2.objs.size:=by obtain⟨o,e,_⟩:=M;exact zae e
 refine zaa (wpAny_pyIter_list M ?_);have I:s.heap.objs.size<h2.objs.size:=by
  obtain⟨o,es,ep,ho,_⟩:=q;exact zae (Z _ _ ho)
 refine zab ⟨plainId_quiet wx _,?_⟩;refine O0 (knd:=knd) (A:=A.in1) hh s.heap.objs.size h2.objs.size l (Nat.ne_of_lt I) (Nat.ne_of_gt a8) (Nat.ne_of_lt a7) its more a0 a6 hsz its.length 0 _ (by omega) ?_ ?_ ?_ ?_ λh3 a4 d3 k3=>?_
 ·exact⟨_,zad _ rfl,rfl,rfl⟩
 ·exact M.push _
 ·obtain⟨o,es,ep,ho,r⟩:=q;exact⟨o,es,ep,zac _ (Z _ _ ho),r⟩
 ·intro j v kx h1 a9;obtain⟨b,o,n,a5,e1,e2,e3,e4,e5⟩:=hp j v kx h1 a9;exact⟨b,o,n,a5,e1,zac _ (Z _ _ (k1 _ _ e2)),e3,e4,e5⟩
 refine⟨rfl,h h3 a4 d3 λb o e=>k3 b o ?_ ?_ (zac _ (Z _ _ (k1 _ _ e)))⟩
 ·exact Nat.ne_of_lt (zae e)
 exact Nat.ne_of_lt (Nat.lt_trans (zae e) I)
end
def Ps(K:W.Frag)(H:Hp):List V->List (Key×V)->Prop:=Paired λp j=>∃b,p=V.ref b/\SqT K H b [kV j.1,j.2]
def Ti(hc:X.calm=true):ux X (.type "dict") (λxs H Q=>∃a ps B,xs=[.ref a]/\SqL X.K H a ps/\Ps X.K H ps B/\(B.map (·.1)).Nodup/\∀p,H p=none->Q (.ref p) (upd H p (.dK B))):=by
 intro pn s G H xs us Q I r h;obtain⟨a,ps,B,rfl,ha,hp,hn,q⟩:=h;obtain⟨u,rfl,ru⟩:=jw r;cases ru;obtain⟨its,rv,pl,hz⟩:=I.list ha;have M:ps.length=B.length:=hp.length;have a5:=rv.length;have ex:∃more:List (Key×Value),KV B more/\∀(j:Nat) v kx,its[j]?=some v->more[j]?=some kx->Uj (yq X.prog X.w) s.heap v kx:=by
  clear hn q hz pl M a5 ha
  induction rv generalizing B with
  |nil=>cases hp;exact⟨[],.nil,λj v kx e=>by simp at e⟩
  |cons r1 r2 ih =>
   cases hp with
   |cons h t =>
    obtain⟨more,k1,k2⟩:=ih _ t;obtain⟨b,rfl,sq⟩:=h;cases r1;obtain⟨ts,Z,⟨o,e1,e2,n,e3⟩,_⟩:=I.tuple sq;cases Z with
    |cons t1 Z =>
     cases Z with
     |cons t2 Z =>
      cases Z
      rename_i kk a0 x;refine⟨(_,x)::more,.cons ⟨rfl,t2⟩ k1,λj v kx h1 h2=>?_⟩;cases j with
      |zero =>
       simp at h1 h2;subst h1 h2;exact⟨b,o,n,a0,rfl,e1,e2,e3,Qh t1⟩
      |succ j=>exact k2 j v kx (by simpa using h1) (by simpa using h2)
 obtain⟨more,k1,k2⟩:=ex;have a4:B.length=more.length:=k1.length;have N:more.map (·.1)=B.map (·.1):=by
  clear hn q hp M k2 a4
  induction k1 with
  |nil=>rfl
  |cons h t ih=>rw[List.map_cons,List.map_cons,ih,h.1]
 have hb:=I.big;refine dj (knd:=yq X.prog X.w) (I.ok.hd hc) pl (by omega) (by rw[N];exact hn) (by omega) k2 λh' tk hd keep=>?_
 refine⟨.ref s.heap.objs.size,_,I.laid (t':=tk) (a:=s.heap.objs.size) (o:=.dK B) keep (zaj _) ?_,rfl,q _ (I.hok.fresh (zaj _))⟩;exact Ud (by omega) (by simpa using(Nat.ne_of_gt hb)) k1 hd
section
variable{e:Expr}{es:List Expr}{t:TDs}{p pos:Pos}
def kD:Key->D
 |.inl i=>.int i
 |.inr x=>.str x
def Rp(ks:List Key)(ds:List D):List D:=(ks.zip ds).map λq=>.tup [kD q.1,q.2]
def sDictP:FT:=λxs Y=>match xs with
 |[.lst l]=>∃ks ds,l=Rp ks ds/\ks.length=ds.length/\ks.Nodup/\Y (df (.dk ks ds))
 |_=>False
def Fl{K:W.Frag}{H:Hp}{O:List Addr}{k:Key}{v:V}(h:Rep K H O (kD k) v):v=kV k:=by
 cases k with
 |inl i=>exact h
 |inr x=>exact h
theorem cx{K:W.Frag}{H:Hp}{O:List Addr}:∀(ks:List Key)(ds:List D)(ps:List V),ks.length=ds.length->Reps K H O (Rp ks ds) ps->∃xs,Ps K H ps (ks.zip xs)/\Reps K H O ds xs
 |[],[],ps,_,h=>by
  cases (show ps=[] from h)
  exact⟨[],.nil,rfl⟩
 |[],_::_,_,h,_=>by cases h
 |_::_,[],_,h,_=>by cases h
 |k::ks,d::ds,ps,hl,h=>by
  obtain⟨v,q,rfl,⟨a,zs,rfl,sq,r⟩,hr⟩:=h;obtain⟨M,w1,rfl,I,j,w2,rfl,B,rfl⟩:=r;cases Fl I;obtain⟨xs,h1,h2⟩:=cx ks ds q (by simpa using hl) hr
  exact⟨j::xs,.cons ⟨a,rfl,sq.1⟩ h1,j,xs,rfl,B,h2⟩
theorem qq{α j:Type}:∀(ks:List α)(xs:List j),ks.length=xs.length->(ks.zip xs).map (·.1)=ks
 |[],_,_=>rfl
 |k::ks,[],h=>by cases h
 |k::ks,x::xs,h=>by
  rw[List.zip_cons_cons,List.map_cons,qq ks xs (by simpa using h)]
def Me(Z:X.mg "dict" = none)(ha:EA L X (e::es) t)(hc:X.calm=true:=by rfl)(hg:Gl X "dict":=by rfl)(he:S_ X e es:=by rfl)(B:B_ X es pos:=by rfl):ED L X (.Call (.Name "dict" p) (e::es) [] pos) (dCB sDictP t) :=
 qx (Ti hc) (λH O ds vs Y Q ho N h k=>by
  unfold sDictP at h;split at h
  ·obtain⟨ks,ds,rfl,hl,I,h⟩:=h;obtain⟨v,ws,rfl,⟨a,xs,rfl,q,r⟩,rfl⟩:=N;obtain⟨zs,h1,h2⟩:=cx ks ds xs hl r;have M:ks.length=zs.length:=by rw[hl,h2.length]
   exact⟨a,xs,_,rfl,SqL.of q,h1,by rw[qq ks zs M];exact I,λp j=>k _ (df (.dk _ _)) _ (yf j _) ⟨p,rfl,j,ho p j,zs,zm,hl,I,Reps.grow (Zy j) _ _ h2⟩ h⟩
  exact h.elim) Z boot_dict' ha hg (by decide) (by decide) he B
end
section
end
def xj{α:Type}(xs:List α)(lo hi st:Option Int):List α :=
 let b:=sliceBounds lo hi st xs.length
 (sliceRange b.1 b.2.1 b.2.2).filterMap λi=>xs[i]?
section
variable{e:Expr}{te:TE}{lo hi:Option Expr}{st:Expr}{tl th ts:TO}{pos p2:Pos}
theorem jv(r:Vals xs us):∀is:List Nat,Vals (is.filterMap λi=>xs[i]?) (is.filterMap λi=>us[i]?)
 |[]=>.nil
 |i::is=>by
  rw[List.filterMap_cons,List.filterMap_cons];cases ex:xs[i]? with
  |none =>
   rw[r.none_of ex];exact jv r is
  |some x =>
   obtain⟨u,q,j⟩:=r.get ex;rw[q];exact .cons j (jv r is)
def Tz(K:W.Frag)(te:TE)(tl th ts:TO):TE:=λG H Q=>te G H λx H1=>tl G H1 λl H2=>th G H2 λu q=>ts G q λk j=>∃a xs,x=.ref a/\SqL K j a xs/\k≠some 0/\∀p,j p=none->Q (.ref p) (upd j p (.lst (xj xs l u k)))
def Jb(he:PE X e te)(hl:PO X lo tl)(hu:PO X hi th)(hs:PO X (some st) ts):PE X (.Subscript e (.Slice lo hi (some st) p2) pos) (Tz X.K te tl th ts):=by
 intro pn s G H Q I h;refine Subscript_ (thn (he pn s G H _ I h) λv s1 Zh=>?_);obtain⟨x,H1,I1,r1,q1⟩:=Zh;refine wpAny_Slice (thn (hl pn s1 G H1 _ I1 q1) λvl s2 ⟨l,H2,I2,pl,q2⟩=>thn (hu pn s2 G H2 _ I2 q2) λZ s3 ⟨u,H3,I3,pu,q3⟩=>thn (hs pn s3 G H3 _ I3 q3) λvk B Zh=>?_);obtain⟨k,H4,I4,pk,a,xs,e1,sq,k0,q⟩:=Zh;subst e1;cases r1;have N:Inv X pn G H4 {B with heap:=B.heap.push {cls:=.type "slice",data:=.fields #[vl,Z,vk]}}:=I4.kept (t':=B.toks) λb ob q=>zac _ q;obtain⟨its,r,j,hz⟩:=N.list sq;have M:its.length=xs.length:=r.length.symm;show wpAny (model X.prog X.w) X.A (subscriptTail e (.Slice lo hi (some st) p2) (.ref a) (.ref B.heap.objs.size)) (EP X pn G Q) X.xe {B with heap:=B.heap.push {cls:=.type "slice",data:=.fields #[vl,Z,vk]}};refine tail_any (ops:=[.ref a,.ref B.heap.objs.size]) j.isList.typeIs list_getitem_lookup ?_ (by with_unfolding_all rfl)
 refine wpAny_getItem_list_slice j.isList (Heap.IsSliceOf.new ..) pl pu pk k0 ?_ (by simp;omega)
 refine⟨.ref _,_,N.laid (t':=B.toks) (o:=.lst (xj xs l u k)) (λb ob q=>zac _ q) (zaj _) ?_,rfl,q _ (N.hok.fresh (zaj _))⟩;have hp:(slicePick its.toArray l u k).toList=xj its l u k:=by
  unfold slicePick xj;simp
 have hv:Vals (xj xs l u k) (xj its l u k):=by
  unfold xj;rw[M];exact jv r _
 have a0:(xj its l u k).length<=its.length:=by
  have:=slicePick_size_le its.toArray l u k;rw[<- Array.length_toList,hp]at this;simpa using this
 refine⟨by rw[hv.length];omega,xj its l u k,0,hv,?_⟩
 rw[zad _ rfl,<- hp]
end
section
variable{e:Expr}{te:TD}{pos:Pos}
def Cd(te:TD)(tl th ts:TDo):TD:=λU Y=>te U λx=>tl U λl=>th U λu=>ts U λk=>k≠some 0/\match x.d with
 |.lst ds=>Y (df (.lst (xj ds l u k)))
 |.scr ns=>Y (df (.lst ((xj ns l u k).map D.int)))
 |_=>False
theorem gc{K:W.Frag}{H:Hp}{O:List Addr}{ds:List D}{xs:List V}(r:Reps K H O ds xs):∀is:List Nat,Reps K H O (is.filterMap λi=>ds[i]?) (is.filterMap λi=>xs[i]?)
 |[]=>rfl
 |i::is=>by
  rw[List.filterMap_cons,List.filterMap_cons];cases ex:ds[i]? with
  |none =>
   have:xs[i]?=none:=by
    rw[List.getElem?_eq_none_iff]at ex ⊢;rw[r.length];exact ex
   rw[this];exact gc r is
  |some d =>
   obtain⟨v,q,j⟩:=r.get ex;rw[q];exact⟨v,_,rfl,j,gc r is⟩
def W3{K:W.Frag}{H:Hp}{O:List Addr}{ds:List D}{xs:List V}(r:Reps K H O ds xs)(l u k:Option Int):Reps K H O (xj ds l u k) (xj xs l u k):=by
 unfold xj;rw[r.length];exact gc r _
def Oz{α j:Type}(f:α->j)(xs:List α)(l u k:Option Int):xj (xs.map f) l u k=(xj xs l u k).map f:=by
 unfold xj;rw[zLm,List.map_filterMap]
 dsimp only
 congr 1
 funext i
 rw[zai]
def Hx{lo hi:Option Expr}{st:Expr}{tl th ts:TDo}{p2:Pos}(he:ED L X e te)(hl:EO L X lo tl)(hu:EO L X hi th)(hs:EO L X (some st) ts):ED L X (.Subscript e (.Slice lo hi (some st) p2) pos) (Cd te tl th ts):=λH_ =>
 impE (Jb (he H_) (hl H_) (hu H_) (hs H_)) λG H Q q=>by
  obtain⟨U,o,R,Y,N,kk⟩:=q;refine⟨U,o,R,_,N,λv r H1 s1 rv h1=>⟨U,o,R.to s1,_,h1,λl H2 s2 h2=>⟨U,o,R.to (s1.trans s2),_,h2,λu H3 M h3=>⟨U,o,R.to ((s1.trans s2).trans M),_,h3,λk H4 s4 I=>?_⟩⟩⟩⟩;have j:=((s1.trans s2).trans M).trans s4;have Z:=(rv.same ((s2.trans M).trans s4)).view;obtain⟨h0,I⟩:=I;obtain⟨kd,d⟩:=r;cases d with
  |lst ds =>
   obtain⟨a,xs,rfl,q,r⟩:=Z;refine⟨a,xs,rfl,SqL.of q,h0,λp B=>?_⟩;exact kk _ _ _ (j.trans (yf B _)) (RV.start (qe (λa e=>R.ofree (j.free e)) B (W3 r l u k)) j) I
  |scr ns =>
   obtain⟨a,rfl,q⟩:=Z;refine⟨a,_,rfl,q.seq,h0,λp B=>?_⟩;rw[Oz];exact kk _ _ _ (j.trans (yf B _)) (RV.start (qe (λa e=>R.ofree (j.free e)) B (Reps.ints _)) j) I
  |_=>exact I.elim
end
abbrev TK:=List Key
instance decMemTK (k:TK) (ks:List TK):Decidable (k∈ks):=decidable_of_iff (ks.any (λx=>decide (x=k))=true) (by simp)
section
open PySem PySem.Spec PySem.W PyProof.Rows
def RawD(h:Heap)(d:Addr)(rows:Array DictEntry)(j:Nat):Prop:=∃o,h.get? d=some o/\o.ExactDict/\o.data=.dict rows j
def RawD.lt(x:RawD h d rows ep):d<h.objs.size:=let ⟨_,g,_⟩:=x;zae g
variable{n:Nat}
abbrev POrd(n:Nat)(p:Array Nat):Prop:=p.Perm (List.toArray (List.range n))
def POrd.lt(h:POrd n p)(j:0<n)(i:Nat):p.getD i 0<n:=by
 by_cases hi:i<p.size
 ·have e:p.getD i 0=p[i]:=by simp[Array.getD,hi]
  rw[e];have m:p[i]∈List.toArray (List.range n):=h.mem_iff.mp (Array.getElem_mem hi);simpa using m
 have e:p.getD i 0=0:=by simp[Array.getD,hi]
 omega
theorem vt{α:Type}:∀l:List α,(l.zip l).map (λx=>x.2)=l
 |[]=>rfl
 |a::l=>by rw[List.zip_cons_cons,List.map_cons,vt l]
def Bp:Key->Option Int
 |.inl i=>some i
 |.inr _=>none
section
theorem POrd.size(h:POrd n p):p.size=n:=by
 have:=h.size_eq;simpa using this
end
end
def zK1(k:TK):List Int:=k.filterMap Bp
theorem cy{K:W.Frag}{H:Hp}{O:List Addr}:∀{ns:List Int}{xs:List V},Reps K H O (ns.map D.int) xs->xs=ns.map V.int
 |[],_,h=>h
 |n::ns,xs,h=>by
  obtain⟨v,r,rfl,q,t⟩:=h;cases (show v=_ from q);rw[cy t];rfl
theorem Uc(ne:l≠J):∀(n i:Nat)(s:Shared)(Q:List Value->Shared->Prop),s.heap.IsListIter J l i->s.heap.IsList l its->i+n<=its.size ->
  (∀h',h'.IsListIter J l (i+n)->h'.IsList l its->Heap.SameBut J s.heap h'->Q ((its.toList.drop i).take n) {s with heap:=h'})->wpAny (model prog w) A (draw (.ref J) n) Q E s
 |0,i,s,Q,y,hl,_,q=>by
  show wpAny _ _ (pure []) Q E s;apply zab;have:=q s.heap y hl (Heap.SameBut.refl ..);simpa using this
 |n+1,i,s,Q,y,hl,le,q=>by
  have lt:i<its.size:=by omega
  show wpAny _ _ (pyNext (.ref J) >>= _) Q E s;apply zaa;refine wpAny_pyNext_list_item y hl (x:=its[i]) (by simp[lt]) λh1 I s1=>?_
  have hl1:h1.IsList l its:=hl.at λo e=>s1.extBut l o ne e;apply zaa;apply wpAny_holding;refine Uc ne n (i+1) _ _ I hl1 (by omega) λh2 B j s2=>zab (?_:_)
  have M:its.toList.drop i=its[i]::its.toList.drop (i+1):=by simp[List.drop_eq_getElem_cons,lt]
  have:=q h2 (by rw[show i+(n+1)=i+1+n by omega];exact B) j (s1.trans s2)
  rw[M,List.take_succ_cons]at this;exact this
def Um {x1} {Q:Unit->Shared->Prop} (N:A.handled=none) (hl:s.heap.IsList l its) (M:(assignEach elts env).length=its.size) (I:(assignEach elts env).findIdx? (·.1)=none) (q:∀h',Heap.ExtBut s.heap.objs.size s.heap h'->wpAny (model prog w) A (assignInOrder ((assignEach elts env).map (·.2)) its.toList) Q E {s with heap:=h'}):wpAny (model prog w) A (assign (.Tuple elts x1 pos) env (.ref l)) Q E s:=by
 have ne:l≠s.heap.objs.size:=by obtain⟨o,e,_⟩:=hl;exact Nat.ne_of_lt (zae e)
 rw[assign_Tuple];apply zaa;apply wpAny_standAt;unfold unpack;rw[M,I];apply zaa;apply wpAny_holding;unfold unpackItems;apply zaa;unfold notIterableAtAll;apply zaa;refine wpAny_specialOf hl.typeIs PySem.F.slot_list_iter.lookup (?_:_);apply zab;simp only[Bool.false_eq_true,if_false];apply zaa;apply wpAny_holding;refine wpAny_pyIter_list hl (?_:_);apply zaa;apply wpAny_holding;refine Uc ne its.size 0 _ _ ⟨_,zad _ rfl,rfl,rfl⟩ (hl.push _) (by omega) λh1 B hl1 s1=>?_
 rw[show List.take its.size (List.drop 0 its.toList)=its.toList by rw[List.drop_zero];exact List.take_of_length_le (by simp)]
 rw[if_neg (show ¬ _ by simp)]
 apply zaa;apply wpAny_holding;refine wpAny_pyNext_list_end N B hl1 (by simp) λh2 e2=>?_
 simp only[Option.isSome_none,Bool.false_eq_true,if_false];refine zab (q h2 λb o j e=>e2 b o j (s1.extBut b o j (zac _ e)))
def gLst(K:W.Frag)(n:Nat)(t:TGs):TG:=λv G H Q=>∃a xs,v=.ref a/\SqL K H a xs/\xs.length=n/\t xs G H Q
def Rf(hK:X.K=K0)(hc:X.calm=true)(h:PGs X es t)(hn:(assignEach es X.env).length=n:=by rfl)(q:(assignEach es X.env).findIdx? (·.1)=none:=by rfl):PG X (.Tuple es k pos) (gLst K0 n t):=by
 subst hK;intro pn s G H v u Q I r j;obtain⟨a,xs,e1,Z,hl,j⟩:=j;subst e1;cases r;obtain⟨its,B,N,hz⟩:=I.list Z;refine Um (I.ok.hd hc) N.isList (by simp[hn,<- hl,B.length]) q λh' M=>?_
 have I1:Inv X pn G H {s with heap:=h'}:=I.kept (t':=s.toks) λb o e=>M b o (Nat.ne_of_lt (zae e)) e;exact h pn _ G H xs _ Q I1 (by simpa using B) j
def gL4(i j l m:Nat):TGD:=λd U M=>match d with
 |.lst [a,b,c,e]=>M (setS (setS (setS (setS U i (dv a)) j (dv b)) l (dv c)) m (dv e))
 |_=>False
def Hg{K:W.Frag}(i j l m:Nat):qz K (gLst K 4 (vo (wt i) (vo (wt j) (vo (wt l) (vo (wt m) gNil))))) (gL4 i j l m):=λH_ H G U o d v M Q R h B k=>by
 unfold gL4 at B;split at B
 ·rename_i a b c e;obtain⟨p,xs,rfl,q,n,r⟩:=h;obtain⟨v1,r1,rfl,h1,Z,r2,rfl,h2,N,r3,rfl,h3,I,r4,rfl,h4,rfl⟩:=r;refine⟨p,_,rfl,SqL.of q,rfl,v1,_,rfl,Z,_,rfl,N,_,rfl,I,_,rfl,rfl,?_⟩;exact k _ _ ((((R.setV i h1).setV j h2).setV l h3).setV m h4) B
 exact B.elim
section
variable{scope:Scope}{T F:List Str}{js:List Nat}{tg iter elt:Expr}{ifs:List Expr}{pos:Pos}{ti:TID}{g2:TG}{g:TGD}{tc:TDb}{te:TD}
def Xi(ti:TID)(n:Nat)(js:List Nat)(g:TGD)(tc:TDb)(te:TD):TD:=λU Y=>ti U λds=>∃P:Nat->List D->Prop,ds.length<=10000000/\P 0 [] /\
 (∀(i:Nat)(d:D)(es:List D),ds[i]?=some d->es.length<=i->P i es->g d (ρ0 n js U) λj=>tc j λc=>(c=true->te j λr=>(match r.k with|.own=>False|_=>True)/\P (i+1) (es++[r.d]))/\(c=false->P (i+1) es))/\∀es,P ds.length es->Y (df (.lst es))
def bm(nd:js.Nodup)(hl:qz X.K g2 g):∀G H Q,qo X.K H_ (Xi ti T.length js g tc te) G H Q->O8 (Ju X.K H_ ti) T js g2 (Zn X.K H_ tc) (qo X.K H_ te) G H Q:=λG H Q q=>by
  obtain⟨U,o,R,Y,a9,k⟩:=q;refine⟨U,o,R,_,a9,λJ ds P H1 s1 I hP ⟨PP,b0,P0,a4,fin⟩ Da j=>?_⟩;have R1:=R.to s1;have gD:∀{H':Hp},Same H1 H'->Grow (o.map Prod.snd) (Da::o.map Prod.snd) H1 H':=λs=>⟨λb u h nb=>⟨s b u h,λz=>(zam.mp z).elim (λe=>zo h j e) nb⟩,λb xs h=>s b _ h,λb ob u h=>s b _ h⟩;refine⟨λi m ys H'=>m=ds.length-i/\i<=ds.length/\Same H1 H'/\H' Da=some (.lst ys)/\∃es,es.length<=i/\PP i es/\Reps X.K H' (Da::o.map Prod.snd) es ys,
   ⟨_,rfl,Nat.zero_le _,yf j _,zm,[],zaj _,P0,rfl⟩,?_⟩
  rintro i m ys H' ⟨rfl,b5,s2,N,es,le,pe,rp⟩;refine⟨N,?_⟩;have a5:=I.keep _ _ _ _ hP (gD s2);by_cases hlt:i<ds.length
  ·have ed:ds[i]?=some ds[i]:=by simp[hlt]
   obtain⟨j1,j2⟩:=I.go H' _ i _ a5 ed;refine .inr ⟨j1,λzs H2=>Same H1 H2/\H2 Da=some (.lst zs)/\∃es,es.length<=i+1/\PP (i+1) es/\Reps X.K H2 (Da::o.map Prod.snd) es zs,λzs H2 ⟨a1,a2,a3⟩=>⟨_,(by omega:ds.length-(i+1)<ds.length-i),rfl,hlt,a1,a2,a3⟩,λx H2 y=>?_⟩
   obtain⟨s3,rx⟩:=j2 x H2 y;have B:=s2.trans s3;have a7:=s3 _ _ N;have RB:=cz (n:=T.length) R1 nd j B a7 T rfl;have hO:((T.length+js.length,Da)::o.map λp=>(ixO T.length js p.1,p.2)).map Prod.snd=Da::o.map Prod.snd:=by
    rw[List.map_cons,List.map_map];rfl
   have a8:ys.length<=10000000:=by
    rw[rp.length];omega
   refine hl H_ H2 (st0 T js G) (ρ0 T.length js U) _ _ x _ _ RB (by rw[hO];exact rx) (a4 i _ es ed le pe) λa0 b4 R' q'=>?_
   refine⟨a0,_,R',_,q',λc H3 Z h4=>?_⟩;have a6:=Z _ _ a7;cases c with
   |false =>
    exact iteF ⟨B.trans Z,a6,es,Nat.le_succ_of_le le,h4.2 rfl,Reps.grow (Grow.same (s3.trans Z)) _ _ rp⟩
   |true =>
    refine iteT ⟨a0,_,R'.to Z,_,h4.1 rfl,λv r H4 s5 rv h5=>?_⟩;have M:=s5 _ _ a6;have rd:=rv.solid (ub h5.1);rw[hO]at rd;have ne:∀b u,H1 b=some u->b≠Da:=λb u h=>zo h j;have gu:Grow (Da::o.map Prod.snd) (Da::o.map Prod.snd) H4 (upd H4 Da (.lst (ys++[v]))) :=
     ⟨λb u h n=>⟨by rw[y0 (λz=>n (zam.mpr (.inl z)))];exact h,n⟩,λb xs h=>by rw[y0 (λz=>by rw[z,M]at h;cases h)];exact h,λb ob u h=>by rw[y0 (λz=>by rw[z,M]at h;cases h)];exact h⟩
    refine⟨M,Nat.lt_of_le_of_lt a8 (by decide),⟨λb u h=>?_,zm,es++[r.d],by rw[zLa];exact Nat.succ_le_succ le,h5.2,?_⟩⟩
    ·rw[y0 (ne b u h)];exact s5 _ _ (Z _ _ (B b u h))
    exact Reps.grow gu _ _ ((Reps.grow (Grow.same (s3.trans (Z.trans s5))) _ _ rp).append (Reps.one rd))
  have e:i=ds.length:=by omega
  subst e;refine .inl ⟨I.stop H' _ a5,?_⟩;exact k (.ref Da) (df (.lst es)) H' (s1.trans s2) ⟨Da,rfl,s1.free j,R.ofree (s1.free j),ys,N,rp⟩ (fin es pe)
def qw(hi:EI L X tg iter ti)(S:y4 X.env.scope scope T F)(q:Paired (λx j=>X.N[j]?=some x) F js)(B:js.Nodup)(hg:∀ cl C fp s H,PG (yw X (T++F) scope cl C fp s H) tg g2)(Z:cg T.length g2)(hl:qz X.K g2 g)(I:∀ cl C fp s H,EIf L (yw X (T++F) scope cl C fp s H) ifs tc)(he:∀ cl C fp s H,ED L (yw X (T++F) scope cl C fp s H) elt te)(hc:X.calm=true:=by rfl)(M:∀ x,foldedSetIterable iter X.env x=pure x:=by intro _;rfl):ED L X (.ListComp elt [⟨tg,iter,ifs,0⟩] scope pos) (Xi ti T.length js g tc te):=λH_ =>
 impE (Rj (tc:=Zn X.K H_.1 tc) (te:=qo X.K H_.1 te) hc (hi H_) S q hg Z (λcl C fp s H=>I cl C fp s H H_) (λcl C fp s H=>he cl C fp s H H_) M) (bm B hl)
def wc(ds:List D)(h:∀ M:List D->Prop,M ds->ti U M)(P:Nat->List D->Prop)(hl:ds.length<=10000000)(h0:P 0 [])(B:∀ (i:Nat) (d:D) (es:List D),ds[i]?=some d->es.length<=i->P i es->g d (ρ0 n js U) λj=>tc j λc=>(c=true->te j λr=>(match r.k with|.own=>False|_=>True)/\P (i+1) (es++[r.d]))/\(c=false->P (i+1) es))(q:∀ es,P ds.length es->Y (df (.lst es))):Xi ti n js g tc te U Y:=h _ ⟨P,hl,h0,B,q⟩
end
def Gk{o u:HO}(h:H a=some u):upd (upd H a o) a u=H:=by
 rw[Ts]
 funext b
 by_cases e:b=a
 ·subst e;rw[zm,h]
 rw[y0 e]
section
variable{scope:Scope}{T F:List Str}{js:List Nat}{tg iter elt:Expr}{ifs:List Expr}{pos:Pos}{ti:TID}{g2:TG}{g:TGD}{tc:TDb}{te:TD}
def vv(i:Nat){y:Str}(hN:X.N.Nodup)(hi:EI L X tg iter ti)(S:y4 X.env.scope scope T F)(I:Paired (λx j=>X.N[j]?=some x) F js)(nd:js.Nodup)(hg:∀ cl C fp s H,PG (yw X (T++F) scope cl C fp s H) tg g2)(hk:cg T.length g2)(hl:qz X.K g2 g)(ht:∀ cl C fp s H,EIf L (yw X (T++F) scope cl C fp s H) ifs tc)(he:∀ cl C fp s H,ED L (yw X (T++F) scope cl C fp s H) elt te)(hc:X.calm=true:=by rfl)(hs:∀ x,foldedSetIterable iter X.env x=pure x:=by intro _;rfl)(hy:X.N[i]?=some y:=by rfl)(q:X.env.scope.names.lookup y=some .local:=by rfl)(B:swapsWith (.ListComp elt [⟨tg,iter,ifs,0⟩] scope pos) (some (.Name y py)) spos.line X.env=pure true:=by rfl):SD L X (.Assign [.Name y py] (.ListComp elt [⟨tg,iter,ifs,0⟩] scope pos) spos) (sSet i (Xi ti T.length js g tc te)):=λH_ =>
 impS (bg (tc:=Zn X.K H_.1 tc) (te:=qo X.K H_.1 te) hc hN hy (.inl q) (hi H_) S I hg hk (λcl C fp s H=>ht cl C fp s H H_) (λcl C fp s H=>he cl C fp s H H_) B hs (.inr q)) λD G H h=>by
  obtain⟨U,o,R,Z,hZ,k1,k2,k3,k4⟩:=h;refine bm nd hl G H _ ⟨U,o,R,_,hZ,λv r H1 s1 M h1=>?_⟩;obtain⟨o',R',g'⟩:=R.put s1 i M (ub h1.1);exact k1 _ _ H1 o' g' R' h1.2
end
theorem k7:∀{ts:List Str}{us:List Value},Vals (ts.map V.str) us->∃l:List (Str×Tok),us=strValues l/\l.map (·.1)=ts
 |[],_,.nil=>⟨[],rfl,rfl⟩
 |t::ts,_,.cons r q=>by
  obtain⟨k,rfl⟩:=r;obtain⟨l,rfl,e⟩:=k7 q;exact⟨(t,k)::l,rfl,by rw[List.map_cons,e]⟩
theorem Yz(n:Nat):∀(ts:List Str)(a:Nat),ts.foldl (λj (t:Str)=>j+t.length+n) a=a+(ts.map λt=>t.length+n).sum
 |[],a=>by simp
 |t::ts,a=>by
  rw[List.foldl_cons,Yz n ts,List.map_cons,List.sum_cons];omega
def Jp:MtR X "str.join" (λx xs H Q=>∃j p ts,x=.str j/\xs=[.ref p]/\(SqL X.K H p (ts.map V.str)\/SqT X.K H p (ts.map V.str))/\(ts.map λt=>t.length+j.length).sum<=sizeLine/\Q (.str (Str.join j ts)) H):=by
 intro pn s G H x xs v us Q I rx rs h;obtain⟨j,p,ts,rfl,rfl,M,hb,q⟩:=h;obtain⟨t,rfl⟩:=rx;obtain⟨u,rfl,ru⟩:=jw rs;cases ru;have fin:∀l:List (Str×Tok),l.map (·.1)=ts->(joinMade j l).post (λv s'=>EP X pn G Q v s') s:=λl B=>by
  have lg:(Builtin.Str.glued j ts).length<=sizeLine:=by
   rw[size_glued];refine zak ?_ hb;have e:(ts.map λt=>t.length+j.length).sum=(ts.map (·.length)).sum+ts.length*j.length:=by
    clear hb q M B
    induction ts with
    |nil=>simp
    |cons t ts ih=>simp[ih,Nat.add_mul];omega
   rw[e];exact Nat.add_le_add_left (Nat.mul_le_mul_right _ (Nat.sub_le _ _)) _
  have N:EP X pn G Q (.str (Builtin.Str.glued j ts) s.toks) {s with toks:=s.toks+1}:=⟨.str (Str.join j ts),H,I.tok _,⟨s.toks,by rw[PySem.StrLaws.glued_eq_join]⟩,q⟩
  match l,B with
  |[],B=>subst B;exact⟨lg,N⟩
  |[p],B=>subst B;exact⟨.str p.1,H,I,⟨p.2,rfl⟩,q⟩
  |p::r::l,B=>subst B;exact⟨lg,N⟩
 have hl:∀l:List (Str×Tok),l.map (·.1)=ts->Builtin.Str.tooLong ((l.map (·.1)).toArray.foldl (·+·.length+j.length) 0)=false:=λl B=>by
  rw[B];unfold Builtin.Str.tooLong;simp only[List.foldl_toArray];rw[Yz];simp;omega
 rcases M with M|M
 ·obtain⟨its,Z,pl,hz⟩:=I.list M;obtain⟨l,rfl,B⟩:=k7 Z;exact call_meets PySem.F.slot_str_join (typeIs_str s j t) PySem.F.entry_str_join (PySem.F.args_str_join_2 _ _) (meets_str_join_list j t p l (hl l B)) ⟨pl.isList,fin l B⟩
 obtain⟨its,Z,pl,hz⟩:=I.tuple M;obtain⟨l,rfl,B⟩:=k7 Z;obtain⟨o,g,c,n,d⟩:=pl;exact call_meets PySem.F.slot_str_join (typeIs_str s j t) PySem.F.entry_str_join (PySem.F.args_str_join_2 _ _) (meets_str_join_tuple j t p l (hl l B)) ⟨⟨o,n,g,c,d⟩,fin l B⟩
theorem k8{K:W.Frag}{H:Hp}{O:List Addr}:∀{ns:List Str}{xs:List V},Reps K H O (ns.map D.str) xs->xs=ns.map V.str
 |[],_,h=>h
 |n::ns,xs,h=>by
  obtain⟨v,r,rfl,q,t⟩:=h;cases (show v=_ from q);rw[k8 t];rfl
variable{o e:Expr}{td te:TD}{apos cpos:Pos}
def Lx(td te:TD):TD:=λU Y=>td U λx=>match x.d with
 | .str sep=>te U λy=>(match y.d with
  |.lst ds=>∃ts:List Str,ds=ts.map D.str/\(ts.map λt=>t.length+sep.length).sum<=sizeLine/\Y (dv (.str (Str.join sep ts)))
  |.tup ds=>∃ts:List Str,ds=ts.map D.str/\(ts.map λt=>t.length+sep.length).sum<=sizeLine/\Y (dv (.str (Str.join sep ts)))
  | _=>False)
 |_=>False
def Md(ho:ED L X o td)(he:ED L X e te)(B:attributeBase o "join" X.env (eval o X.env)=eval o X.env:=by rfl)(M:((backTo cpos (starEach [e] X.env)).all (λx=>!x.1)&&(backToKw cpos (keywordEach [] X.env)).all (λx=>x.1.isSome)&&decide (([e]:List Expr).length+([]:List Keyword).length+(if ([]:List Keyword).isEmpty then 0 else 1)<30))=true:=by rfl)(j:(apos.endLine==cpos.line)=true:=by rfl)(hs:starEach [e] X.env=(false,eval e X.env)::starEach [] X.env:=by rfl)(a0:(backTo cpos (starEach [] X.env)).any (·.1)=false:=by rfl) :
  ED L X (.Call (.Attribute o "join" apos) [e] [] cpos) (Lx td te):=λH_ =>
 impE (Ro PySem.F.plainAttrs_str PySem.F.slot_str_join PySem.F.type_str_join Jp (ho H_) (u0 (he H_) sw hs) B M j hs a0) λG H Q q=>by
  obtain⟨U,oo,R,Y,Z,kk⟩:=q;refine⟨U,oo,R,_,Z,λv r H1 s1 rv h1=>?_⟩;obtain⟨kd,d⟩:=r;cases d with
  |str sep =>
   cases (show v=_ from rv.view)
   refine⟨rfl,U,oo,R.to s1,_,h1,λv2 r2 H2 s2 I h2=>?_⟩;obtain⟨a4,d2⟩:=r2;cases d2 with
   |lst ds =>
    obtain⟨ts,rfl,hb,h2⟩:=h2;obtain⟨a,xs,rfl,q,N⟩:=I.view;cases k8 N;exact⟨sep,a,ts,rfl,rfl,.inl (SqL.of q),hb,kk _ (dv (.str (Str.join sep ts))) H2 (s1.trans s2) (by exact rfl) h2⟩
   |tup ds =>
    obtain⟨ts,rfl,hb,h2⟩:=h2;obtain⟨a,xs,rfl,q,N⟩:=I.view;cases k8 N;exact⟨sep,a,ts,rfl,rfl,.inr q.1,hb,kk _ (dv (.str (Str.join sep ts))) H2 (s1.trans s2) (by exact rfl) h2⟩
   |_=>exact h2.elim
  |_=>exact h1.elim
def ca:bootBuiltins "reversed" = some (.type "reversed"):=by kernel_rfl
def dd(l:List Str)(k:Str):List Str:=if k∈l then l else l++[k]
def fm(val:Nat->Str)(i:Nat):List Str:=((List.range i).map val).foldl dd []
def many(l:List Str):Nat:=(l.foldl dd []).length
def uq:entryFor table "dict.update.loop" = some Builtin.«dict.update.loop»:=entryFor_of_tree (by kernel_rfl)
def xy:plainId "dict.update.loop" = true:=by decide +kernel
structure ZAt1(g:Heap)(z ti to i1 i2 l1 l2:Addr)(f:Value)(k:Nat):Prop where
 zz:IsZip g z ti to f
 its:IsPair g ti (.ref i1) (.ref i2)
 out:∃a b,IsPair g to a b
 one:g.IsTupleIter i1 l1 k
 two:g.IsListIter i2 l2 k
structure ZNe1(z ti to i1 i2:Addr):Prop where
 ab:ti≠z
 ac:to≠z
 ad:i1≠z
 ae:i2≠z
 bc:ti≠to
 bd:ti≠i1
 be:ti≠i2
 cd:to≠i1
 ce:to≠i2
 de:i1≠i2
variable{td te:TE}
def Lk{a b:List (Key×V)}{x y:List (Key×Value)}(h:KV a x)(g:KV b y):KV (a++b) (x++y):=by
 induction h with
 |nil=>exact g
 |cons h t ih=>exact .cons h ih
def Nk{a:List (Key×V)}{b:List (Key×Value)}(h:KV a b):b.map (·.1)=a.map (·.1):=by
 induction h with
 |nil=>rfl
 |cons h t ih=>rw[List.map_cons,List.map_cons,ih,h.1]
def Gw(td te:TE):TE:=λG H Q=>td G H λx H1=>∃a kvs0,x=.ref a/\H1 a=some (.dK kvs0)/\te G H1 λy H2=>∃b kvs more,y=.ref b/\a≠b/\H2 a=some (.dK kvs)/\H2 b=some (.dK more)/\kvs.length+more.length<=sizeLine/\((kvs++more).map (·.1)).Nodup/\Q .non (upd H2 a (.dK (kvs++more)))
def Je(ho:PE X o td)(he:PE X e te)(m:M1 X o "update" apos e cpos):PE X (.Call (.Attribute o "update" apos) [e] [] cpos) (Gw td te):=by
 intro pn s G H Q I h;refine wpAny_Call_method m.base m.few m.line PySem.F.plainAttrs_dict PySem.F.slot_dict_update PySem.F.type_dict_update (thn (ho pn s G H _ I h) λu s1 Zh=>?_);obtain⟨x,H1,I1,rx,a,a5,ex,d,q1⟩:=Zh;subst ex;obtain rfl:u=Value.ref a:=rx;obtain⟨t1,t2,_⟩:=Dq I1 (.inl ⟨_,.inl d⟩);refine⟨t1,t2,?_⟩;rw[m.trees];refine Calls.callWith_builtin rfl (Calls.evalArgs_plain (Calls.spliced_cons (thn (he pn s1 G H1 _ I1 q1) λiv s2 ⟨y,H2,I2,ry,b,a6,more,ey,M,ha,hb,hl,N,q2⟩=>Calls.spliced_nil ?_)));subst ey;obtain rfl:iv=Value.ref b:=ry;obtain⟨z1,a4,ks,B,d1⟩:=Ga I2.hok ha;obtain⟨z2,a0,ms,j,d2⟩:=Ga I2.hok hb;refine call_meetsIn PySem.F.slot_dict_update d1.typeIs PySem.F.entry_dict_update (PySem.F.args_dict_update_2 _ _) (meets_dict_update (yq X.prog X.w) a b M a0) ⟨ks,ms,d1,d2,by rw[<- B.length,<- j.length];exact hl,λh' dd a7 sb=>?_⟩
 have e:merged ks ms=ks++ms:=merged_append_of_fresh ks ms (by rw[Nk (Lk B j)];exact N)
 rw[e]at dd;have Z:∃q,h'.get? a=some q:=let ⟨q,_,_,hq,_⟩:=dd;⟨q,hq⟩
 exact⟨.non,_,Ph (t':=s2.toks) I2 (by rw[ha];exact True.intro) sb Z (Ud (by rw[zLa];exact hl) a4 (Lk B j) dd),rfl,q2⟩
section
variable{x:Str}
theorem Xu{α j:Type}:∀(a:List α)(x:List j)(b:List α)(y:List j),a.length=x.length->(a++b).zip (x++y)=a.zip x++b.zip y
 |[],[],_,_,_=>rfl
 |_::_,[],_,_,h=>by cases h
 |[],_::_,_,_,h=>by cases h
 |a::as,x::xs,b,y,h=>by
  show(a,x)::(as++b).zip (xs++y)=(a,x)::(as.zip xs++b.zip y);rw[Xu as xs b y (by simpa using h)]
end
theorem Yn{K:W.Frag}{H:Hp}{O:List Addr}:∀{ns:List Str}{xs:List V},Reps K H O (ns.map D.str) xs->xs=ns.map V.str
 |[],_,h=>h
 |n::ns,xs,h=>by
  obtain⟨v,r,rfl,q,t⟩:=h;cases (show v=_ from q);rw[Yn t];rfl
def He{K:W.Frag}(i j l m:Nat):qz K (gTup K 4 (vo (wt i) (vo (wt j) (vo (wt l) (vo (wt m) gNil))))) (gT4 i j l m):=λH_ H G U o d v M Q R h B k=>by
 unfold gT4 at B;split at B
 ·rename_i a b c e;obtain⟨p,xs,rfl,q,r⟩:=h;obtain⟨v1,r1,rfl,h1,Z,r2,rfl,h2,N,r3,rfl,h3,I,r4,rfl,h4,rfl⟩:=r;refine⟨p,_,rfl,q.1,rfl,v1,_,rfl,Z,_,rfl,N,_,rfl,I,_,rfl,rfl,?_⟩;exact k _ _ ((((R.setV i h1).setV j h2).setV l h3).setV m h4) B
 exact B.elim
section
open PySem PySem.Spec PySem.W PyProof.Rows
def Bo(D:Addr)(i n M:Nat)(q j I B:Value):Obj:={cls:=.type "dict_itemiterator",dict:=none,data:=.fields #[q,j,.ref D,.int i 0,.int n 0,.int M 0,I,B],slots:=#[]}
def RawJ(h:Heap)(J D:Addr)(i n j:Nat):Prop:=∃x0 x1 o1 o2,h.get? J=some (Bo D i n j x0 x1 o1 o2)/\((x0=.none/\x1=.bool false)\/∃(b:Addr)(f:Bool)(ob:Obj),x0=rawInt b/\x1=.bool f/\h.get? b=some ob/\b≠J)
def Bf(e:DictEntry):Obj:={cls:=.type "tuple",data:=.seq #[e.key,e.val]}
def RawJ.lt{J D:Addr}(y:RawJ h J D i n ep):J<h.objs.size:=let ⟨_,_,_,_,e,_⟩:=y;zae e
def Pt(h:Heap)(rows:Array DictEntry)(J:Addr)(q:List Addr):Prop:=(∀a∈q,J<a)/\q.Nodup/\∀(j:Nat) a,q[j]?=some a->∃e,rows[j]?=some e/\h.get? a=some (Bf e)
def Pt.lt{h:Heap}{rows:Array DictEntry}{J a:Addr}{q:List Addr}(p:Pt h rows J q)(m:a∈q):a<h.objs.size:=by
 obtain⟨j,B⟩:=List.getElem?_of_mem m;obtain⟨e,_,g⟩:=p.2.2 j a B;exact zae g
end
def Mn{α:Type}{a:Addr}{k:Option Obj->Sem α}{Q:α->Shared->Prop}{E:Value->Shared->Prop}{s:Shared}(h:wpAny M A (k (s.heap.get? a)) Q E s):wpAny M A (Sem.loadIfAlive a k) Q E s:=λL p j=>by
 rw[Sem.wp_loadIfAlive];exact h L p j
def ZipF(h:Heap)(z ti to a:Addr)(j:Bool):Prop:=h.get? z=some {cls:=.type "zip",dict:=none,data:=.fields #[rawInt a,.bool j,.bool false,.ref ti,.ref to],slots:=#[]}
def Qr{q:Bool}{o:Obj}{Q:Bool->Shared->Prop}(j:ZipF s.heap z ti to a q)(M:s.heap.get? a=some o)(B:∀ g,ZipF g z ti to a true->Heap.SameBut z s.heap g->Q false {s with heap:=g}):wpAny (model P w) A (Builtin.SmallTypes.ownedTupleIsFree (.ref z)) Q E s:=by
 unfold Builtin.SmallTypes.ownedTupleIsFree;refine zaa (wpAny_field j rfl (x:=rawInt a) rfl ?_);show wpAny _ _ (Sem.loadIfAlive (Int.toNat (a:Int)) _) _ _ _;refine Mn ?_;rw[Int.toNat_natCast,M];show wpAny _ _ (field (.ref z) 1 >>= _) _ _ _;refine zaa (wpAny_field j rfl (x:=.bool q) rfl ?_);cases q with
 |true=>exact zab (B s.heap j (Heap.SameBut.refl _ _))
 |false =>
  show wpAny _ _ (setField (.ref z) 1 (.bool true) >>= _) _ _ _;refine zaa (wpAny_setField_rec j (by simp) λg I s1=>?_)
  exact zab (B g I s1)
def Tl{b1 b2:Bool}{z ti to i1 i2 l1 l2 a:Addr}{fb:Bool}{o:Obj}{k:Nat}{xs ys:Array Value}{x y:Value}{Q:Value->Shared->Prop}(n1:i1≠z)(n2:i2≠z)(j:i1≠i2)(nt:ti≠z)(a0:ti≠i1)(M:l1≠z)(B:l2≠z)(I:l2≠i1)(N:ZipF s.heap z ti to a fb)(ha:s.heap.get? a=some o)(Z:IsPair s.heap ti (.ref i1) (.ref i2))(h1:ItAt b1 s.heap i1 l1 k)(h2:ItAt b2 s.heap i2 l2 k)(t1:SqAt b1 s.heap l1 xs)(t2:SqAt b2 s.heap l2 ys)(hx:xs[k]?=some x)(hy:ys[k]?=some y)(hQ:∀ g,ZipF g z ti to a true->ItAt b1 g i1 l1 (k+1)->ItAt b2 g i2 l2 (k+1)->IsPair g s.heap.objs.size x y->g.objs.size=s.heap.objs.size+1->(∀ c o,c≠z->c≠i1->c≠i2->s.heap.get? c=some o->g.get? c=some o)->Q (.ref s.heap.objs.size) {s with heap:=g}) :
  wpAny (model P w) A (Builtin.«zip.__next__» ⟨[.ref z],[]⟩) (λfin s'=>∃v,fin=.done (.ret v)/\Q v s') E s:=by
 show wpAny _ _ (field (.ref z) 2 >>= _) _ _ _;refine zaa (wpAny_field N rfl (x:=.bool false) rfl ?_);show wpAny _ _ (field (.ref z) 3 >>= _) _ _ _;refine zaa (wpAny_field N rfl (x:=.ref ti) rfl ?_);refine zaa (wpAny_seqItems Z rfl ?_);show wpAny _ _ (Builtin.SmallTypes.ownedTupleIsFree (.ref z) >>= _) _ _ _;refine zaa (Qr N ha λg1 z1 s1=>?_);simp only[Bool.false_eq_true,if_false];refine zaa ?_;rw[<- Array.forIn_toList];simp only[List.forIn_cons,List.forIn_nil];refine zaa (zaa (wpAny_holding ?_));show wpAny _ _ (Builtin.SmallTypes.nextOf (.ref i1) >>= _) _ _ _;refine zaa (uj (h1.at λo e=>s1.extBut _ o n1 e) (t1.at λo e=>s1.extBut _ o M e) hx λg2 p2 s2=>zab (zab ?_));refine zaa (zaa (wpAny_holding ?_));show wpAny _ _ (Builtin.SmallTypes.nextOf (.ref i2) >>= _) _ _ _;refine zaa (uj (h2.at λo e=>s2.extBut _ o j.symm (s1.extBut _ o n2 e)) (t2.at λo e=>s2.extBut _ o I (s1.extBut _ o B e)) hy λg3 p3 q=>zab (zab (zab ?_)));show wpAny _ _ (newTuple [x,y] >>= _) _ _ _;refine zaa (wpAny_newTuple ?_);have sz:g3.objs.size=s.heap.objs.size:=by rw[q.1,s2.1,s1.1]
 refine zab ⟨_,rfl,?_⟩;show Q (.ref g3.objs.size) _;rw[sz];have up:∀c o,c≠z->c≠i1->c≠i2->s.heap.get? c=some o->(g3.push {cls:=.type "tuple",data:=.seq #[x,y]}).get? c=some o:=λc o c1 c2 c3 e=>zac _ (q.extBut _ _ c3 (s2.extBut _ _ c2 (s1.extBut _ _ c1 e)));refine hQ _ (zac _ (q.extBut _ _ n2.symm (s2.extBut _ _ n1.symm z1))) ((p2.at λo e=>q.extBut _ o j e).at λo e=>zac _ e) (p3.at λo e=>zac _ e) ?_ (by rw[Heap.size_push,sz]) up
 have:=zad g3 (o:=({cls:=.type "tuple",data:=.seq #[x,y]}:Obj)) rfl;rw[sz]at this;exact this
def Px{b1 b2:Bool}{z ti to i1 i2 l1 l2 a:Addr}{o:Obj}{xs:Array Value}{Q:Fin->Shared->Prop}(hh:A.handled=none)(M:i1≠z)(j:l1≠z)(B:ZipF s.heap z ti to a fb)(ha:s.heap.get? a=some o)(I:IsPair s.heap ti (.ref i1) (.ref i2))(h1:ItAt b1 s.heap i1 l1 k)(t1:SqAt b1 s.heap l1 xs)(Z:xs[k]?=none)(hE:∀ g e,(∀ c o,c≠z->c≠i1->s.heap.get? c=some o->g.get? c=some o)->(∃ o,g.get? e=some o/\o.cls=.type "StopIteration")->E (.ref e) {s with heap:=g}) :
  wpAny (model P w) A (Builtin.«zip.__next__» ⟨[.ref z],[]⟩) Q E s:=by
 show wpAny _ _ (field (.ref z) 2 >>= _) _ _ _;refine zaa (wpAny_field B rfl (x:=.bool false) rfl ?_);show wpAny _ _ (field (.ref z) 3 >>= _) _ _ _;refine zaa (wpAny_field B rfl (x:=.ref ti) rfl ?_);refine zaa (wpAny_seqItems I rfl ?_);show wpAny _ _ (Builtin.SmallTypes.ownedTupleIsFree (.ref z) >>= _) _ _ _;refine zaa (Qr B ha λg1 z1 s1=>?_);simp only[Bool.false_eq_true,if_false];refine zaa ?_;rw[<- Array.forIn_toList];simp only[List.forIn_cons,List.forIn_nil];refine zaa (zaa (wpAny_holding ?_));show wpAny _ _ (Builtin.SmallTypes.nextOf (.ref i1) >>= _) _ _ _;refine zaa (gk hh (h1.at λo e=>s1.extBut _ o M e) (t1.at λo e=>s1.extBut _ o j e) Z λg2 e N he=>?_);exact hE g2 e (λc o c1 c2 q=>N c o c2 (s1.extBut _ _ c1 q)) he
def Uz{o:Obj}{xs ys:Array Value}{x y:Value}{Q:Option Value->Shared->Prop}(n1:i1≠z)(n2:i2≠z)(q:i1≠i2)(nt:ti≠z)(j:ti≠i1)(M:l1≠z)(B:l2≠z)(I:l2≠i1)(hz:ZipF s.heap z ti to a fb)(ha:s.heap.get? a=some o)(N:IsPair s.heap ti (.ref i1) (.ref i2))(h1:ItAt b1 s.heap i1 l1 k)(h2:ItAt b2 s.heap i2 l2 k)(t1:SqAt b1 s.heap l1 xs)(t2:SqAt b2 s.heap l2 ys)(hx:xs[k]?=some x)(hy:ys[k]?=some y)(hQ:∀ g,ZipF g z ti to a true->ItAt b1 g i1 l1 (k+1)->ItAt b2 g i2 l2 (k+1)->IsPair g s.heap.objs.size x y->g.objs.size=s.heap.objs.size+1->(∀ c o,c≠z->c≠i1->c≠i2->s.heap.get? c=some o->g.get? c=some o)->Q (some (.ref s.heap.objs.size)) {s with heap:=g}) :
  wpAny (model P w) A (pyNext (.ref z)) Q E s:=by
 have Z:s.TypeIs (.ref z) "zip":=⟨_,hz,rfl⟩;unfold pyNext;exact zaa (wpAny_attempt (wpAny_callSpecial?_slot (name:=Str.ofString "__next__") Z F.slot_zip_next (wpAny_call_entry F.slot_zip_next Z F.entry_zip_next (Tl n1 n2 q nt j M B I hz ha N h1 h2 t1 t2 hx hy λg q1 q2 q3 q4 q5 q6=>zab (hQ g q1 q2 q3 q4 q5 q6)) (F.args_zip_next_1 _))))
def Q3{o:Obj}{xs:Array Value}{Q:Option Value->Shared->Prop}(hh:A.handled=none)(M:i1≠z)(j:l1≠z)(I:ZipF s.heap z ti to a fb)(ha:s.heap.get? a=some o)(q:IsPair s.heap ti (.ref i1) (.ref i2))(h1:ItAt b1 s.heap i1 l1 k)(t1:SqAt b1 s.heap l1 xs)(Z:xs[k]?=none)(hQ:∀ g,(∀ c o,c≠z->c≠i1->s.heap.get? c=some o->g.get? c=some o)->Q none {s with heap:=g}):wpAny (model P w) A (pyNext (.ref z)) Q E s:=by
 have B:s.TypeIs (.ref z) "zip":=⟨_,I,rfl⟩;unfold pyNext;refine zaa (wpAny_attempt (wpAny_callSpecial?_slot (name:=Str.ofString "__next__") B F.slot_zip_next (wpAny_call_entry F.slot_zip_next B F.entry_zip_next (Px (b2:=b1) (l2:=l1) hh M j I ha q h1 t1 Z λg e N he=>?_) (F.args_zip_next_1 _))));obtain⟨o,ho,hc⟩:=he;refine zaa (wpAny_isInstance (T:="StopIteration") (b:=true) ⟨o,ho,hc⟩ isSubtype_stop ?_);exact zab (hQ _ N)
def PairsZ(h:Heap)(xs ys:Array Value)(J:Addr)(q:List Addr):Prop:=(∀a∈q,J<a)/\q.Nodup/\∀(j:Nat) a,q[j]?=some a->∃x y,xs[j]?=some x/\ys[j]?=some y/\IsPair h a x y
def PairsZ.lt{h:Heap}{xs ys:Array Value}{J a:Addr}{q:List Addr}(p:PairsZ h xs ys J q)(m:a∈q):a<h.objs.size:=by
 obtain⟨j,B⟩:=List.getElem?_of_mem m;obtain⟨x,y,_,_,g⟩:=p.2.2 j a B;exact zae g
def PairsZ.alive{h:Heap}{xs ys:Array Value}{J a:Addr}{q:List Addr}(p:PairsZ h xs ys J q)(m:a∈q):∃o,h.get? a=some o:=by
 obtain⟨j,B⟩:=List.getElem?_of_mem m;obtain⟨x,y,_,_,g⟩:=p.2.2 j a B;exact⟨_,g⟩
def PairsZ.to{h k:Heap}{xs ys:Array Value}{J:Addr}{as:List Addr}(p:PairsZ h xs ys J as)(f:∀ a o,a∈as->h.get? a=some o->k.get? a=some o):PairsZ k xs ys J as :=
 ⟨p.1,p.2.1,λj a e=>let ⟨x,y,e1,e2,g⟩:=p.2.2 j a e;⟨x,y,e1,e2,f a _ (zan e) g⟩⟩
def PairsZ.snoc{h:Heap}{xs ys:Array Value}{J a:Addr}{q:List Addr}{x y:Value}(p:PairsZ h xs ys J q)(ha:J<a)(I:a∉q)(ex:xs[q.length]?=some x)(ey:ys[q.length]?=some y)(g:IsPair h a x y):PairsZ h xs ys J (q++[a]):=by
 refine⟨λb Z=>?_,?_,λj b B=>?_⟩
 ·rcases zas.mp Z with m|m
  ·exact p.1 b m
  rw[List.mem_singleton.mp m];exact ha
 ·rw[List.nodup_append];refine⟨p.2.1,by simp,λx N y M z=>?_⟩
  rw[List.mem_singleton.mp M]at z;subst z;exact I N
 by_cases hl:j<q.length
 ·rw[List.getElem?_append_left hl]at B;exact p.2.2 j b B
 have:j=q.length:=by
  have:=(zag.mp B).1;simp at this;omega
 subst this;have eb:a=b:=by simpa using B
 subst eb;exact⟨x,y,ex,ey,g⟩
def ZS(b1 b2:Bool)(z ti to i1 i2 l1 l2:Addr)(j:List Addr)(i:Nat)(h:Heap):Prop :=
 (i=0/\ZAt b1 b2 h z ti to i1 i2 l1 l2 .none 0)\/(∃a fb,a∈j/\ZipF h z ti to a fb/\IsPair h ti (.ref i1) (.ref i2)/\ItAt b1 h i1 l1 i/\ItAt b2 h i2 l2 i)
def ZS.to{b1 b2:Bool}{z ti to i1 i2 l1 l2:Addr}{B:List Addr}{i:Nat}{h g:Heap}(Z:ZS b1 b2 z ti to i1 i2 l1 l2 B i h)(k:∀ c o,(c=z\/c=ti\/c=to\/c=i1\/c=i2)->h.get? c=some o->g.get? c=some o):ZS b1 b2 z ti to i1 i2 l1 l2 B i g:=by
 rcases Z with⟨e,Z⟩|⟨a,fb,m,M,t1,N,p2⟩
 ·obtain⟨I,its,⟨a,b,q⟩,one,j⟩:=Z;exact .inl ⟨e,k _ _ (.inl rfl) I,k _ _ (.inr (.inl rfl)) its,⟨a,b,k _ _ (.inr (.inr (.inl rfl))) q⟩,one.at λo e=>k _ o (.inr (.inr (.inr (.inl rfl)))) e,j.at λo e=>k _ o (.inr (.inr (.inr (.inr rfl)))) e⟩
 exact .inr ⟨a,fb,m,k _ _ (.inl rfl) M,k _ _ (.inr (.inl rfl)) t1,N.at λo e=>k _ o (.inr (.inr (.inr (.inl rfl)))) e,p2.at λo e=>k _ o (.inr (.inr (.inr (.inr rfl)))) e⟩
section
variable{b1 b2:Bool}{z ti to i1 i2 l1 l2 S:Addr}{xs ys:Array Value}
def K2{B:List Addr}{i:Nat}{x y:Value}{Q:Option Value->Shared->Prop}(D:ZNe z ti to i1 i2)(d1:ZOff z to i1 i2 l1)(d2:ZOff z to i1 i2 l2)(Z:ZS b1 b2 z ti to i1 i2 l1 l2 B i s.heap)(pa:PairsZ s.heap xs ys S B)(t1:SqAt b1 s.heap l1 xs)(t2:SqAt b2 s.heap l2 ys)(N:xs[i]?=some x)(M:ys[i]?=some y)(hQ:∀ g,ZS b1 b2 z ti to i1 i2 l1 l2 (B++[s.heap.objs.size]) (i+1) g->IsPair g s.heap.objs.size x y->(∀ c o,ZOff z to i1 i2 c->s.heap.get? c=some o->g.get? c=some o)->Q (some (.ref s.heap.objs.size)) {s with heap:=g}) :
  wpAny (model P w) A (pyNext (.ref z)) Q E s:=by
 rcases Z with⟨rfl,Z⟩|⟨a,fb,m,z1,ht,p1,p2⟩
 ·refine Yt D d1 d2 Z t1 t2 N M λg j pr kp=>hQ g (.inr ⟨s.heap.objs.size,false,List.mem_append_right _ (List.mem_singleton.mpr rfl),j.zz,j.its,j.one,j.two⟩) pr kp
 obtain⟨o,ho⟩:=pa.alive m;refine Uz D.ad D.ae D.de D.ab D.bd d1.1 d2.1 d2.2.2.1 z1 ho ht p1 p2 t1 t2 N M λg q1 q2 q3 q4 q5 I=>hQ g (.inr ⟨a,true,List.mem_append_left _ m,q1,I _ _ D.ab D.bd D.be ht,q2,q3⟩) q4 λc o q e=>I c o q.1 q.2.2.1 q.2.2.2 e
def Gh{M:List Addr}{i:Nat}{Q:Option Value->Shared->Prop}(B:A.handled=none)(D:ZNe z ti to i1 i2)(d1:ZOff z to i1 i2 l1)(d2:ZOff z to i1 i2 l2)(Z:ZS b1 b2 z ti to i1 i2 l1 l2 M i s.heap)(pa:PairsZ s.heap xs ys S M)(t1:SqAt b1 s.heap l1 xs)(t2:SqAt b2 s.heap l2 ys)(j:xs[i]?=none)(I:∀ g,(∀ c o,ZOff z to i1 i2 c->s.heap.get? c=some o->g.get? c=some o)->Q none {s with heap:=g}):wpAny (model P w) A (pyNext (.ref z)) Q E s:=by
 rcases Z with⟨rfl,Z⟩|⟨a,fb,m,N,ht,p1,p2⟩
 ·exact Vw B D d1 d2 Z t1 t2 (.inl j) I
 obtain⟨o,ho⟩:=pa.alive m;exact Q3 B D.ad d1.1 N ho ht p1 t1 j λg k=>I g λc o q e=>k c o q.1 q.2.2.1 e
end
section
end
structure Gt(H H':Hp):Prop where
 tups:∀b xs,H b=some (.tup xs)->H' b=some (.tup xs)
 frzs:∀b o u,H b=some (.frz o u)->H' b=some (.frz o u)
def Gt.trans{H H1 H2:Hp}(a:Gt H H1)(b:Gt H1 H2):Gt H H2:=⟨λc xs h=>b.tups c xs (a.tups c xs h),λc o u h=>b.frzs c o u (a.frzs c o u h)⟩
def Gt.same{H H':Hp}(s:Same H H'):Gt H H':=⟨λb xs h=>s b _ h,λb o u h=>s b _ h⟩
variable{O':List Addr}
def Si{a:Addr}{xs:List V}(g:Gt H H')(h:SqR K H a xs):SqR K H' a xs:=by
 refine⟨?_,g.tups _ _ h.2⟩;rcases h.1 with(h|⟨o,h⟩)|h
 ·exact .inl (.inl (g.tups _ _ h))
 ·exact .inl (.inr ⟨o,g.frzs _ _ _ h⟩)
 exact .inr h
def L0{a:Addr}{ns:List Int}(g:Gt H H')(h:Scr K H a ns):Scr K H' a ns:=by
 rcases h with⟨o,h⟩|h
 ·exact .inl ⟨o,g.frzs _ _ _ h⟩
 exact .inr h
mutual
theorem Rep.keep(g:Gt H H'):∀(d:D)(v:V),zj d->Rep K H O d v->Rep K H' O' d v
 |.non,_,_,h=>h
 |.bl _,_,_,h=>h
 |.int _,_,_,h=>h
 |.str _,_,_,h=>h
 |.ty _,_,_,h=>h
 |.tup ds,v,p,h=>by
  obtain⟨a,xs,e,q,r⟩:=h;exact⟨a,xs,e,Si g q,Reps.keep g ds xs p r⟩
 |.scr ns,v,_,h=>by
  obtain⟨a,e,q⟩:=h;exact⟨a,e,L0 g q⟩
 |.sx _,_,p,_=>p.elim
 |.lst ds,v,p,h=>p.elim
 |.dk ks ds,v,p,h=>p.elim
 |.ob C ns ds,v,p,h=>p.elim
theorem Reps.keep(g:Gt H H'):∀(ds:List D)(xs:List V),zw ds->Reps K H O ds xs->Reps K H' O' ds xs
 |[],_,_,h=>h
 |d::ds,xs,p,h=>by
  obtain⟨v,r,e,q,t⟩:=h;exact⟨v,r,e,Rep.keep g d v p.1 q,Reps.keep g ds r p.2 t⟩
end
mutual
def Ft(K:W.Frag)(H:Hp):D->V->List Addr->Prop
 |.lst ds,v,A=>∃a xs B,v=.ref a/\H a=some (.lst xs)/\A=a::B/\Fts K H ds xs B
 |.dk ks ds,v,A=>∃a xs B,v=.ref a/\H a=some (.dK (ks.zip xs))/\ks.length=ds.length/\ks.Nodup/\A=a::B/\Fts K H ds xs B
 |.tup ds,v,A=>∃a xs,v=.ref a/\SqR K H a xs/\Fts K H ds xs A
 |.non,v,A=>A=[]/\v=.non
 |.bl b,v,A=>A=[]/\v=.bl b
 |.int i,v,A=>A=[]/\v=.int i
 |.str x,v,A=>A=[]/\v=.str x
 |.ty n,v,A=>A=[]/\v=.ty n
 |.scr ns,v,A=>A=[]/\∃a,v=.ref a/\Scr K H a ns
 |.sx _,_,_=>False
 |.ob C ns ds,v,A=>∃a dx xs B,v=.ref a/\H a=some (.ins C dx (ns.zip xs))/\ns.length=ds.length/\ns.Nodup/\A=a::B/\Fts K H ds xs B
def Fts(K:W.Frag)(H:Hp):List D->List V->List Addr->Prop
 |[],xs,A=>xs=[]/\A=[]
 |d::ds,xs,A=>∃v r B C,xs=v::r/\A=B++C/\Ft K H d v B/\Fts K H ds r C
end
mutual
theorem Ft.keep(g:Gt H H'):∀(d:D)(v:V)(A:List Addr),(∀a∈A,∀u,H a=some u->H' a=some u)->Ft K H d v A->Ft K H' d v A
 |.lst ds,v,A,k,h=>by
  obtain⟨a,xs,B,e,q,rfl,r⟩:=h;exact⟨a,xs,B,e,k a zao _ q,rfl,Fts.keep g ds xs B (λb j=>k b (zal _ j)) r⟩
 |.dk ks ds,v,A,k,h=>by
  obtain⟨a,xs,B,e,q,l,n,rfl,r⟩:=h;exact⟨a,xs,B,e,k a zao _ q,l,n,rfl,Fts.keep g ds xs B (λb j=>k b (zal _ j)) r⟩
 |.tup ds,v,A,k,h=>by
  obtain⟨a,xs,e,q,r⟩:=h;exact⟨a,xs,e,Si g q,Fts.keep g ds xs A k r⟩
 |.non,_,_,_,h=>h
 |.bl _,_,_,_,h=>h
 |.int _,_,_,_,h=>h
 |.str _,_,_,_,h=>h
 |.ty _,_,_,_,h=>h
 |.scr ns,v,A,_,h=>by
  obtain⟨e,a,e2,q⟩:=h;exact⟨e,a,e2,L0 g q⟩
 |.sx _,_,_,_,h=>h.elim
 |.ob C ns ds,v,A,k,h=>by
  obtain⟨a,dx,xs,B,e,q,l,n,rfl,r⟩:=h;exact⟨a,dx,xs,B,e,k a zao _ q,l,n,rfl,Fts.keep g ds xs B (λb j=>k b (zal _ j)) r⟩
theorem Fts.keep(g:Gt H H'):∀(ds:List D)(xs:List V)(A:List Addr),(∀a∈A,∀u,H a=some u->H' a=some u)->Fts K H ds xs A->Fts K H' ds xs A
 |[],_,_,_,h=>h
 |d::ds,xs,A,k,h=>by
  obtain⟨v,r,B,C,e,rfl,q,t⟩:=h;exact⟨v,r,B,C,e,rfl,Ft.keep g d v B (λb j=>k b (List.mem_append_left _ j)) q,Fts.keep g ds r C (λb j=>k b (List.mem_append_right _ j)) t⟩
end
mutual
theorem Ft.rep:∀(d:D)(v:V)(A:List Addr),(∀a∈A,a∉O)->Ft K H d v A->Rep K H O d v
 |.lst ds,v,A,k,h=>by
  obtain⟨a,xs,B,e,q,rfl,r⟩:=h;exact⟨a,xs,e,q,k a zao,Fts.reps ds xs B (λb j=>k b (zal _ j)) r⟩
 |.dk ks ds,v,A,k,h=>by
  obtain⟨a,xs,B,e,q,l,n,rfl,r⟩:=h;exact⟨a,xs,e,q,k a zao,l,n,Fts.reps ds xs B (λb j=>k b (zal _ j)) r⟩
 |.tup ds,v,A,k,h=>by
  obtain⟨a,xs,e,q,r⟩:=h;exact⟨a,xs,e,q,Fts.reps ds xs A k r⟩
 |.non,_,_,_,h=>h.2
 |.bl _,_,_,_,h=>h.2
 |.int _,_,_,_,h=>h.2
 |.str _,_,_,_,h=>h.2
 |.ty _,_,_,_,h=>h.2
 |.scr ns,v,A,_,h=>h.2
 |.sx _,_,_,_,h=>h.elim
 |.ob C ns ds,v,A,k,h=>by
  obtain⟨a,dx,xs,B,e,q,l,n,rfl,r⟩:=h;exact⟨a,dx,xs,e,q,k a zao,l,n,Fts.reps ds xs B (λb j=>k b (zal _ j)) r⟩
theorem Fts.reps:∀(ds:List D)(xs:List V)(A:List Addr),(∀a∈A,a∉O)->Fts K H ds xs A->Reps K H O ds xs
 |[],_,_,_,h=>h.1
 |d::ds,xs,A,k,h=>by
  obtain⟨v,r,B,C,e,rfl,q,t⟩:=h;exact⟨v,r,e,Ft.rep d v B (λb j=>k b (List.mem_append_left _ j)) q,Fts.reps ds r C (λb j=>k b (List.mem_append_right _ j)) t⟩
end
mutual
theorem Ft.dom:∀(d:D)(v:V)(A:List Addr),Ft K H d v A->∀a∈A,∃u,H a=some u/\(∀xs,u≠.tup xs)/\∀ob w,u≠.frz ob w
 |.lst ds,v,A,h=>by
  obtain⟨a,xs,B,e,q,rfl,r⟩:=h;intro b j;rcases zam.mp j with rfl|j
  ·exact⟨_,q,(λ_ z=>by cases z),λ_ _ z=>by cases z⟩
  exact Fts.dom ds xs B r b j
 |.dk ks ds,v,A,h=>by
  obtain⟨a,xs,B,e,q,l,n,rfl,r⟩:=h;intro b j;rcases zam.mp j with rfl|j
  ·exact⟨_,q,(λ_ z=>by cases z),λ_ _ z=>by cases z⟩
  exact Fts.dom ds xs B r b j
 |.tup ds,v,A,h=>by
  obtain⟨a,xs,e,q,r⟩:=h;exact Fts.dom ds xs A r
 |.non,_,_,h=>by obtain⟨rfl,_⟩:=h;intro a I;cases I
 |.bl _,_,_,h=>by obtain⟨rfl,_⟩:=h;intro a I;cases I
 |.int _,_,_,h=>by obtain⟨rfl,_⟩:=h;intro a I;cases I
 |.str _,_,_,h=>by obtain⟨rfl,_⟩:=h;intro a I;cases I
 |.ty _,_,_,h=>by obtain⟨rfl,_⟩:=h;intro a I;cases I
 |.scr _,_,_,h=>by obtain⟨rfl,_⟩:=h;intro a I;cases I
 |.sx _,_,_,h=>h.elim
 |.ob C ns ds,v,A,h=>by
  obtain⟨a,dx,xs,B,e,q,l,n,rfl,r⟩:=h;intro b j;rcases zam.mp j with rfl|j
  ·exact⟨_,q,(λ_ z=>by cases z),λ_ _ z=>by cases z⟩
  exact Fts.dom ds xs B r b j
theorem Fts.dom:∀(ds:List D)(xs:List V)(A:List Addr),Fts K H ds xs A->∀a∈A,∃u,H a=some u/\(∀xs,u≠.tup xs)/\∀ob w,u≠.frz ob w
 |[],_,_,h=>by obtain⟨_,rfl⟩:=h;intro a I;cases I
 |d::ds,xs,A,h=>by
  obtain⟨v,r,B,C,e,rfl,q,t⟩:=h;intro b j;rcases zas.mp j with j|j
  ·exact Ft.dom d v B q b j
  exact Fts.dom ds r C t b j
end
mutual
theorem Rep.ft:∀(d:D)(v:V),zj d->Rep K H O d v->Ft K H d v []
 |.non,_,_,h=>⟨rfl,h⟩
 |.bl _,_,_,h=>⟨rfl,h⟩
 |.int _,_,_,h=>⟨rfl,h⟩
 |.str _,_,_,h=>⟨rfl,h⟩
 |.ty _,_,_,h=>⟨rfl,h⟩
 |.tup ds,v,p,h=>by
  obtain⟨a,xs,e,q,r⟩:=h;exact⟨a,xs,e,q,Reps.fts ds xs p r⟩
 |.scr ns,v,_,h=>⟨rfl,h⟩
 |.sx _,_,p,_=>p.elim
 |.lst ds,v,p,h=>p.elim
 |.dk ks ds,v,p,h=>p.elim
 |.ob C ns ds,v,p,h=>p.elim
theorem Reps.fts:∀(ds:List D)(xs:List V),zw ds->Reps K H O ds xs->Fts K H ds xs []
 |[],_,_,h=>⟨h,rfl⟩
 |d::ds,xs,p,h=>by
  obtain⟨v,r,e,q,t⟩:=h;exact⟨v,r,[],[],e,rfl,Rep.ft d v p.1 q,Reps.fts ds r p.2 t⟩
end
def hid:Nat->DE->DE
 |_,[]=>[]
 |0,_::U=>none::U
 |l+1,x::U=>x::hid l U
theorem uv:∀(l:Nat)(U:DE),hid l U=U.set l none
 |_,[]=>by cases ‹Nat› <;> rfl
 |0,_::_=>rfl
 |l+1,x::U=>by rw[hid,uv l U,List.set_cons_succ]
def ki{l i:Nat}{U:DE}{r:EV}(h:(hid l U)[i]?=some (some r)):i≠l/\U[i]?=some (some r):=by
 rw[uv]at h;by_cases e:i=l
 ·subst e;rcases Nat.lt_or_ge i U.length with z|z
  ·rw[List.getElem?_set_self z]at h;cases h
  rw[List.getElem?_eq_none (by rw[List.length_set];exact z)]at h;cases h
 rw[List.getElem?_set_ne (Ne.symm e)]at h;exact⟨e,h⟩
def Ql{l i:Nat}{U:DE}(h:i≠l):(hid l U)[i]?=U[i]?:=by
 rw[uv,List.getElem?_set_ne (Ne.symm h)]
def Zx(l:Nat)(U:DE)(x:EV):hid l (setS U l x)=hid l U:=by
 rw[uv,uv,xp,List.set_set]
def sn{l j:Nat}(U:DE)(x:EV)(h:j≠l):hid l (setS U j x)=setS (hid l U) j x:=by
 rw[uv,uv,xp,xp,List.set_comm _ _ h]
def tg(l:Nat)(A:List Addr):List (Nat×Addr):=A.map λa=>(l,a)
def Gp(l:Nat)(A:List Addr):(tg l A).map Prod.snd=A:=by
 unfold tg;rw[List.map_map];exact List.map_id A
def wf(o:List (Nat×Addr))(l:Nat)(A:List Addr):(o++tg l A).map Prod.snd=o.map Prod.snd++A:=by
 rw[zMa,Gp]
structure ST(K:W.Frag)(H_ H:Hp)(G:St)(U:DE)(o:List (Nat×Addr))(l:Nat)(A:List Addr)(d:D)(v:V):Prop where
 Q:REnv K H_ H G (hid l U) (o++tg l A)
 hd:U[l]?=some (some (dv d))
 hv:G[l]?=some (some v)
 ft:Ft K H d v A
section
variable{o:List (Nat×Addr)}{l:Nat}{A A':List Addr}{d d':D}
def ST.lt(S:ST K H_ H G U o l A d v):l<U.length:=(zag.mp S.hd).1
def ST.ndA(S:ST K H_ H G U o l A d v):A.Nodup:=by
 have:=S.Q.nda;rw[wf]at this;exact(List.nodup_append.mp this).2.1
def ST.dis(S:ST K H_ H G U o l A d v):∀a∈A,a∉o.map Prod.snd:=λa q j=>by
 have:=S.Q.nda;rw[wf]at this;exact(List.nodup_append.mp this).2.2 a j a q rfl
def ST.frA(S:ST K H_ H G U o l A d v):∀a∈A,H_ a=none:=λa j=>S.Q.fresh (l,a) (List.mem_append_right _ (zah.mpr ⟨a,j,rfl⟩))
def Ey{i l:Nat}{a:Addr}(h:(i,a)∈o++tg l A)(hi:i≠l):(i,a)∈o:=by
 rcases zas.mp h with h|h
 ·exact h
 obtain⟨b,_,e⟩:=zah.mp h;cases e;exact absurd rfl hi
def ST.R(S:ST K H_ H G U o l A d v):REnv K H_ H G U o where
 same:=S.Q.same
 fresh:=λp j=>S.Q.fresh p (List.mem_append_left _ j)
 trk:=λp j=>S.Q.trk p (List.mem_append_left _ j)
 mtb:=λp j=>S.Q.mtb p (List.mem_append_left _ j)
 nda:=by
  have:=S.Q.nda;rw[wf]at this;exact(List.nodup_append.mp this).1
 len:=by
  have:=S.Q.len;rw[uv,List.length_set]at this;exact this
 slots:=λi r e=>by
  by_cases hi:i=l
  ·subst hi;rw[S.hd]at e;cases e;exact⟨v,S.hv,.inl ⟨rfl,Ft.rep _ _ _ S.dis S.ft⟩⟩
  obtain⟨w,I,q⟩:=S.Q.slots i r (by rw[Ql hi];exact e)
  rw[wf]at q;have sub:∀a∈o.map Prod.snd,a∈o.map Prod.snd++A:=λa B=>List.mem_append_left _ B;refine⟨w,I,?_⟩;rcases q with⟨k,q⟩|⟨k,a,e1,m,c⟩
  ·exact .inl ⟨k,Rep.sub sub _ _ q⟩
  exact .inr ⟨k,a,e1,Ey m hi,c.sub sub⟩
theorem ST.to(S:ST K H_ H G U o l A d v)(s:Same H H'):ST K H_ H' G U o l A d v :=
 ⟨S.Q.to s,S.hd,S.hv,Ft.keep (Gt.same s) _ _ _ (λa _ u h=>s a u h) S.ft⟩
def Grow.gt{O O':List Addr}(g:Grow O O' H H'):Gt H H':=⟨g.tups,g.frzs⟩
def ST.chg(S:ST K H_ H G U o l A d v)(g:Grow A A' H H')(ft:Ft K H' d' v A')(nd:A'.Nodup)(fr:∀ a∈A',a∈A\/H a=none) :
  ST K H_ H' G (setS U l (dv d')) o l A' d' v:=by
 have hl:=S.lt;have Z:Grow ((o++tg l A).map Prod.snd) ((o++tg l A').map Prod.snd) H H':=by
  rw[wf,wf];exact⟨λb u h n=>⟨(g.keep b u h λz=>n (List.mem_append_right _ z)).1,λz=>(zas.mp z).elim (λz=>n (List.mem_append_left _ z)) (g.keep b u h λz=>n (List.mem_append_right _ z)).2⟩,g.tups,g.frzs⟩
 have I:∀p∈o,p.2∉A:=λp j z=>S.dis _ z (zah.mpr ⟨p,j,rfl⟩);refine⟨⟨λb u h=>?_,λp j=>?_,λp j=>?_,λp j=>?_,?_,λi r e=>?_,?_⟩,?_,S.hv,ft⟩
 ·refine(g.keep b u (S.Q.same b u h) λz=>?_).1;rw[S.frA b z]at h;cases h
 ·rcases zas.mp j with j|j
  ·exact S.Q.fresh p (List.mem_append_left _ j)
  obtain⟨a,B,rfl⟩:=zah.mp j;rcases fr a B with h|h
  ·exact S.frA a h
  exact S.Q.same.free h
 ·rcases zas.mp j with j|j
  ·obtain⟨u,e⟩:=S.Q.trk p (List.mem_append_left _ j);exact⟨u,(g.keep _ _ e (I p j)).1⟩
  obtain⟨a,B,rfl⟩:=zah.mp j;obtain⟨u,hu,_⟩:=Ft.dom _ _ _ ft a B;exact⟨u,hu⟩
 ·rcases zas.mp j with j|j
  ·obtain⟨u,e⟩:=S.Q.trk p (List.mem_append_left _ j);obtain⟨m1,m2⟩:=S.Q.mtb p (List.mem_append_left _ j);have e':=(g.keep _ _ e (I p j)).1;refine⟨λxs z=>?_,λM w z=>?_⟩
   ·rw[e']at z;rw[<- e]at z;exact m1 xs z
   rw[e']at z;rw[<- e]at z;exact m2 M w z
  obtain⟨a,B,rfl⟩:=zah.mp j;obtain⟨u,hu,n1,n2⟩:=Ft.dom _ _ _ ft a B;refine⟨λxs z=>?_,λM w z=>?_⟩
  ·rw[hu]at z;cases z;exact n1 _ rfl
  rw[hu]at z;cases z;exact n2 _ _ rfl
 ·rw[wf,List.nodup_append];refine⟨S.R.nda,nd,λa B b hb e=>?_⟩;subst e;rcases fr a hb with h|h
  ·exact S.dis a h B
  exact S.R.ofree h B
 ·rw[Zx]at e;obtain⟨hi,_⟩:=ki e;obtain⟨w,ew,q⟩:=S.Q.slots i r e;refine⟨w,ew,?_⟩;rcases q with⟨k,q⟩|⟨k,a,e1,m,c⟩
  ·exact .inl ⟨k,Rep.grow Z _ _ q⟩
  have N:=Ey m hi;exact .inr ⟨k,a,e1,List.mem_append_left _ N,c.grow (λu h=>(g.keep _ _ h (I _ N)).1) Z⟩
 ·rw[Zx];exact S.Q.len
 rw[xp,List.getElem?_set_self hl]
def REnv.putX(R:REnv K H_ H G U o)(s:Same H H')(i:Nat){r:EV}{v:V}(h:RV K H H' (o.map Prod.snd) r v)(j:r.k≠.own) :
  ∃pre,REnv K H_ H' (G.set i (some v)) (setS U i r.sto) (pre++o):=by
 obtain⟨k,d⟩:=r;cases k with
 |val=>exact⟨[],(R.to s).setV i h⟩
 |own=>exact absurd rfl j
 |fre =>
  obtain⟨a,rfl,m,n,c⟩:=h;exact⟨[(i,a)],(R.setO s i m c).1⟩
 |new=>exact⟨[],(R.to s).setV i (RepN.rep (λa z=>z.1) _ _ h)⟩
theorem ST.set(S:ST K H_ H G U o l A d v)(s:Same H H'){j:Nat}{r:EV}{w:V}(B:j≠l)(h:RV K H H' ((o++tg l A).map Prod.snd) r w)(I:r.k≠.own) :
  ∃o',ST K H_ H' (G.set j (some w)) (setS U j r.sto) o' l A d v:=by
 obtain⟨q,M⟩:=S.Q.putX s j h I;refine⟨q++o,⟨?_,?_,?_,(S.to s).ft⟩⟩
 ·rw[sn _ _ B,List.append_assoc];exact M
 ·rw[xp,List.getElem?_set_ne B];exact S.hd
 rw[List.getElem?_set_ne B];exact S.hv
def ST.setP(S:ST K H_ H G U o l A d v){j:Nat}{e:D}{w:V}(q:j≠l)(B:zj e)(h:Rep K H [] e w):ST K H_ H (G.set j (some w)) (setS U j (dv e)) o l A d v:=by
 refine⟨?_,?_,?_,S.ft⟩
 ·rw[sn _ _ q];exact S.Q.setV j (Rep.pure _ _ B h)
 ·rw[xp,List.getElem?_set_ne q];exact S.hd
 rw[List.getElem?_set_ne q];exact S.hv
end
abbrev TQ:=DE->(D->DE->Prop)->Prop
abbrev TQs:=DE->(List D->DE->Prop)->Prop
abbrev TQb:=DE->(Bool->DE->Prop)->Prop
structure QZ where
 nx:DE->Prop
 rt:D->DE->Prop
 bk:DE->Prop:=λ_=>False
 ct:DE->Prop:=λ_=>False
abbrev TQS:=DE->QZ->Prop
def D4(K:W.Frag)(H_:Hp)(l:Nat)(t:TQ):TE:=λG H Q=>∃U o A d v,ST K H_ H G U o l A d v/\∃Y,t U Y/\∀u e ρ' H' A' d',Grow A A' H H'->ST K H_ H' G ρ' o l A' d' v->zj e->Rep K H' [] e u->Y e ρ'->Q u H'
def D2(K:W.Frag)(H_:Hp)(l:Nat)(t:TQb):TT:=λG H Q=>∃U o A d v,ST K H_ H G U o l A d v/\∃Y,t U Y/\∀b ρ' H' A' d',Grow A A' H H'->ST K H_ H' G ρ' o l A' d' v->Y b ρ'->Q b H'
def Lj(K:W.Frag)(H_:Hp)(l:Nat)(t:TQs):TA:=λG H Q=>∃U o A d v,ST K H_ H G U o l A d v/\∃Y,t U Y/\∀us es ρ' H' A' d',Grow A A' H H'->ST K H_ H' G ρ' o l A' d' v->Reps K H' (o.map Prod.snd++A') es us->Y es ρ'->Q us H'
def Qb(K:W.Frag)(H_:Hp)(l:Nat)(t:TQS):TS:=λDz G H=>∃U o A d v,ST K H_ H G U o l A d v/\∃Z,t U Z /\
 (∀ρ' σ' H' o' A' d',ST K H_ H' σ' ρ' o' l A' d' v->Z.nx ρ'->Dz.nx σ' H') /\
 (∀ρ' σ' H' o' A' d',ST K H_ H' σ' ρ' o' l A' d' v->Z.bk ρ'->Dz.bk σ' H') /\
 (∀ρ' σ' H' o' A' d',ST K H_ H' σ' ρ' o' l A' d' v->Z.ct ρ'->Dz.ct σ' H') /\
 (∀u e ρ' σ' H' o' A' d',ST K H_ H' σ' ρ' o' l A' d' v->zj e->Rep K H' [] e u->Z.rt e ρ'->Dz.rt u H')
def EQ(G:Hp->Prop)(l:Nat)(X:Cx)(e:Expr)(t:TQ):Prop:=∀H_:{H:Hp // G H},PE X e (D4 X.K H_.1 l t)
def QT(G:Hp->Prop)(l:Nat)(X:Cx)(e:Expr)(t:TQb):Prop:=∀H_:{H:Hp // G H},PT X e (D2 X.K H_.1 l t)
def QA(G:Hp->Prop)(l:Nat)(X:Cx)(es:List Expr)(t:TQs):Prop:=∀H_:{H:Hp // G H},PA X es (Lj X.K H_.1 l t)
def QS(G:Hp->Prop)(l:Nat)(X:Cx)(st:Stmt)(t:TQS):Prop:=∀H_:{H:Hp // G H},PS X st (Qb X.K H_.1 l t)
def QSs(G:Hp->Prop)(l:Nat)(X:Cx)(st:List Stmt)(t:TQS):Prop:=∀H_:{H:Hp // G H},PSs X st (Qb X.K H_.1 l t)
theorem we:∀{U:DE}{i:Nat}{r:EV},U[i]?=some (some r)->slot U i=some r
 |[],_,_,h=>by cases h
 |_::_,0,_,h=>Option.some.inj h
 |_::U,i+1,r,h=>we (U:=U) (i:=i) (by simpa using h)
variable{l:Nat}
section
variable{es:List Expr}{pos:Pos}
def qE(te:TD):TQ:=λU Y=>te U λr=>zj r.d/\Y r.d U
def Xg{te:TD}(h:ED L X e te):EQ L l X e (qE te):=λH_=>impE (h H_) λG H Q q=>by
 obtain⟨U,o,A,d,v,S,Y,j,k⟩:=q;exact⟨U,o,S.R,_,j,λu r H1 s1 B h1=>k u r.d U H1 A d (Grow.same s1) (S.to s1) h1.1 B.view.rep0 h1.2⟩
def qT(tc:TDb):TQb:=λU Y=>tc U λb=>Y b U
def u9{tc:TDb}(h:ET L X e tc):QT L l X e (qT tc):=λH_=>impT (h H_) λG H Q q=>by
 obtain⟨U,o,A,d,v,S,Y,j,k⟩:=q;exact⟨U,o,S.R,_,j,λb H1 s1 h1=>k b U H1 A d (Grow.same s1) (S.to s1) h1⟩
def qB(te:TQ):TQb:=λU Y=>te U λd j=>match d with
 |.bl b=>Y b j
 |_=>False
def ba{te:TQ}(h:EQ L l X e te)(M:∀ whole,isTrue e X.env whole=(do let v <- whole;standAt e.pos;holding [v] (truthy v)):=by intro _;rfl):QT L l X e (qB te):=λH_=>impT (E5 (h H_) M) λG H Q q=>by
 obtain⟨U,o,A,d,v,S,Y,B,k⟩:=q;refine⟨U,o,A,d,v,S,_,B,λu r j H1 Z d1 g N pr I h1=>?_⟩;cases r with
 |bl b =>
  cases (show u=_ from I)
  exact⟨b,rfl,k b j H1 Z d1 g N h1⟩
 |_=>exact h1.elim
def Grow.add{H H':Hp}{O A A':List Addr}(g:Grow A A' H H'):Grow (O++A) (O++A') H H' :=
 ⟨λb u h n=>⟨(g.keep b u h λz=>n (List.mem_append_right _ z)).1,λz=>(zas.mp z).elim (λz=>n (List.mem_append_left _ z)) (g.keep b u h λz=>n (List.mem_append_right _ z)).2⟩,g.tups,g.frzs⟩
def Kx:TQs:=λU Y=>Y [] U
def x3:QA L l X [] Kx:=λH_=>impA sw λG H Q q=>by
 obtain⟨U,o,A,d,v,S,Y,j,k⟩:=q;exact k [] [] U H A d Grow.refl S rfl j
def L5(te:TQ)(B:TQs):TQs:=λU Y=>te U λd q=>B q λds j=>Y (d::ds) j
def gd{te:TQ}{N:TQs}(he:EQ L l X e te)(hr:QA L l X es N)(hs:S_ X e es:=by rfl):QA L l X (e::es) (L5 te N):=λH_=>impA (u0 (he H_) (hr H_) hs) λG H Q q=>by
 obtain⟨U,o,A,d,v,S,Y,M,k⟩:=q;refine⟨U,o,A,d,v,S,_,M,λu r B H1 A1 d1 g1 S1 pr Z h1=>⟨B,o,A1,d1,v,S1,_,h1,λus rs j H2 A2 d2 g2 S2 I h2=>?_⟩⟩;exact k (u::us) (r::rs) j H2 A2 d2 (g1.trans g2) S2 ⟨u,us,rfl,Rep.keep g2.gt _ _ pr Z,I⟩ h2
def R7(te:TD)(q:TQs):TQs:=λU Y=>te (hid l U) λr=>(match r.k with|.own=>False|_=>True)/\q U λds j=>Y (r.d::ds) j
def y7{te:TD}{M:TQs}(he:ED L X e te)(hr:QA L l X es M)(hs:S_ X e es:=by rfl):QA L l X (e::es) (R7 (l:=l) te M):=λH_=>impA (u0 (he H_) (hr H_) hs) λG H Q q=>by
 obtain⟨U,o,A,d,v,S,Y,I,k⟩:=q;refine⟨hid l U,_,S.Q,_,I,λu r H1 s1 Z h1=>⟨U,o,A,d,v,S.to s1,_,h1.2,λus rs j H2 A2 d2 g2 S2 B h2=>?_⟩⟩;have N:=Z.solid (ub h1.1);rw[wf]at N;exact k (u::us) (r.d::rs) j H2 A2 d2 ((Grow.same s1).trans g2) S2 ⟨u,us,rfl,Rep.grow g2.add _ _ N,B⟩ h2
end
section
variable{c:Expr}{st:Stmt}{rest a b:List Stmt}{pos:Pos}{t u:TQS}
def qNil:TQS:=λU Z=>Z.nx U
def qSeq(t u:TQS):TQS:=λU Z=>t U {Z with nx:=λj=>u j Z}
def qRet(te:TQ):TQS:=λU Z=>te U Z.rt
def Fw(te:TQ):TQS:=λU Z=>te U λ_ j=>Z.nx j
def qIf(tc:TQb)(t u:TQS):TQS:=λU Z=>tc U λb j=>(b=true->t j Z)/\(b=false->u j Z)
def qSet(l j:Nat)(te:TD):TQS:=λU Z=>te (hid l U) λr=>(match r.k with|.own=>False|_=>True)/\Z.nx (setS U j r.sto)
def Fq(j:Nat)(te:TQ):TQS:=λU Z=>te U λd q=>Z.nx (setS q j (dv d))
def jd:QSs L l X [] qNil:=λH_=>Wn Zk λDz G H h=>by
 obtain⟨U,o,A,d,v,S,Z,q,j,M,I,B⟩:=h;exact j U G H o A d S q
def y9(h:QS L l X st t):QSs L l X [st] t:=λH_=>rh (h H_)
def yh(h:QS L l X st t)(hr:QSs L l X rest u):QSs L l X (st::rest) (qSeq t u):=λH_=>Wn (ww (h H_) (hr H_)) λDz G H h=>by
 obtain⟨U,o,A,d,v,S,Z,hZ,N,I,B,q⟩:=h;exact⟨U,o,A,d,v,S,_,hZ,λj M H' o' A' d' S' h'=>⟨j,o',A',d',v,S',Z,h',N,I,B,q⟩,I,B,q⟩
def Vj{te:TQ}(h:EQ L l X e te):QS L l X (.Return (some e) pos) (qRet te):=λH_=>impS (bh (h H_)) λDz G H h=>by
 obtain⟨U,o,A,d,v,S,Z,M,k1,k2,k3,I⟩:=h;exact⟨U,o,A,d,v,S,_,M,λu r j H1 A1 d1 g N B q h1=>I u r j G H1 o A1 d1 N B q h1⟩
def Fu:TQS:=λU Z=>Z.rt .non U
def Ku:QS L l X (.Return none pos) Fu:=λH_=>impS J3 λDz G H h=>by
 obtain⟨U,o,A,d,v,S,Z,q,M,I,B,j⟩:=h;exact j .non .non U G H o A d S trivial rfl q
def xi{te:TQ}(h:EQ L l X e te)(B:swapsWith e none pos.line X.env=pure false:=by rfl):QS L l X (.Expr e pos) (Fw te):=λH_=>impS (rj (h H_) B) λDz G H h=>by
 obtain⟨U,o,A,d,v,S,Z,I,q,k2,k3,k4⟩:=h;exact⟨U,o,A,d,v,S,_,I,λu r j H1 N d1 g M pr rr h1=>q j G H1 o N d1 M h1⟩
def wz{tc:TQb}(hc:QT L l X c tc)(ha:QSs L l X a t)(hb:QSs L l X b u):QS L l X (.If c a b pos) (qIf tc t u):=λH_=>impS (Ox (hc H_) (ha H_) (hb H_)) λDz G H h=>by
 obtain⟨U,o,A,d,v,S,Z,hZ,M,I,B,q⟩:=h;refine⟨U,o,A,d,v,S,_,hZ,λb j H1 A1 d1 g N h1=>?_⟩;cases b with
 |true=>rw[if_pos rfl];exact⟨j,o,A1,d1,v,N,Z,h1.1 rfl,M,I,B,q⟩
 |false=>rw[if_neg (by decide)];exact⟨j,o,A1,d1,v,N,Z,h1.2 rfl,M,I,B,q⟩
def Vi(j:Nat){x:Str}{pos':Pos}{te:TD}(hj:j≠l)(hN:X.N.Nodup)(he:ED L X e te)(hi:X.N[j]?=some x:=by rfl)(I:Loc X.env.scope x:=by first|exact Or.inl rfl|exact Or.inr rfl)(M:swapsWith e (some (.Name x pos')) pos.line X.env=pure false:=by rfl)(hf:X.fn x=true\/X.env.scope.names.lookup x=some .local:=by first|exact .inl rfl|exact .inr rfl|assumption):QS L l X (.Assign [.Name x pos'] e pos) (qSet l j te):=λH_=>impS (gh hN hi I (he H_) M hf) λDz G H h=>by
 obtain⟨U,o,A,d,v,S,Z,hZ,B,k2,k3,k4⟩:=h;refine⟨hid l U,_,S.Q,_,hZ,λw r H1 s1 q h1=>?_⟩;obtain⟨o',S'⟩:=S.set s1 hj q (ub h1.1);exact B _ _ H1 o' A d S' h1.2
def k9(j:Nat){x:Str}{pos':Pos}{te:TQ}(hj:j≠l)(hN:X.N.Nodup)(he:EQ L l X e te)(hi:X.N[j]?=some x:=by rfl)(hx:Loc X.env.scope x:=by first|exact Or.inl rfl|exact Or.inr rfl)(hs:swapsWith e (some (.Name x pos')) pos.line X.env=pure false:=by rfl)(hf:X.fn x=true\/X.env.scope.names.lookup x=some .local:=by first|exact .inl rfl|exact .inr rfl|assumption):QS L l X (.Assign [.Name x pos'] e pos) (Fq j te):=λH_=>impS (gh hN hi hx (he H_) hs hf) λDz G H h=>by
 obtain⟨U,o,A,d,v,S,Z,hZ,M,k2,k3,k4⟩:=h;refine⟨U,o,A,d,v,S,_,hZ,λw r q H1 A1 d1 g S1 I B h1=>?_⟩;exact M _ _ H1 o A1 d1 (S1.setP hj I B) h1
end
abbrev FTQ:=D->List D->(D->D->Prop)->Prop
def spQ(K:W.Frag)(n:Nat)(T:FTQ):Sp:=λvs H Q _=>∃d ds v ws A Y,vs=v::ws/\ds.length+1=n/\Ft K H d v A/\A.Nodup/\Reps K H A ds ws/\T d ds Y /\
 ∀u r d' H' A',Grow A A' H H'->Ft K H' d' v A'->A'.Nodup->(∀a∈A',a∈A\/H a=none)->zj r->Rep K H' [] r u->Y r d'->Q u H'
def vc(A:List Addr)(H:Hp):Hp:=λb=>if b∈A then none else H b
def k5{A:List Addr}{H:Hp}{b:Addr}(h:b∈A):vc A H b=none:=if_pos h
def xo{A:List Addr}{H:Hp}{b:Addr}(h:b∉A):vc A H b=H b:=if_neg h
def jb(A:List Addr)(H:Hp):Same (vc A H) H:=λb u h=>by
 by_cases hb:b∈A
 ·rw[k5 hb]at h;cases h
 rw[xo hb]at h;exact h
section
def O1{a:Addr}{xs ys:List V}(h:H a=some (.lst xs)):Grow [a] [a] H (upd H a (.lst ys)) :=
 ⟨λb u j n=>⟨by rw[y0 (λz=>n (by rw[z];exact zao))];exact j,n⟩,λb zs j=>by rw[y0 (λz=>by rw[z,h]at j;cases j)];exact j,λb q u j=>by rw[y0 (λz=>by rw[z,h]at j;cases j)];exact j⟩
end
def D3(K:W.Frag)(H_:Hp)(l:Nat)(t:TQs):TE:=λG H Q=>∃U o A d v,ST K H_ H G U o l A d v/\∃Y,t U Y /\
 ∀a xs es ρ' H' A' d',Grow A A' H H'->ST K H_ H' G ρ' o l A' d' v->H' a=some (.lst xs)->a∉A'->a∉o.map Prod.snd->zw es->Reps K H' [] es xs->Y es ρ'->Q (.ref a) H'
def QL(G:Hp->Prop)(l:Nat)(X:Cx)(e:Expr)(t:TQs):Prop:=∀H_:{H:Hp // G H},PE X e (D3 X.K H_.1 l t)
section
variable{st:Stmt}{t u:TQS}
def qCut(t:TQS):TQS:=λU Z=>∃J:DE->Prop,t U {Z with nx:=J}/\∀ρ',J ρ'->Z.nx ρ'
def xq(h:QS L l X st t):QS L l X st (qCut t):=λH_=>impS (h H_) λDz G H h=>by
 obtain⟨U,o,A,d,v,S,Z,⟨J,hZ,hJ⟩,k1,k2,N,M⟩:=h;exact⟨U,o,A,d,v,S,_,hZ,λj q H2 I A2 d2 S2 B=>k1 j q H2 I A2 d2 S2 (hJ j B),k2,N,M⟩
def x9{U:DE}{Z:QZ}(J:DE->Prop)(h1:t U {Z with nx:=J})(h2:∀ ρ2,J ρ2->u ρ2 Z):qSeq (qCut t) u U Z:=⟨J,h1,h2⟩
end
def valP(H:Hp):List Nat->V->V->Prop
 |[],v,u=>u=v
 |i::π,v,u=>∃a xs w,v=.ref a/\H a=some (.lst xs)/\xs[i]?=some w/\valP H π w u
theorem Fts.length:∀{ds:List D}{xs:List V}{A:List Addr},Fts K H ds xs A->xs.length=ds.length
 |[],_,_,h=>by rw[h.1];rfl
 |d::ds,xs,A,h=>by
  obtain⟨v,r,B,C,rfl,_,_,t⟩:=h;simp[Fts.length t]
theorem Fts.foc:∀{ds:List D}{xs:List V}{A:List Addr}{i:Nat}{d:D},Fts K H ds xs A->ds[i]?=some d->∃w I B C,xs[i]?=some w/\A=B++I++C/\Ft K H d w I /\
  ∀H' e A1',Gt H H'->(∀a∈B++C,∀u,H a=some u->H' a=some u)->Ft K H' e w A1'->Fts K H' (ds.set i e) xs (B++A1'++C)
 |[],_,_,_,_,_,e=>by simp at e
 |d0::ds,xs,A,0,d,h,e=>by
  obtain⟨v,r,B,C,rfl,rfl,q,t⟩:=h;cases (show d0=d from by simpa using e)
  refine⟨v,B,[],C,rfl,rfl,q,λH' e A1' g k f=>⟨v,r,A1',C,rfl,rfl,f,Fts.keep g _ _ _ (λa j=>k a j) t⟩⟩
 |d0::ds,xs,A,i+1,d,h,e=>by
  obtain⟨v,r,B,C,rfl,rfl,q,t⟩:=h;obtain⟨w,I,Z,N,ew,rfl,f,k⟩:=Fts.foc (i:=i) t (by simpa using e)
  refine⟨w,I,B++Z,N,by simpa using ew,by simp,f,λH' e A1' g M f'=>⟨v,r,B,Z++A1'++N,rfl,by simp,Ft.keep g _ _ _ (λa j=>M a (by simp[j])) q,k H' e A1' g (λa j=>M a (by simp at j ⊢;rcases j with j|j <;> simp[j])) f'⟩⟩
theorem Fts.put:∀{ds:List D}{xs:List V}{A:List Addr}(i:Nat){e:D}{u:V},Fts K H ds xs A->Ft K H e u []->∃A',A'.Sublist A/\Fts K H (ds.set i e) (xs.set i u) A'
 |[],_,_,_,_,_,h,_=>⟨_,List.Sublist.refl _,by obtain⟨rfl,rfl⟩:=h;exact⟨rfl,rfl⟩⟩
 |d::ds,xs,A,0,e,u,h,f=>by
  obtain⟨v,r,B,C,rfl,rfl,q,t⟩:=h;exact⟨C,List.sublist_append_right _ _,u,r,[],C,rfl,rfl,f,t⟩
 |d::ds,xs,A,i+1,e,u,h,f=>by
  obtain⟨v,r,B,C,rfl,rfl,q,t⟩:=h;obtain⟨j,s,t'⟩:=Fts.put i t f;exact⟨B++j,List.Sublist.append (List.Sublist.refl _) s,v,_,B,j,rfl,rfl,q,t'⟩
theorem Fts.app:∀{ds es:List D}{xs ys:List V}{A B:List Addr},Fts K H ds xs A->Fts K H es ys B->Fts K H (ds++es) (xs++ys) (A++B)
 |[],_,_,_,_,_,h,f=>by obtain⟨rfl,rfl⟩:=h;exact f
 |d::ds,es,xs,ys,A,B',h,f=>by
  obtain⟨v,r,B,C,rfl,rfl,q,t⟩:=h;exact⟨v,r++ys,B,C++B',rfl,by simp,q,Fts.app t f⟩
mutual
theorem Ft.repN{P:Addr->Prop}:∀(d:D)(v:V)(A:List Addr),(∀a∈A,P a)->Ft K H d v A->RepN K H P d v
 |.lst ds,v,A,k,h=>by
  obtain⟨a,xs,B,e,q,rfl,r⟩:=h;exact⟨a,xs,e,q,k a zao,Fts.repNs ds xs B (λb j=>k b (zal _ j)) r⟩
 |.dk ks ds,v,A,k,h=>by
  obtain⟨a,xs,B,e,q,l,n,rfl,r⟩:=h;exact⟨a,xs,e,q,k a zao,l,n,Fts.repNs ds xs B (λb j=>k b (zal _ j)) r⟩
 |.tup ds,v,A,k,h=>by
  obtain⟨a,xs,e,q,r⟩:=h;exact⟨a,xs,e,q,Fts.repNs ds xs A k r⟩
 |.non,_,_,_,h=>h.2
 |.bl _,_,_,_,h=>h.2
 |.int _,_,_,_,h=>h.2
 |.str _,_,_,_,h=>h.2
 |.ty _,_,_,_,h=>h.2
 |.scr ns,v,A,_,h=>h.2
 |.sx _,_,_,_,h=>h.elim
 |.ob C ns ds,v,A,k,h=>by
  obtain⟨a,dx,xs,B,e,q,l,n,rfl,r⟩:=h;exact⟨a,dx,xs,e,q,k a zao,l,n,Fts.repNs ds xs B (λb j=>k b (zal _ j)) r⟩
theorem Fts.repNs{P:Addr->Prop}:∀(ds:List D)(xs:List V)(A:List Addr),(∀a∈A,P a)->Fts K H ds xs A->xn K H P ds xs
 |[],_,_,_,h=>h.1
 |d::ds,xs,A,k,h=>by
  obtain⟨v,r,B,C,e,rfl,q,t⟩:=h;exact⟨v,r,e,Ft.repN d v B (λb j=>k b (List.mem_append_left _ j)) q,Fts.repNs ds r C (λb j=>k b (List.mem_append_right _ j)) t⟩
end
section
variable{o:List (Nat×Addr)}{A:List Addr}{d:D}
def ST.letgo(S:ST K H_ H G U o l A d v){i:Nat}(hi:i≠l)(w:V):ST K H_ H (G.set i (some w)) (hid i U) o l A d v:=by
 refine⟨⟨S.Q.same,S.Q.fresh,S.Q.trk,S.Q.mtb,S.Q.nda,λj r e=>?_,?_⟩,?_,?_,S.ft⟩
 ·obtain⟨I,e⟩:=ki e;obtain⟨B,e⟩:=ki e;obtain⟨u,M,q⟩:=S.Q.slots j r (by rw[Ql I];exact e)
  exact⟨u,by rw[List.getElem?_set_ne (Ne.symm B)];exact M,q⟩
 ·rw[List.length_set,S.Q.len];simp only[uv,List.length_set]
 ·rw[Ql (Ne.symm hi)];exact S.hd
 rw[List.getElem?_set_ne hi];exact S.hv
end
abbrev TP1:=DE->(List Nat->Prop)->Prop
def Bk(K:W.Frag)(H_:Hp)(l:Nat)(t:TP1):TE:=λG H Q=>∃U o A d v,ST K H_ H G U o l A d v/\∃Y,t U Y/\∀u π H',Same H H'->valP H' π v u->Y π->Q u H'
def EP1(G:Hp->Prop)(l:Nat)(X:Cx)(e:Expr)(t:TP1):Prop:=∀H_:{H:Hp // G H},PE X e (Bk X.K H_.1 l t)
section
variable{x:Str}{es:List Expr}{te:TD}
def Jg:TP1:=λ_ Y=>Y []
abbrev TF:=DE->(D->Prop)->Prop
abbrev TFs:=DE->(List D->Prop)->Prop
def Bm(K:W.Frag)(H_:Hp)(l:Nat)(t:TF):TE:=λG H Q=>∃U o A d v,ST K H_ H G U o l A d v/\∃Y,t U Y/\∀u e B H',Same H H'->Ft K H' e u B->B.Nodup->(∀b∈B,H b=none)->Y e->Q u H'
def D6(K:W.Frag)(H_:Hp)(l:Nat)(t:TFs):TA:=λG H Q=>∃U o A d v,ST K H_ H G U o l A d v/\∃Y,t U Y/\∀us es B H',Same H H'->Fts K H' es us B->B.Nodup->(∀b∈B,H b=none)->Y es->Q us H'
def EF(G:Hp->Prop)(l:Nat)(X:Cx)(e:Expr)(t:TF):Prop:=∀H_:{H:Hp // G H},PE X e (Bm X.K H_.1 l t)
def EFs(G:Hp->Prop)(l:Nat)(X:Cx)(es:List Expr)(t:TFs):Prop:=∀H_:{H:Hp // G H},PA X es (D6 X.K H_.1 l t)
def frs1:EV->Prop
 |⟨.fre,.lst ds⟩=>zw ds
 |⟨.new,.lst ds⟩=>zw ds
 |⟨_,d⟩=>zj d
def Dv{K:W.Frag}{H H':Hp}{O:List Addr}{r:EV}{v:V}(h:RV K H H' O r v)(p:frs1 r):∃B,Ft K H' r.d v B/\B.Nodup/\∀b∈B,H b=none:=by
 have N:zj r.d->∃B,Ft K H' r.d v B/\B.Nodup/\∀b∈B,H b=none:=λZ=>⟨[],Rep.ft _ _ Z h.view.rep0,List.nodup_nil,λb j=>by cases j⟩
 obtain⟨k,d⟩:=r;unfold frs1 at p;split at p
 ·rename_i ds q;cases q;obtain⟨a,rfl,m,n,xs,M,I⟩:=h;exact⟨[a],⟨a,xs,[],rfl,M,rfl,Reps.fts _ _ p I⟩,by simp,λb j=>by rw[List.mem_singleton.mp j];exact m⟩
 ·rename_i ds q;cases q;obtain⟨a,xs,rfl,M,pa,I⟩:=h;exact⟨[a],⟨a,xs,[],rfl,M,rfl,Reps.fts (O:=[]) _ _ p (xn.reps (λ_ _ z=>by cases z) _ _ I)⟩,by simp,λb j=>by rw[List.mem_singleton.mp j];exact pa.2⟩
 rename_i k' d' _ _ q;cases q;exact N p
def fNil:TFs:=λ_ Y=>Y []
def Hv:EFs L l X [] fNil:=λH_=>impA sw λG H Q q=>by
 obtain⟨U,o,A,d,v,S,Y,j,k⟩:=q;exact k [] [] [] H (Same.refl H) ⟨rfl,rfl⟩ List.nodup_nil (λb B=>by cases B) j
def Hu(te:TF)(j:TFs):TFs:=λU Y=>te U λd=>j U λds=>Y (d::ds)
def U7{te:TF}{tr:TFs}(he:EF L l X e te)(hr:EFs L l X es tr)(hs:S_ X e es:=by rfl):EFs L l X (e::es) (Hu te tr):=λH_=>impA (u0 (he H_) (hr H_) hs) λG H Q q=>by
 obtain⟨U,o,A,d,v,S,Y,M,k⟩:=q;refine⟨U,o,A,d,v,S,_,M,λu e1 B1 H1 s1 f1 n1 N h1=>⟨U,o,A,d,v,S.to s1,_,h1,λus a0 B2 H2 s2 f2 n2 B h2=>?_⟩⟩;have Z:Ft X.K H2 e1 u B1:=Ft.keep (Gt.same s2) _ _ _ (λa _ x I=>s2 _ _ I) f1;refine k (u::us) (e1::a0) (B1++B2) H2 (s1.trans s2) ⟨u,us,B1,B2,rfl,rfl,Z,f2⟩ ?_ (λb j=>?_) h2
 ·rw[List.nodup_append];refine⟨n1,n2,λa ha b j e=>?_⟩;subst e;obtain⟨x,I,_⟩:=Ft.dom _ _ _ f1 a ha;rw[B a j]at I;cases I
 rcases zas.mp j with j|j
 ·exact N b j
 exact s1.free (B b j)
end
def Vy(K:W.Frag)(H_:Hp)(l:Nat)(t:TQS):TS:=λDz G H=>∃U o A d v,ST K H_ H G U o l A d v/\∃Z,t U Z /\
 (∀ρ' σ' H' o' A' d',ST K H_ H' σ' ρ' o' l A' d' v->Z.nx ρ'->Dz.nx σ' H') /\
 (∀u e ρ' H',Same H_ H'->RepN K H' (λa=>H_ a=none) e u->Z.rt e ρ'->Dz.rt u H')
def RS(G:Hp->Prop)(l:Nat)(X:Cx)(st:Stmt)(t:TQS):Prop:=∀H_:{H:Hp // G H},PS X st (Vy X.K H_.1 l t)
def RSs(G:Hp->Prop)(l:Nat)(X:Cx)(st:List Stmt)(t:TQS):Prop:=∀H_:{H:Hp // G H},PSs X st (Vy X.K H_.1 l t)
section
variable{st:Stmt}{rest a b:List Stmt}{t u:TQS}{c:Expr}{pos:Pos}
def Fj:RSs L l X [] qNil:=λH_=>Wn Zk λDz G H h=>by
 obtain⟨U,o,A,d,v,S,Z,q,j,B⟩:=h;exact j _ _ _ _ _ _ S q
def L1(h:RS L l X st t):RSs L l X [st] t:=λH_=>rh (h H_)
def Kq(h:RS L l X st t)(hr:RSs L l X rest u):RSs L l X (st::rest) (qSeq t u):=λH_=>Wn (ww (h H_) (hr H_)) λDz G H h=>by
 obtain⟨U,o,A,d,v,S,Z,M,I,q⟩:=h;exact⟨U,o,A,d,v,S,_,M,λj B H' o' A' d' N h'=>⟨j,o',A',d',v,N,Z,h',I,q⟩,q⟩
def B8{tc:TQb}(N:QT L l X c tc)(ha:RSs L l X a t)(hb:RSs L l X b u):RS L l X (.If c a b pos) (qIf tc t u):=λH_=>impS (Ox (N H_) (ha H_) (hb H_)) λDz G H h=>by
 obtain⟨U,o,A,d,v,S,Z,hZ,B,q⟩:=h;refine⟨U,o,A,d,v,S,_,hZ,λbb j H1 M d1 g I h1=>?_⟩;cases bb
 ·exact⟨j,o,M,d1,v,I,Z,h1.2 rfl,B,q⟩
 exact⟨j,o,M,d1,v,I,Z,h1.1 rfl,B,q⟩
end
abbrev FTR:=D->List D->(D->Prop)->Prop
def spR(K:W.Frag)(n:Nat)(T:FTR):Sp:=λvs H Q _=>∃d ds v ws A Y,vs=v::ws/\ds.length+1=n/\Ft K H d v A/\A.Nodup/\Reps K H A ds ws/\T d ds Y /\
 ∀u e H',(∀b x,H b=some x->b∉A->H' b=some x)->RepN K H' (λa=>a∈A\/H a=none) e u->Y e->Q u H'
structure FR(P:Program)(w:World)(K:W.Frag)(mg:Str->Option Value)(base:Heap)(k:Nat)(x:Str)(ps:List Str)(T:FTR):Prop where
 ex:∃f fd,FnOk P w K mg base CX0 k f fd ps (spR K ps.length T)/\ua K fd ps []/\W.keepIn K (.ref f)=true/\mg x=some (.ref f)
def V9{N:List Str}{d:D}{ds:List D}{v:V}{M:List V}{H:Hp}{j:List Addr}(ft:Ft K H d v j)(nd:j.Nodup)(r:Reps K H j ds M):ST K (vc j H) H (ZZ.start N (v::M)) (wa N.length (d::ds)) [] 0 j d v:=by
 have R0:=sj (N:=N) (ds:=d::ds) (vs:=v::M) (H:=H) ⟨v,M,rfl,Ft.rep _ _ _ (λa _ z=>by cases z) ft,Reps.sub (λa B=>by cases B) _ _ r⟩
 have s0:=jb j H;refine⟨⟨s0,λp Z=>?_,λp Z=>?_,λp Z=>?_,?_,λi q e=>?_,?_⟩,rfl,rfl,ft⟩
 ·obtain⟨a,B,rfl⟩:=zah.mp (show p∈tg 0 j from Z);exact k5 B
 ·obtain⟨a,B,rfl⟩:=zah.mp (show p∈tg 0 j from Z);obtain⟨u,hu,_⟩:=Ft.dom _ _ _ ft a B;exact⟨u,hu⟩
 ·obtain⟨a,B,rfl⟩:=zah.mp (show p∈tg 0 j from Z);obtain⟨u,hu,n1,n2⟩:=Ft.dom _ _ _ ft a B;refine⟨λxs z=>?_,λob w z=>?_⟩
  ·rw[hu]at z;cases z;exact n1 _ rfl
  rw[hu]at z;cases z;exact n2 _ _ rfl
 ·rw[wf];exact nd
 ·obtain⟨hi,e⟩:=ki e;rw[wf];cases i with
  |zero=>exact absurd rfl hi
  |succ i =>
   have I:((ds.map λd=>some (dv d))++List.replicate (N.length-(d::ds).length) none)[i]?=some (some q):=e;rcases Nat.lt_or_ge i ds.length with hi|hi
   ·rw[List.getElem?_append_left (by simpa using hi),zai]at I
    have ed:ds[i]?=some ds[i]:=by simp[hi]
    rw[ed]at I;have e2:some (dv ds[i])=some q:=Option.some.inj I;cases e2;obtain⟨u,eu,ru⟩:=r.get ed;refine⟨u,?_,.inl ⟨rfl,ru⟩⟩;unfold ZZ.start;show((M.map some)++_)[i]?=_;rw[List.getElem?_append_left (by rw[zLm,r.length];exact hi),zai,eu]
    rfl
   rw[List.getElem?_append_right (by simpa using hi),List.getElem?_replicate]at I
   split at I <;> cases I
 rw[uv,List.length_set];exact R0.len
def Bs{x j:Str}{st:Stmt}{f:Addr}{fd:FuncData}{N ps:List Str}{k:Nat}{T:FTR}(F:Fun K x j st f fd)(S:zu N ps (zd st))(b:ua K fd ps [])(m:mg x=some (.ref f))(qY:∀ (qZ:Value) (A:Around) (outer:List Env) (s:Shared) (H:Hp) (E:XK) (d:D) (ds:List D) (Y:D->Prop),Room k (A.deeper (envOfC j (zd st) s.heap.objs.size f qZ))->ds.length+1=ps.length->T d ds Y ->
   ∃ t,RSs (λ_=>True) 0 (cxOf CX0 P w K mg base N j (zd st) f qZ A outer s H E).nox (yt st) t/\t (wa N.length (d::ds)) {nx:=λ_=>False,rt:=λr _=>Y r}):FR P w K mg base (k+1) x ps T:=by
 refine⟨f,fd,F.ok S (λvs H Q E h=>?_) (λqZ A outer s H vs Q E hr h=>?_),b,F.kp,m⟩
 ·obtain⟨d,ds,v,Z,A,Y,rfl,hl,_,_,r,_⟩:=h;rw[zLc,r.length,hl]
 obtain⟨d,ds,v,Z,q,Y,rfl,hl,ft,nd,r,hT,kk⟩:=h;obtain⟨t,ht,hq⟩:=qY qZ A outer s H E d ds Y hr hl hT;have S0:=V9 (N:=N) ft nd r;refine⟨Vy K (vc q H) 0 t,ht ⟨vc q H,trivial⟩,wa N.length (d::ds),[],q,d,v,S0,_,hq,λB M H' o' A' d2 S' h'=>h'.elim,λu e B H' s' re h'=>?_⟩;refine kk u e H' (λb x hb hn=>s' b x (by rw[xo hn];exact hb)) (RepN.to (Same.refl _) (λa I=>?_) _ _ re) h'
 by_cases hA:a∈q
 ·exact .inl hA
 rw[xo hA]at I;exact .inr I
def gL5(i j l m n:Nat):TGD:=λd U M=>match d with
 |.lst [a,b,c,e,f]=>M (setS (setS (setS (setS (setS U i (dv a)) j (dv b)) l (dv c)) m (dv e)) n (dv f))
 |_=>False
def Hf{K:W.Frag}(i j l m n:Nat):qz K (gLst K 5 (vo (wt i) (vo (wt j) (vo (wt l) (vo (wt m) (vo (wt n) gNil)))))) (gL5 i j l m n):=λH_ H G U o d v M Q R h B k=>by
 unfold gL5 at B;split at B
 ·rename_i a b c e f;obtain⟨p,xs,rfl,q,n,r⟩:=h;obtain⟨v1,r1,rfl,h1,v2,r2,rfl,h2,Z,r3,rfl,h3,N,r4,rfl,h4,I,r5,rfl,h5,rfl⟩:=r;refine⟨p,_,rfl,SqL.of q,rfl,v1,_,rfl,v2,_,rfl,Z,_,rfl,N,_,rfl,I,_,rfl,rfl,?_⟩;exact k _ _ (((((R.setV i h1).setV j h2).setV l h3).setV m h4).setV _ h5) B
 exact B.elim
def bj:D->Option (List D)
 |.lst ds=>some ds
 |.tup ds=>some ds
 |.ob _ _ ds=>some ds
 |_=>none
def Py:D->List D->D
 |.lst _,ds=>.lst ds
 |.tup _,ds=>.tup ds
 |.ob C ns _,ds=>.ob C ns ds
 |d,_=>d
def atQ:List Nat->D->Option D
 |[],d=>some d
 |i::π,d=>match bj d with
  | some ds=>(match ds[i]? with
   |some x=>atQ π x
   | none=>none)
  |none=>none
def putQ:List Nat->D->D->D
 |[],_,e=>e
 |i::π,d,e=>match bj d with
  | some ds=>(match ds[i]? with
   |some x=>Py d (ds.set i (putQ π x e))
   | none=>d)
  |none=>d
def Kids(H:Hp)(a:Addr)(xs:List V):Prop:=H a=some (.lst xs)\/H a=some (.tup xs)\/∃C dx,∃ns:List Str,H a=some (.ins C dx (ns.zip xs))/\ns.length=xs.length
theorem vt1{α j:Type}:∀{ns:List α}{xs:List j},ns.length=xs.length->(ns.zip xs).map Prod.snd=xs
 |[],[],_=>rfl
 |[],_::_,h=>by simp at h
 |_::_,[],h=>by simp at h
 |_::_,_::_,h=>by simp[vt1 (by simpa using h)]
def Kids.fn{H:Hp}{a:Addr}{xs ys:List V}(h:Kids H a xs)(h':Kids H a ys):xs=ys:=by
 rcases h with h|h|⟨C,dx,ns,h,l⟩
 ·rcases h' with h'|h'|⟨C',dx',ns',h',l'⟩
  ·rw[h]at h';cases h';rfl
  ·rw[h]at h';cases h'
  rw[h]at h';cases h'
 ·rcases h' with h'|h'|⟨C',dx',ns',h',l'⟩
  ·rw[h]at h';cases h'
  ·rw[h]at h';cases h';rfl
  rw[h]at h';cases h'
 rcases h' with h'|h'|⟨C',dx',ns',h',l'⟩
 ·rw[h]at h';cases h'
 ·rw[h]at h';cases h'
 rw[h]at h'
 injection h' with h'
 injection h' with _ _ e
 have:=congrArg (List.map Prod.snd) e;rw[vt1 l,vt1 l']at this;exact this
def Kids.to{H H':Hp}{a:Addr}{xs:List V}(s:Same H H')(h:Kids H a xs):Kids H' a xs:=by
 rcases h with h|h|⟨C,dx,ns,h,l⟩
 ·exact .inl (s _ _ h)
 ·exact .inr (.inl (s _ _ h))
 exact .inr (.inr ⟨C,dx,ns,s _ _ h,l⟩)
def valQ(H:Hp):List Nat->V->V->Prop
 |[],v,u=>u=v
 |i::π,v,u=>∃a xs w,v=.ref a/\Kids H a xs/\xs[i]?=some w/\valQ H π w u
theorem valQ.fn{H:Hp}:∀{π:List Nat}{v u u':V},valQ H π v u->valQ H π v u'->u=u'
 |[],_,_,_,h,h'=>h.trans h'.symm
 |i::π,_,_,_,⟨a,xs,w,e,q,g,h⟩,⟨a',xs',w',e',q',g',h'⟩=>by
  rw[e]at e';cases e';cases q.fn q';rw[g]at g';cases g';exact h.fn h'
theorem valQ.to{H H':Hp}(s:Same H H'):∀{π:List Nat}{v u:V},valQ H π v u->valQ H' π v u
 |[],_,_,h=>h
 |i::π,_,_,⟨a,xs,w,e,q,g,h⟩=>⟨a,xs,w,e,q.to s,g,h.to s⟩
theorem valQ.snoc{H:Hp}{i:Nat}{a:Addr}{xs:List V}{w:V}:∀{π:List Nat}{v:V},valQ H π v (.ref a)->Kids H a xs->xs[i]?=some w->valQ H (π++[i]) v w
 |[],v,h,q,g=>⟨a,xs,w,h.symm,q,g,rfl⟩
 |j::π,v,⟨b,ys,z,e,q',g',h⟩,q,g=>⟨b,ys,z,e,q',g',h.snoc q g⟩
def Ft.parts{d:D}{v:V}{A:List Addr}{ds:List D}(h:Ft K H d v A)(p:bj d=some ds):∃a xs T B,v=.ref a/\Kids H a xs/\A=T++B/\Fts K H ds xs B /\
  ∀H' j I,Gt H H'->(∀b∈T,∀u,H b=some u->H' b=some u)->j.length=ds.length->Fts K H' j xs I->Ft K H' (Py d j) v (T++I):=by
 cases d with
 |lst es =>
  cases p
  obtain⟨a,xs,B,e,q,rfl,r⟩:=h;exact⟨a,xs,[a],B,e,.inl q,rfl,r,λH' j I g k l f=>⟨a,xs,I,e,k a zao _ q,rfl,f⟩⟩
 |tup es =>
  cases p
  obtain⟨a,xs,e,q,r⟩:=h;exact⟨a,xs,[],A,e,.inr (.inl q.2),rfl,r,λH' j I g k l f=>⟨a,xs,e,Si g q,f⟩⟩
 |ob C ns es =>
  cases p
  obtain⟨a,dx,xs,B,e,q,l,n,rfl,r⟩:=h;exact⟨a,xs,[a],B,e,.inr (.inr ⟨C,dx,ns,q,by rw[l,r.length]⟩),rfl,r,λH' j I g k M f=>⟨a,dx,xs,I,e,k a zao _ q,by rw[M];exact l,n,rfl,f⟩⟩
 |_=>cases p
theorem Ft.focQ:∀{π:List Nat}{d:D}{v:V}{A:List Addr}{d1:D},Ft K H d v A->atQ π d=some d1->∃u N B C,valQ H π v u/\A=B++N++C/\Ft K H d1 u N /\
  ∀H' e A1',Gt H H'->(∀a∈B++C,∀u,H a=some u->H' a=some u)->Ft K H' e u A1'->Ft K H' (putQ π d e) v (B++A1'++C)
 |[],d,v,A,d1,h,e=>by
  cases (show d=d1 from Option.some.inj e)
  exact⟨v,A,[],[],rfl,by simp,h,λH' e A1' _ _ f=>by simpa [putQ] using f⟩
 |i::π,d,v,A,d1,h,e=>by
  have e:(match bj d with|some ds=>(match ds[i]? with|some x=>atQ π x|none=>none)|none=>none)=some d1:=e
  cases ep:bj d with
  |none=>rw[ep]at e;cases e
  |some ds =>
   rw[ep]at e;have e:(match ds[i]? with|some x=>atQ π x|none=>none)=some d1:=e
   cases ed:ds[i]? with
   |none=>rw[ed]at e;cases e
   |some d2 =>
    rw[ed]at e;obtain⟨a,xs,T,AA,rfl,q,rfl,r,Z⟩:=h.parts ep;obtain⟨w,N,B,C,ew,rfl,f,k⟩:=Fts.foc r ed;obtain⟨u,A2,B',C',hv,rfl,f2,k2⟩:=Ft.focQ (π:=π) f e;refine⟨u,A2,T++(B++B'),C'++C,⟨a,xs,w,rfl,q,ew,hv⟩,by simp,f2,λH' M A1' g I f'=>?_⟩
    have h2:=k2 H' M A1' g (λa j=>I a (by simp at j ⊢;rcases j with j|j <;> simp[j])) f'
    have h3:=k H' _ _ g (λa j=>I a (by simp at j ⊢;rcases j with j|j <;> simp[j])) h2
    show Ft K H' (match bj d with|some ds=>(match ds[i]? with|some x=>Py d (ds.set i (putQ π x M))|none=>d)|none=>d) _ _
    rw[ep];show Ft K H' (match ds[i]? with|some x=>Py d (ds.set i (putQ π x M))|none=>d) _ _
    rw[ed];have h4:=Z H' _ _ g (λb hb=>I b (by simp[hb])) (by rw[List.length_set]) h3
    simpa using h4
section
variable{o:List (Nat×Addr)}{A:List Addr}{d:D}
theorem ST.focQ(S:ST K H_ H G U o l A d v){π:List Nat}{d1:D}(h:atQ π d=some d1):∃u A1,valQ H π v u/\Ft K H d1 u A1/\A1.Nodup/\(∀a∈A1,a∈A)/\(∀a∈A1,H a≠none) /\
  ∀H' e A1',(∀c x,H c=some x->c∉A1->H' c=some x)->Ft K H' e u A1'->A1'.Nodup->(∀a∈A1',a∈A1\/H a=none)->∃A',ST K H_ H' G (setS U l (dv (putQ π d e))) o l A' (putQ π d e) v/\Grow A A' H H'/\∀a∈A1,a∉A1'->a∉A':=by
 obtain⟨u,A1,B,C,hv,hA,f,k⟩:=Ft.focQ S.ft h;have nd:=S.ndA;rw[hA]at nd;have nd1:=List.nodup_append.mp nd;have I:=List.nodup_append.mp nd1.1;have dm:∀a∈A,H a≠none:=λa j e=>by
  obtain⟨x,q,_⟩:=Ft.dom _ _ _ S.ft a j;rw[e]at q;cases q
 have mA:∀a,a∈B\/a∈A1\/a∈C ↔ a∈A:=λa=>by rw[hA];simp[or_assoc]
 refine⟨u,A1,hv,f,I.2.1,λa j=>(mA a).mp (by simp[j]),λa j=>dm a ((mA a).mp (by simp[j])),λH' e A1' kp f' a4 fr=>?_⟩
 have gt:Gt H H':=⟨λb xs Z=>kp b _ Z λz=>by
   obtain⟨x,q,n1,_⟩:=Ft.dom _ _ _ f b z;rw[Z]at q;cases q;exact n1 _ rfl,λb ob w Z=>kp b _ Z λz=>by
   obtain⟨x,q,_,n2⟩:=Ft.dom _ _ _ f b z;rw[Z]at q;cases q;exact n2 _ _ rfl⟩
 have nB:∀a∈B++C,a∉A1:=λa j z=>by
  rcases zas.mp j with j|j
  ·exact I.2.2 a j a z rfl
  exact nd1.2.2 a (List.mem_append_right _ z) a j rfl
 have a5:=k H' e A1' gt (λa j x q=>kp a x q (nB a j)) f';have M:∀a∈B++A1'++C,a∈A\/H a=none:=λa j=>by
  rw[zas,zas]at j;rcases j with(j|j)|j
  ·exact .inl ((mA a).mp (by simp[j]))
  ·exact(fr a j).imp (λz=>(mA a).mp (by simp[z])) id
  exact .inl ((mA a).mp (by simp[j]))
 have a0:(B++A1'++C).Nodup:=by
  rw[List.nodup_append,List.nodup_append];refine⟨⟨I.1,a4,λx q y N e=>?_⟩,nd1.2.1,λx q y N e=>?_⟩
  ·subst e;rcases fr x N with z|z
   ·exact I.2.2 x q x z rfl
   exact dm x ((mA x).mp (by simp[q])) z
  subst e;rcases zas.mp q with q|q
  ·exact nd1.2.2 x (List.mem_append_left _ q) x N rfl
  rcases fr x q with z|z
  ·exact nd1.2.2 x (List.mem_append_right _ z) x N rfl
  exact dm x ((mA x).mp (by simp[N])) z
 have gr:Grow A (B++A1'++C) H H':=⟨λc x q hn=>⟨kp c x q λz=>hn ((mA c).mp (by simp[z])),λz=>(M c z).elim hn λe=>by rw[q]at e;cases e⟩,gt.tups,gt.frzs⟩
 refine⟨_,S.chg gr a5 a0 M,gr,λa j na z=>?_⟩;rw[zas,zas]at z;rcases z with(z|z)|z
 ·exact nB a (by simp[z]) j
 ·exact na z
 exact nB a (by simp[z]) j
end
def D5(K:W.Frag)(H_:Hp)(l:Nat)(t:TP1):TE:=λG H Q=>∃U o A d v,ST K H_ H G U o l A d v/\∃Y,t U Y/\∀u π H',Same H H'->valQ H' π v u->Y π->Q u H'
def EPQ(G:Hp->Prop)(l:Nat)(X:Cx)(e:Expr)(t:TP1):Prop:=∀H_:{H:Hp // G H},PE X e (D5 X.K H_.1 l t)
structure CO(K:W.Frag)(C:Addr)(ns:List Str):Prop where
 cl:Cls K C
 na:∀f∈ns,ji K C f
def ixF:List Str->Str->Option Nat
 |[],_=>none
 |n::ns,f=>if n=f then some 0 else(ixF ns f).map (·+1)
theorem vq{α:Type}{f:Str}:∀{ns:List Str}{xs:List α}{i:Nat},ixF ns f=some i->ns.length=xs.length->(ns.zip xs).lookup f=xs[i]?
 |[],_,_,h,_=>by cases h
 |n::ns,[],_,_,l=>by simp at l
 |n::ns,x::xs,i,h,l=>by
  unfold ixF at h;by_cases e:n=f
  ·rw[if_pos e]at h;cases h;subst e;simp[List.lookup]
  rw[if_neg e]at h;obtain⟨j,B,rfl⟩:=zar.mp h;have q:(f==n)=false:=beq_eq_false_iff_ne.mpr (λz=>e z.symm);show(List.lookup f ((n,x)::ns.zip xs))=_;rw[List.lookup,q];simpa using vq B (by simpa using l)
theorem kh{f:Str}:∀{ns:List Str}{i:Nat},ixF ns f=some i->f∈ns
 |[],_,h=>by cases h
 |n::ns,i,h=>by
  unfold ixF at h;by_cases e:n=f
  ·exact e▸zao
  rw[if_neg e]at h;obtain⟨j,q,rfl⟩:=zar.mp h;exact zal _ (kh q)
theorem Vl{f:Str}{y:V}:∀{ns:List Str}{xs:List V}{i:Nat},ixF ns f=some i->ns.length=xs.length->putF f y (ns.zip xs)=ns.zip (xs.set i y)
 |[],_,_,h,_=>by cases h
 |n::ns,[],_,_,l=>by simp at l
 |n::ns,x::xs,i,h,l=>by
  unfold ixF at h;show(if n=f then(n,y)::ns.zip xs else(n,x)::putF f y (ns.zip xs))=_
  by_cases e:n=f
  ·rw[if_pos e]at h ⊢;cases h;rfl
  rw[if_neg e]at h ⊢;obtain⟨j,q,rfl⟩:=zar.mp h;rw[Vl q (by simpa using l)]
  rfl
section
variable{x:Str}{ke:Expr}{es:List Expr}{tk:TD}{pos:Pos}{ns:List Str}
def ye(M:X.N[l]?=some x:=by rfl)(hv:Vis X.env.scope x:=by walk_at "o")(I:D_ x:=by decide)(B:(x==("__classdict__" : Str))=false:=by decide):EPQ L l X (.Name x pos) Jg:=λH_=>impE (uu M hv I B) λG H Q q=>by
 obtain⟨U,o,A,d,v,S,Y,j,k⟩:=q;exact⟨v,S.hv,k v [] H (Same.refl H) rfl j⟩
def pFld(l:Nat)(C:Addr)(ns:List Str)(f:Str)(j:TP1):TP1:=λU Y=>j U λπ=>∃d ds,slot U l=some (dv d)/\atQ π d=some (.ob C ns ds)/\(match ixF ns f with
 |some i=>Y (π++[i])
 | none=>False)
def xb(O:CO X.K C ns)(hp:EPQ L l X e tp)(hb:attributeBase e f X.env (eval e X.env)=eval e X.env:=by rfl):EPQ L l X (.Attribute e f pos) (pFld l C ns f tp):=λH_=>impE (L9 (hp H_) hb) λG H Q q=>by
 obtain⟨U,o,A,d,v,S,Y,M,k⟩:=q;refine⟨U,o,A,d,v,S,_,M,λu π H1 s1 N h1=>?_⟩;obtain⟨d',ds,es,ea,h1⟩:=h1;have e2:some (dv d')=some (dv d):=by rw[<- es];exact we S.hd
 cases e2
 split at h1
 ·rename_i i j;obtain⟨w,A1,vw,f1,_⟩:=(S.to s1).focQ ea;have:=N.fn vw;subst this;obtain⟨a,dx,xs,B,rfl,q,ln,n,rfl,r⟩:=f1;have I:ns.length=xs.length:=by rw[ln,r.length]
  have hi:i<xs.length:=by
   have:=vq (xs:=ns) j rfl;rcases Nat.lt_or_ge i xs.length with z|z
   ·exact z
   have e3:=vq (xs:=xs) j I;rw[List.getElem?_eq_none z]at e3;exfalso;have hm:=kh j;rw[List.getElem?_eq_none (by omega)]at this
   have:∀ns:List Str,f∈ns->(ns.zip ns).lookup f≠none:=λns=>by
    induction ns with
    |nil=>intro h;cases h
    |cons a r ih =>
     intro h;rw[List.zip_cons_cons,List.lookup];cases q:(f==a) with
     |true=>exact λz=>by cases z
     |false =>
      rcases zam.mp h with h|h
      ·rw[h]at q;simp at q
      exact ih h
   exact this ns hm (by assumption)
  have Z:xs[i]?=some xs[i]:=zaf hi;exact⟨a,C,dx,_,xs[i],rfl,q,O.cl,O.na f (kh j),by rw[vq j I];exact Z,k _ _ H1 s1 (N.snoc (.inr (.inr ⟨C,dx,ns,q,I⟩)) Z) h1⟩
 exact h1.elim
def pIxQ(l:Nat)(q:TP1)(tk:TD):TP1:=λU Y=>q U λπ=>tk U λB=>∃d d1 ds i j,slot U l=some (dv d)/\atQ π d=some d1/\(match d1 with
 |.lst es=>es=ds
 |.tup es=>es=ds
 | _=>False)/\B.d=.int i/\ixN ds.length i=some j/\Y (π++[j])
def E9(hp:EPQ L l X e tp)(hk:ED L X ke tk)(hs:kz ke:=by intro _ _;rfl):EPQ L l X (.Subscript e ke pos) (pIxQ l tp tk):=λH_=>impE (gj Ll (hp H_) (hk H_) hs) λG H Q q=>by
 obtain⟨U,o,A,d,v,S,Y,Z,k⟩:=q;refine⟨U,o,A,d,v,S,_,Z,λu π H1 s1 vp h1=>⟨U,o,(S.to s1).R,_,h1,λw r H2 s2 rv h2=>?_⟩⟩;obtain⟨d',d1,ds,i,j,es,ea,M,ei,ej,h2⟩:=h2;have e2:some (dv d')=some (dv d):=by rw[<- es];exact we S.hd
 cases e2
 obtain⟨b,A1,N,f1,_⟩:=(S.to (s1.trans s2)).focQ ea;have:=(vp.to s2).fn N;subst this;have vw:=rv.view;rw[ei]at vw;cases (show w=_ from vw);have hj:=(Wd ej).2.1;split at M
 ·subst M;obtain⟨a,ys,B,rfl,q,rfl,fs⟩:=f1;have hl:=fs.length;obtain⟨y,I⟩:∃y,ys[j]?=some y:=⟨ys[j]'(by omega),by simp[show j<ys.length by omega]⟩
  refine .inl ⟨a,ys,i,y,rfl,rfl,SqL.of q,?_,k _ _ H2 (s1.trans s2) (N.snoc (.inl q) I) h2⟩;unfold atI;rw[hl,ej];exact I
 ·subst M;obtain⟨a,ys,rfl,q,fs⟩:=f1;have hl:=fs.length;obtain⟨y,I⟩:∃y,ys[j]?=some y:=⟨ys[j]'(by omega),by simp[show j<ys.length by omega]⟩
  refine .inr (.inl ⟨a,ys,i,y,rfl,rfl,q.1,?_,k _ _ H2 (s1.trans s2) (N.snoc (.inr (.inl q.2)) I) h2⟩);unfold atI;rw[hl,ej];exact I
 exact M.elim
end
mutual
theorem Ft.uniq{K:W.Frag}{H:Hp}:∀(d:D)(v:V)(A B:List Addr),Ft K H d v A->Ft K H d v B->A=B
 |.lst ds,v,A,B,h,g=>by
  obtain⟨a,xs,A',rfl,q,rfl,r⟩:=h;obtain⟨a2,M,N,e,j,rfl,I⟩:=g;cases e;rw[q]at j;cases j;rw[Fts.uniq ds xs A' N r I]
 |.dk ks ds,v,A,B,h,g=>by
  obtain⟨a,xs,A',rfl,q,l,n,rfl,r⟩:=h;obtain⟨a2,M,N,e,j,l2,n2,rfl,I⟩:=g;cases e;rw[q]at j
  injection j with j
  injection j with j
  have e2:=congrArg (List.map Prod.snd) j;rw[vt1 (by rw[l,r.length]),vt1 (by rw[l2,I.length])]at e2
  subst e2;rw[Fts.uniq ds xs A' N r I]
 |.tup ds,v,A,B,h,g=>by
  obtain⟨a,xs,rfl,q,r⟩:=h;obtain⟨a2,M,e,j,I⟩:=g;cases e;have Z:=q.2;rw[j.2]at Z;cases Z;exact Fts.uniq ds xs A B r I
 |.ob C ns ds,v,A,B,h,g=>by
  obtain⟨a,dx,xs,A',rfl,q,l,n,rfl,r⟩:=h;obtain⟨a2,a0,M,N,e,j,l2,n2,rfl,I⟩:=g;cases e;rw[q]at j
  injection j with j
  injection j with _ _ j
  have e2:=congrArg (List.map Prod.snd) j;rw[vt1 (by rw[l,r.length]),vt1 (by rw[l2,I.length])]at e2
  subst e2;rw[Fts.uniq ds xs A' N r I]
 |.non,_,_,_,h,g=>by rw[h.1,g.1]
 |.bl _,_,_,_,h,g=>by rw[h.1,g.1]
 |.int _,_,_,_,h,g=>by rw[h.1,g.1]
 |.str _,_,_,_,h,g=>by rw[h.1,g.1]
 |.ty _,_,_,_,h,g=>by rw[h.1,g.1]
 |.scr _,_,_,_,h,g=>by rw[h.1,g.1]
 |.sx _,_,_,_,h,_=>h.elim
theorem Fts.uniq{K:W.Frag}{H:Hp}:∀(ds:List D)(xs:List V)(A B:List Addr),Fts K H ds xs A->Fts K H ds xs B->A=B
 |[],_,_,_,h,g=>by rw[h.2,g.2]
 |d::ds,xs,A,B,h,g=>by
  obtain⟨v,r,Z,N,rfl,rfl,q,t⟩:=h;obtain⟨v',r',M,I,e,rfl,j,t'⟩:=g;cases e;rw[Ft.uniq d v Z M q j,Fts.uniq ds r N I t t']
end
section
variable{o:List (Nat×Addr)}{A:List Addr}{d:D}
theorem Fts.setA:∀{ds:List D}{xs:List V}{A B:List Addr}{i:Nat}{e:D}{u:V},i<ds.length->Fts K H ds xs A->Ft K H e u B->∃I N j,A=I++N++j/\Fts K H (ds.set i e) (xs.set i u) (I++B++j)
 |[],_,_,_,_,_,_,hi,_,_=>by simp at hi
 |d::ds,xs,A,B,0,e,u,_,h,f=>by
  obtain⟨v,r,M,C,rfl,rfl,q,t⟩:=h;exact⟨[],M,C,rfl,u,r,B,C,rfl,rfl,f,t⟩
 |d::ds,xs,A,B,i+1,e,u,hi,h,f=>by
  obtain⟨v,r,M,C,rfl,rfl,q,t⟩:=h;obtain⟨I,N,j,rfl,t'⟩:=Fts.setA (i:=i) (by simpa using hi) t f
  exact⟨M++I,N,j,by simp,v,_,M,I++B++j,rfl,by simp,q,t'⟩
def Fa{A B Z A1 N:List Addr}{P:Addr->Prop}(e:A=Z++A1++N)(nA:A.Nodup)(nB:B.Nodup)(dis:∀ a∈B,a∉A):(Z++B++N).Nodup/\∀a∈Z++B++N,a∈A\/a∈B:=by
 subst e;have M:=List.nodup_append.mp nA;have n2:=List.nodup_append.mp M.1;refine⟨?_,λa j=>?_⟩
 ·rw[List.nodup_append,List.nodup_append];refine⟨⟨n2.1,nB,λx q y I e=>?_⟩,M.2.1,λx q y I e=>?_⟩
  ·subst e;exact dis x I (by simp[q])
  subst e;rcases zas.mp q with q|q
  ·exact M.2.2 x (List.mem_append_left _ q) x I rfl
  exact dis x q (by simp[I])
 rw[zas,zas]at j;rcases j with(j|j)|j
 ·exact .inl (by simp[j])
 ·exact .inr j
 exact .inl (by simp[j])
def ST.putH(S:ST K H_ H G U o l A d v){π:List Nat}{d1 e:D}{b:Addr}{M A1':List Addr}{I:List D}{zs:List V}{ho:HO}(h:atQ π d=some d1)(f:Ft K H d1 (.ref b) (b::M))(nA:(b::M).Nodup)(hu:∀ u N,valQ H π v u->Ft K H d1 u N->N.Nodup->u=.ref b/\N=b::M)(s:Same H H1)(f':Fts K H1 I zs A1')(a5:A1'.Nodup)(fr:∀ a∈A1',a∈M\/H a=none)(nt:∀ xs,ho≠.tup xs)(nz:∀ ob w,ho≠.frz ob w)(mk:∀ H',H' b=some ho->Fts K H' I zs A1'->Ft K H' e (.ref b) (b::A1')):∃A',ST K H_ (upd H1 b ho) G (setS U l (dv (putQ π d e))) o l A' (putQ π d e) v/\Grow A A' H (upd H1 b ho)/\∀a∈M,a∉A1'->a∉A':=by
 obtain⟨u,N,hv,f1,n1,sub,dm,kk⟩:=S.focQ h;obtain⟨rfl,rfl⟩:=hu u N hv f1 n1;have nb:=List.nodup_cons.mp nA;have hb:H b≠none:=dm b zao;have bn:b∉A1':=λz=>(fr b z).elim nb.1 hb;obtain⟨x,hx,a4,a0⟩:=Ft.dom _ _ _ f1 b zao;have B:=s _ _ hx;have gt:Gt H1 (upd H1 b ho):=⟨λc xs j=>by rw[y0 (λz=>by subst z;rw[B]at j;cases j;exact a4 _ rfl)];exact j,λc ob w j=>by rw[y0 (λz=>by subst z;rw[B]at j;cases j;exact a0 _ _ rfl)];exact j⟩
 obtain⟨A',S',g,Z⟩:=kk (upd H1 b ho) e (b::A1') (λc x j hn=>by rw[y0 (λz=>hn (by rw[z];exact zao))];exact s _ _ j)
  (mk _ zm (Fts.keep gt _ _ _ (λa q x hx=>by rw[y0 (λz=>bn (by rw[<- z];exact q))];exact hx) f')) (List.nodup_cons.mpr ⟨bn,a5⟩) (λa q=>by
   rcases zam.mp q with rfl|q
   ·exact .inl zao
   exact(fr a q).imp (λz=>zal _ z) id)
 refine⟨A',S',g,λa q na=>Z a (zal _ q) λz=>?_⟩;rcases zam.mp z with rfl|z
 ·exact nb.1 q
 exact na z
def ST.atL(S:ST K H_ H G U o l A d v){π:List Nat}{es:List D}(h:atQ π d=some (.lst es)):∃b ys B,valQ H π v (.ref b)/\H b=some (.lst ys)/\Fts K H es ys B/\B.Nodup/\(∀a∈B,H a≠none)/\(∀a∈B,a∈A) /\
  ∀H1 j zs A1',Same H H1->Fts K H1 j zs A1'->A1'.Nodup->(∀a∈A1',a∈B\/H a=none)->∃A',ST K H_ (upd H1 b (.lst zs)) G (setS U l (dv (putQ π d (.lst j)))) o l A' (putQ π d (.lst j)) v/\Grow A A' H (upd H1 b (.lst zs))/\∀a∈B,a∉A1'->a∉A':=by
 obtain⟨u,A1,hv,f1,n1,sub,dm,kk⟩:=S.focQ h;obtain⟨b,ys,B,rfl,q,rfl,fs⟩:=f1;refine⟨b,ys,B,hv,q,fs,(List.nodup_cons.mp n1).2,λa N=>dm a (zal _ N),λa N=>sub a (zal _ N),λH1 j zs A1' s f' I fr=>?_⟩;have:=S.putH (e:=.lst j) (ho:=.lst zs) h ⟨b,ys,B,rfl,q,rfl,fs⟩ n1 (λu A2 M f2 n2=>by
  cases hv.fn M
  obtain⟨b2,a4,a0,e,q2,rfl,Z⟩:=f2;cases e;rw[q]at q2;cases q2;exact⟨rfl,by rw[Fts.uniq es ys B a0 fs Z]⟩) s f' I fr (λ_ z=>by cases z) (λ_ _ z=>by cases z) (λH' hb f=>⟨b,zs,A1',rfl,hb,rfl,f⟩)
 exact this
end
section
variable{x:Str}{ke oe:Expr}{es:List Expr}{te tk:TD}{pos pos':Pos}{ns:List Str}
def dFld(C:Addr)(ns:List Str)(f:Str)(te:TD):TD:=λU Y=>te U λr=>match r.d with
 | .ob C' ns' ds=>C'=C/\ns'=ns/\(match ixF ns f with
  | some i=>(match ds[i]? with
   |some x=>Y (dv x)
   | none=>False)
  | none=>False)
 |_=>False
def va(O:CO X.K C ns)(he:ED L X e te)(hb:attributeBase e f X.env (eval e X.env)=eval e X.env:=by rfl):ED L X (.Attribute e f pos) (dFld C ns f te):=λH_=>impE (L9 (he H_) hb) λG H Q q=>by
 obtain⟨U,o,R,Y,B,k⟩:=q;refine⟨U,o,R,_,B,λv r H1 s1 Z h1=>?_⟩;have N:=Z.view;obtain⟨kd,d⟩:=r;cases d with
 |ob C' ns' ds =>
  obtain⟨rfl,rfl,h1⟩:=h1;obtain⟨a,dx,xs,rfl,q,_,ln,nd,I⟩:=N;split at h1
  ·rename_i i M;split at h1
   ·rename_i y ey;obtain⟨w,ew,j⟩:=I.get ey;exact⟨a,_,dx,_,w,rfl,q,O.cl,O.na f (kh M),by rw[vq M (by rw[ln,I.length])];exact ew,k _ (dv y) H1 s1 j h1⟩
   exact h1.elim
  exact h1.elim
 |_=>exact h1.elim
def frs2:EV->Prop
 |⟨.fre,.dk _ ds⟩=>zw ds
 |r=>frs1 r
def Qq{K:W.Frag}{H H':Hp}{O:List Addr}{r:EV}{v:V}(h:RV K H H' O r v)(p:frs2 r):∃B,Ft K H' r.d v B/\B.Nodup/\∀b∈B,H b=none:=by
 unfold frs2 at p;split at p
 ·obtain⟨a,rfl,m,n,xs,M,I,q,j⟩:=h;exact⟨[a],⟨a,xs,[],rfl,M,I,q,rfl,Reps.fts _ _ p j⟩,by simp,λb N=>by rw[List.mem_singleton.mp N];exact m⟩
 exact Dv h p
def fE2(te:TD):TF:=λU Y=>te U λr=>frs2 r/\Y r.d
def yy(N:ED L X e te):EF L l X e (fE2 te):=λH_=>impE (N H_) λG H Q q=>by
 obtain⟨U,o,A,d,v,S,Y,j,k⟩:=q;refine⟨U,o,S.R,_,j,λu r H1 s1 I h1=>?_⟩;obtain⟨B,f,M,fr⟩:=Qq I h1.1;exact k u r.d B H1 s1 f M fr h1.2
def fTup(t:TFs):TF:=λU Y=>t U λds=>ds.length<=1000/\Y (.tup ds)
def C9{t:TFs} {x1} (h:EFs L l X es t):EF L l X (.Tuple es x1 pos) (fTup t):=λH_=>impE (Rg (h H_)) λG H Q q=>by
 obtain⟨U,o,A,d,v,S,Y,j,k⟩:=q;refine⟨U,o,A,d,v,S,_,j,λus I B H1 s1 f M fr h1=>⟨by rw[f.length,sizeLine_eq];omega,λp Z=>?_⟩⟩
 have n:=yf Z (HO.tup us);exact k (.ref p) (.tup I) B _ (s1.trans n) ⟨p,us,rfl,⟨SqT.of zm,zm⟩,Fts.keep (Gt.same n) _ _ _ (λa _ x N=>n _ _ N) f⟩ M fr h1.2
def qFld(l:Nat)(C:Addr)(ns:List Str)(f:Str)(j:TP1)(q:TF):TQS:=λU Z=>q U λx=>j U λπ=>∃d ds,slot U l=some (dv d)/\atQ π d=some (.ob C ns ds)/\ns.length<=100/\(match ixF ns f with
 |some i=>Z.nx (setS U l (dv (putQ π d (.ob C ns (ds.set i x)))))
 | none=>False)
def Vk(O:CO X.K C ns)(hp:EPQ L l X oe tp)(he:EF L l X e tf)(hs:swapsWith e (some (.Attribute oe f pos')) pos.line X.env=pure false:=by rfl):QS L l X (.Assign [.Attribute oe f pos'] e pos) (qFld l C ns f tp tf):=λH_=>impS (L7 (hp H_) (he H_) hs) λDz G H h=>by
 obtain⟨U,o,A,d,v,S,Z,hZ,k1,k2,k3,k4⟩:=h;refine⟨U,o,A,d,v,S,_,hZ,λw y B H1 s1 fy nB M h1=>⟨U,o,A,d,v,S.to s1,_,h1,λu π H2 s2 vp h2=>?_⟩⟩;obtain⟨d',ds,es,ea,hn,h2⟩:=h2;have e2:some (dv d')=some (dv d):=by rw[<- es];exact we S.hd
 cases e2
 split at h2
 ·rename_i i N;obtain⟨u',A1,hv,f1,n1,sub,dm,_⟩:=S.focQ ea;have j:=s1.trans s2;cases (vp.fn (hv.to j));obtain⟨b,dx,xs,At,rfl,q,I,nd,rfl,fs⟩:=f1;have lx:ns.length=xs.length:=by rw[I,fs.length]
  have hi:i<ds.length:=by
   have e3:=vq (xs:=ds) N I;rcases Nat.lt_or_ge i ds.length with z|z
   ·exact z
   exfalso;have hm:=kh N;have:∀(ns:List Str)(ds:List D),ns.length=ds.length->f∈ns->(ns.zip ds).lookup f≠none:=λns=>by
    induction ns with
    |nil=>intro _ _ h;cases h
    |cons a r ih =>
     intro ds l h;cases ds with
     |nil=>simp at l
     |cons d ds =>
      rw[List.zip_cons_cons,List.lookup];cases q:(f==a) with
      |true=>exact λz=>by cases z
      |false =>
       rcases zam.mp h with h|h
       ·rw[h]at q;simp at q
       exact ih ds (by simpa using l) h
   exact this ns ds I hm (by rw[e3];exact List.getElem?_eq_none z)
  have a6:Fts X.K H2 ds xs At:=Fts.keep (Gt.same j) _ _ _ (λa _ x hx=>j _ _ hx) fs;have a5:Ft X.K H2 y w B:=Ft.keep (Gt.same s2) _ _ _ (λa _ x hx=>s2 _ _ hx) fy;obtain⟨B0,A1,C0,eA,f3⟩:=Fts.setA hi a6 a5;have a0:=List.nodup_cons.mp n1;obtain⟨n3,m3⟩:=Fa (P:=λ_=>True) eA a0.2 nB (λa ha z=>dm a (zal _ z) (M a ha));obtain⟨A',S',g,_⟩:=S.putH (e:=.ob C ns (ds.set i y)) (ho:=.ins C dx (ns.zip (xs.set i w))) ea ⟨b,dx,xs,At,rfl,q,I,nd,rfl,fs⟩ n1 (λu A2 a4 f2 n2=>by
   cases hv.fn a4
   exact⟨rfl,Ft.uniq _ _ _ _ f2 ⟨b,dx,xs,At,rfl,q,I,nd,rfl,fs⟩⟩) j f3 n3 (λa ha=>(m3 a ha).imp id (M a)) (λ_ z=>by cases z) (λ_ _ z=>by cases z) (λH' hb f=>⟨b,dx,_,_,rfl,hb,by rw[List.length_set];exact I,nd,rfl,f⟩)
  refine⟨b,C,dx,_,rfl,j _ _ q,O.cl,O.na f (kh N),by rw[List.length_zip];omega,?_⟩
  rw[Vl N lx];exact k1 _ _ _ _ _ _ S' h2
 exact h2.elim
def Fx(l:Nat)(j:TP1)(q:TF):TQS:=λU Z=>j U λπ=>∃d ds,slot U l=some (dv d)/\atQ π d=some (.lst ds)/\ds.length<=100000/\q U λf=>Z.nx (setS U l (dv (putQ π d (.lst (ds++[f])))))
def xr(hp:EPQ L l X oe tp)(he:EF L l X e tf)(q:∀ {ta tb:TE},PE X oe ta->PE X e tb->PS X (.Expr (.Call (.Attribute oe "append" apos) [e] [] cpos) pos) (Ur (tBM X.K "list" W5 ta (Sb tb tNil))):=by
   intro ta tb h1 h2;exact rj (Ro PySem.F.plainAttrs_list PySem.F.slot_list_append PySem.F.type_list_append gm h1 (u0 h2 sw))) :
  QS L l X (.Expr (.Call (.Attribute oe "append" apos) [e] [] cpos) pos) (Fx l tp tf):=λH_=>impS (q (hp H_) (he H_)) λDz G H h=>by
 obtain⟨U,o,A,d,v,S,Z,hZ,k1,k2,k3,k4⟩:=h;refine⟨U,o,A,d,v,S,_,hZ,λu π H1 s1 N h1=>?_⟩;have M:=S.to s1;obtain⟨d',ds,es,ea,hl,h1⟩:=h1;have e2:some (dv d')=some (dv d):=by rw[<- es];exact we S.hd
 cases e2
 obtain⟨b,ys,A1,vb,j,fs,n1,dm,sub,kk⟩:=M.atL ea;have:=N.fn vb;subst this;refine⟨.inl ⟨rfl,_,SqL.of j⟩,U,o,A,d,v,M,_,h1,λw f B H2 s2 ff nd fr h2=>?_⟩;have f1:Fts X.K H2 ds ys A1:=Fts.keep (Gt.same s2) _ _ _ (λa _ x hx=>s2 _ _ hx) fs;obtain⟨A',S',g,_⟩:=kk H2 (ds++[f]) (ys++[w]) (A1++B) s2 (f1.app ⟨w,[],B,[],rfl,by simp,ff,rfl,rfl⟩) (by
   rw[List.nodup_append];refine⟨n1,nd,λa I b j e=>?_⟩;subst e;exact dm a I (fr a j)) (λa I=>(zas.mp I).imp id (fr a))
 refine⟨b,ys,w,rfl,rfl,s2 _ _ j,?_,k1 _ _ _ _ _ _ S' h2⟩;rw[fs.length];exact Nat.lt_of_le_of_lt hl (by decide)
def Kz(l:Nat)(j:TP1)(te:TD):TQS:=λU Z=>j U λπ=>∃d ds,slot U l=some (dv d)/\atQ π d=some (.lst ds)/\ds.length<=100000/\te U λr=>match r.d with
 |.lst gs=>zw gs/\gs.length<=1000/\Z.nx (setS U l (dv (putQ π d (.lst (ds++gs)))))
 |_=>False
def Kw(hp:EPQ L l X oe tp)(he:ED L X e te)(j:∀ {ta tb:TE},PE X oe ta->PE X e tb->PS X (.Expr (.Call (.Attribute oe "extend" apos) [e] [] cpos) pos) (Ur (tBM X.K "list" W4 ta (Sb tb tNil))):=by
   intro ta tb h1 h2;exact rj (Ro PySem.F.plainAttrs_list PySem.F.slot_list_extend PySem.F.type_list_extend Yu h1 (u0 h2 sw))) :
  QS L l X (.Expr (.Call (.Attribute oe "extend" apos) [e] [] cpos) pos) (Kz l tp te):=λH_=>impS (j (hp H_) (he H_)) λDz G H h=>by
 obtain⟨U,o,A,d,v,S,Z,hZ,k1,k2,k3,k4⟩:=h;refine⟨U,o,A,d,v,S,_,hZ,λu π H1 s1 vp h1=>?_⟩;have M:=S.to s1;obtain⟨d',ds,es,ea,hl,h1⟩:=h1;have e2:some (dv d')=some (dv d):=by rw[<- es];exact we S.hd
 cases e2
 obtain⟨b,ys,A1,vb,B,fs,n1,dm,sub,kk⟩:=M.atL ea;have:=vp.fn vb;subst this;refine⟨.inl ⟨rfl,_,SqL.of B⟩,U,o,M.R,_,h1,λw r H2 s2 rv h2=>?_⟩;have N:=rv.view;obtain⟨kd,rd⟩:=r;cases rd with
 |lst gs =>
  obtain⟨pg,lg,h2⟩:=h2;obtain⟨c,zs,rfl,hc,q⟩:=N;have f1:Fts X.K H2 ds ys A1:=Fts.keep (Gt.same s2) _ _ _ (λa _ x hx=>s2 _ _ hx) fs;obtain⟨A',S',g,_⟩:=kk H2 (ds++gs) (ys++zs) (A1++[]) s2 (f1.app (Reps.fts _ _ pg q)) (by rw[List.append_nil];exact n1) (λa I=>by rw[List.append_nil]at I;exact .inl I)
  refine⟨b,c,ys,zs,rfl,rfl,s2 _ _ B,hc,?_,k1 _ _ _ _ _ _ S' h2⟩;rw[fs.length,q.length,sizeLine_eq];omega
 |_=>exact h2.elim
def Fv(l:Nat)(q:TP1)(tk te:TD):TQS:=λU Z=>te U λr=>zj r.d/\q U λπ=>tk U λB=>∃d ds i j,slot U l=some (dv d)/\atQ π d=some (.lst ds)/\B.d=.int i/\ixN ds.length i=some j/\Z.nx (setS U l (dv (putQ π d (.lst (ds.set j r.d)))))
def Kv(hp:EPQ L l X oe tp)(hk:ED L X ke tk)(he:ED L X e te)(hs:swapsWithSole [.Subscript oe ke pos'] e pos.line X.env=pure false:=by rfl)(hw:swappedStores [.Subscript oe ke pos'] e X.env=pure none:=by rfl)(h1:(assignEach [.Subscript oe ke pos'] X.env).map (·.2)=[assign (.Subscript oe ke pos') X.env]:=by rfl)(N:∀ v,assign (.Subscript oe ke pos') X.env v=(do
   let q <- holding [v] (eval oe X.env)
   let M <- holding [v,q] (eval ke X.env)
   standAt pos'
   holding [v,q,M] (setItem q M v)
   release [v,q,M] []):=by intro _;rfl):QS L l X (.Assign [.Subscript oe ke pos'] e pos) (Fv l tp tk te):=λH_ =>
 impS (Yr (he H_) (Re (hp H_) (hk H_) Zf N) hs hw h1) λDz G H h=>by
  obtain⟨U,o,A,d,v,S,Z,hZ,k1,k2,k3,k4⟩:=h;refine⟨U,o,S.R,_,hZ,λw r H1 s1 rv h1=>⟨U,o,A,d,v,S.to s1,_,h1.2,λu π H2 s2 vp h2=>⟨U,o,(S.to (s1.trans s2)).R,_,h2,λw2 r2 H3 B I h3=>?_⟩⟩⟩;obtain⟨d',ds,i,j,es,ea,ei,ej,h3⟩:=h3;have e2:some (dv d')=some (dv d):=by rw[<- es];exact we S.hd
  cases e2
  have S3:=S.to ((s1.trans s2).trans B);obtain⟨b,ys,A1,vb,hb,fs,n1,dm,sub,kk⟩:=S3.atL ea;have:=(vp.to B).fn vb;subst this;have vw:=I.view;rw[ei]at vw;cases (show w2=_ from vw);have fw:Ft X.K H3 r.d w []:=Rep.ft _ _ h1.1 (Rep.keep (O:=[]) (O':=[]) (Gt.same (s2.trans B)) _ _ h1.1 rv.view.rep0);obtain⟨A2,sl,f2⟩:=fs.put j fw;obtain⟨A',S',g,_⟩:=kk H3 _ _ A2 (Same.refl _) f2 (sl.nodup n1) (λa N=>.inl (sl.subset N));exact⟨b,ys,i,j,rfl,rfl,hb,by rw[fs.length];exact ej,k1 _ _ _ _ _ _ S' h3⟩
end
section
variable{o:List (Nat×Addr)}{A:List Addr}{d:D}
theorem Fts.last:∀{ds:List D}{xs:List V}{A:List Addr},Fts K H ds xs A->ds≠[]->∃e u j I,ds[ds.length-1]?=some e/\xs[xs.length-1]?=some u/\A=j++I/\Fts K H ds.dropLast xs.dropLast j/\Ft K H e u I
 |[],_,_,_,h=>absurd rfl h
 |[d],xs,A,h,_=>by
  obtain⟨v,r,B,C,rfl,rfl,q,t⟩:=h;obtain⟨rfl,rfl⟩:=t;exact⟨d,v,[],B,rfl,rfl,by simp,⟨rfl,rfl⟩,q⟩
 |d::d'::ds,xs,A,h,_=>by
  obtain⟨v,r,B,C,rfl,rfl,q,t⟩:=h;obtain⟨e,u,j,I,e1,e2,rfl,f,M⟩:=Fts.last t (by simp)
  obtain⟨N,Z,_,_,rfl,_⟩:=t;exact⟨e,u,B++j,I,by simpa using e1,by simpa using e2,by simp,⟨v,_,B,j,rfl,rfl,q,f⟩,M⟩
def ST.setR(S:ST K H_ H G U o l A d v){j:Nat}{e:D}{w:V}(q:j≠l)(h:Rep K H (o.map Prod.snd++A) e w):ST K H_ H (G.set j (some w)) (setS U j (dv e)) o l A d v:=by
 refine⟨?_,?_,?_,S.ft⟩
 ·rw[sn _ _ q];exact S.Q.setV j (by rw[wf];exact h)
 ·rw[xp,List.getElem?_set_ne q];exact S.hd
 rw[List.getElem?_set_ne q];exact S.hv
theorem qk{α:Type}{f:Str}:∀{ns:List Str}{xs:List α},f∉ns->(ns.zip xs).lookup f=none
 |[],_,_=>rfl
 |n::ns,[],_=>rfl
 |n::ns,x::xs,h=>by
  rw[List.zip_cons_cons,List.lookup,beq_eq_false_iff_ne.mpr (λz=>h (by rw[z];exact zao))]
  exact qk λz=>h (zal _ z)
theorem Vm{f:Str}{y:V}:∀{ns:List Str}{xs:List V},f∉ns->ns.length=xs.length->putF f y (ns.zip xs)=(ns++[f]).zip (xs++[y])
 |[],[],_,_=>rfl
 |[],_::_,_,h=>by simp at h
 |_::_,[],_,h=>by simp at h
 |n::ns,x::xs,h,l=>by
  show(if n=f then(n,y)::ns.zip xs else(n,x)::putF f y (ns.zip xs))=_
  rw[if_neg (λz=>h (by rw[z];exact zao)),Vm (λz=>h (zal _ z)) (by simpa using l)]
  rfl
end
section
variable{x y m:Str}{oe:Expr}{es:List Expr}{np pos pos':Pos}{ns:List Str}{t:TQs}{T:FTQ}{k:Nat}{ps:List Str}
def R8(l j:Nat)(q:TP1):TQS:=λU Z=>q U λπ=>∃d ds e,slot U l=some (dv d)/\atQ π d=some (.lst ds)/\ds[ds.length-1]?=some e/\Z.nx (setS (setS U l (dv (putQ π d (.lst ds.dropLast)))) j (dv e))
def Yq(j:Nat)(hj:j≠l)(hN:X.N.Nodup)(hp:EPQ L l X oe tp)(hi:X.N[j]?=some x:=by rfl)(M:Loc X.env.scope x:=by first|exact Or.inl rfl|exact Or.inr rfl)(hs:swapsWith (.Call (.Attribute oe "pop" apos) [] [] cpos) (some (.Name x pos')) pos.line X.env=pure false:=by rfl)(hf:X.fn x=true\/X.env.scope.names.lookup x=some .local:=by first|exact .inl rfl|exact .inr rfl|assumption)(a4:∀ {ta:TE},PE X oe ta->PE X (.Call (.Attribute oe "pop" apos) [] [] cpos) (tBM0 X.K "list" rPop ta):=by
   intro ta h1;exact La PySem.F.plainAttrs_list PySem.F.slot_list_pop PySem.F.type_list_pop Li h1) :
  QS L l X (.Assign [.Name x pos'] (.Call (.Attribute oe "pop" apos) [] [] cpos) pos) (R8 l j tp):=λH_=>impS (gh hN hi M (a4 (hp H_)) hs hf) λDz G H h=>by
 obtain⟨U,o,A,d,v,S,Z,hZ,k1,k2,k3,k4⟩:=h;refine⟨U,o,A,d,v,S,_,hZ,λu π H1 s1 vp h1=>?_⟩;have S1:=S.to s1;obtain⟨d',ds,e,es,ea,ee,h1⟩:=h1;have e2:some (dv d')=some (dv d):=by rw[<- es];exact we S.hd
 cases e2
 obtain⟨b,ys,At,vb,B,fs,n1,dm,sub,kk⟩:=S1.atL ea;have:=vp.fn vb;subst this;obtain⟨e',w,A2,Ae,e1,ew,rfl,f2,fe⟩:=fs.last (λz=>by rw[z]at ee;cases ee)
 rw[ee]at e1;cases e1;have nd:=List.nodup_append.mp n1;obtain⟨A',S',g,I⟩:=kk H1 _ _ A2 (Same.refl _) f2 nd.1 (λa q=>.inl (List.mem_append_left _ q));refine⟨.inl ⟨rfl,_,SqL.of B⟩,b,ys,w,rfl,rfl,B,ew,?_⟩;have dis:∀a∈Ae,a∉o.map Prod.snd++A':=λa q z=>by
  rcases zas.mp z with z|z
  ·exact S1.dis a (sub a (List.mem_append_right _ q)) z
  exact I a (List.mem_append_right _ q) (λy=>nd.2.2 a y a q rfl) z
 have a5:Ft X.K (upd H1 b (.lst ys.dropLast)) e w Ae:=by
  have g1:Grow [b] [b] H1 (upd H1 b (.lst ys.dropLast)):=O1 B;refine Ft.keep g1.gt _ _ _ (λa q x M=>?_) fe;by_cases hab:a=b
  ·exfalso;subst hab;obtain⟨u2,A3,a0,f3,_,a6,_,_⟩:=S1.focQ ea;cases vb.fn a0;obtain⟨b2,a7,B2,e2,q2,rfl,r2⟩:=f3;cases e2;rw[B]at q2;cases q2;have n3:(a::B2).Nodup:=by assumption
   rw[Fts.uniq _ _ _ _ r2 fs]at n3;exact(List.nodup_cons.mp n3).1 (List.mem_append_right _ q)
  rw[y0 hab];exact M
 exact k1 _ _ _ _ _ _ (S'.setR hj (Ft.rep _ _ _ dis a5)) h1
structure FM(P:Program)(w:World)(K:W.Frag)(mg:Str->Option Value)(base:Heap)(k:Nat)(C:Addr)(ns:List Str)(m:Str)(ps:List Str)(T:FTQ):Prop where
 ex:∃f fd,FnOk P w K mg base CX0 k f fd ps (spQ K ps.length T)/\ua K fd ps []/\Meth K C m f
 no:m∉ns
def Oq(l n:Nat)(C:Addr)(ns:List Str)(T:FTQ)(t:TQs):TQ:=λU Y=>∃ds,slot U l=some (dv (.ob C ns ds))/\t U λes j=>match slot j l with
 |some ⟨.val,d⟩=>Nat.beq (es.length+1) n=true/\T d es λr d'=>Y r (setS j l (dv d'))
 |_=>False
def Yv{H_:Hp}(no:m∉ns):∀G H Q,D4 X.K H_ l (Oq l ps.length C ns T t) G H Q->O6 C m (spQ X.K ps.length T) [] E0 (tVar l) (Lj X.K H_ l t) G H Q:=λG H Q q=>by
 obtain⟨U,o,A,d,v,S,Y,⟨ds,a0,N⟩,kk⟩:=q;have e0:some (dv d)=some (dv (.ob C ns ds)):=by rw[<- a0];exact(we S.hd).symm
 cases e0
 obtain⟨a,dx,xs,B,ev,qa,ln,nn,eA,r⟩:=S.ft;refine⟨v,S.hv,a,dx,_,ev,qa,qk no,U,o,A,_,v,S,_,N,λus rs I H1 A1 d1 g1 j M h1=>?_⟩;have Z:slot I l=some (dv d1):=we j.hd;rw[Z]at h1;show spQ X.K ps.length T (v::(us++[])) H1 Q E0;rw[List.append_nil];refine⟨d1,rs,v,us,A1,_,rfl,Nat.eq_of_beq_eq_true h1.1,j.ft,j.ndA,Reps.sub (λa ha=>List.mem_append_right _ ha) _ _ M,h1.2,λu r d' H' A' g ft nd fr pr rr h2=>?_⟩;exact kk u r _ H' A' d' (g1.trans g) (j.chg g ft nd fr) pr rr h2
def yk{pl:Sem Bool}(O:CO X.K C ns)(F:FM X.prog X.w X.K X.mg X.base k C ns m ps T)(hr:Room k X.A)(ha:QA L l X (e::es) t)(hN:X.N[l]?=some y:=by rfl)(M:Vis X.env.scope y:=by walk_at "o")(hd:D_ y:=by decide)(B:(y==("__classdict__" : Str))=false:=by decide)(j:S_ X e es:=by rfl)(q:B_ X es pos:=by rfl)(Z:eval (.Call (.Attribute (.Name y np) m apos) (e::es) [] pos) X.env=(do
   let I <- eval (.Name y np) X.env
   standAt apos.atName
   let (f,first) <- holding [I] (getMethod I m pl)
   callWith pos f first (backTo pos (starEach (e::es) X.env)) (backToKw pos (keywordEach [] X.env))):=by rfl) :
  EQ L l X (.Call (.Attribute (.Name y np) m apos) (e::es) [] pos) (Oq l ps.length C ns T t):=λH_=>by
 obtain⟨f,fd,ok,b,hm⟩:=F.ex;exact impE (Rh (uu hN M hd B) O.cl hm ok hr b .nil W7 (ha H_) j q Z) (Yv F.no)
def U6{pl:Sem Bool}(O:CO X.K C ns)(F:FM X.prog X.w X.K X.mg X.base k C ns m ps T)(hr:Room k X.A)(hN:X.N[l]?=some y:=by rfl)(hv:Vis X.env.scope y:=by walk_at "o")(hd:D_ y:=by decide)(I:(y==("__classdict__" : Str))=false:=by decide)(ht:eval (.Call (.Attribute (.Name y np) m apos) [] [] pos) X.env=(do
   let M <- eval (.Name y np) X.env
   standAt apos.atName
   let (f,first) <- holding [M] (getMethod M m pl)
   callWith pos f first (backTo pos (starEach [] X.env)) (backToKw pos (keywordEach [] X.env))):=by rfl) :
  EQ L l X (.Call (.Attribute (.Name y np) m apos) [] [] pos) (Oq l ps.length C ns T Kx):=λH_=>by
 obtain⟨f,fd,ok,b,hm⟩:=F.ex;refine impE (Vq (uu hN hv hd I) O.cl hm ok hr b .nil W7 ht) λG H Q q=>?_;obtain⟨v,B,a,dx,fs,e1,Z,l1,z⟩:=Yv F.no G H Q q;refine⟨v,B,a,dx,fs,e1,Z,l1,?_⟩;obtain⟨U,o,A,d,v2,S,Y,j,k⟩:=z;exact k [] [] U H A d Grow.refl S rfl j
def qWh(tc:TQb)(tb:TQS):TQS:=λU Z=>∃(P:DE->Prop)(μ:DE->Nat),P U/\∀ρ1,P ρ1->tc ρ1 λb q=>(b=true->tb q {nx:=λj=>P j/\μ j<μ ρ1,rt:=Z.rt})/\(b=false->Z.nx q)
def On{c:Expr}{I:List Stmt}{tc:TQb}{tb:TQS}(hc:QT L l X c tc)(hb:QSs L l X I tb)(hp:PassesOwn (model X.prog X.w) X.A X.env X.xe:=by exact PassesOwn.never):QS L l X (.While c I [] pos) (qWh tc tb):=λH_=>impS (Vn hp (hc H_) (hb H_)) λDz G H h=>by
 obtain⟨U,o,A,d,v,S,Z,⟨P,μ,hP,N⟩,k1,k2,k3,k4⟩:=h;refine⟨λm B H'=>∃j o' A' d',ST X.K H_.1 H' B j o' l A' d' v/\P j/\μ j=m,⟨_,U,o,A,d,S,hP,rfl⟩,?_⟩;rintro m a6 H1 ⟨M,o1,A1,d1,S1,p1,rfl⟩;refine⟨M,o1,A1,d1,v,S1,_,N M p1,λb a4 H2 A2 d2 g2 S2 h2=>?_⟩;cases b with
 |false =>
  rw[if_neg (by decide)]
  exact k1 _ _ _ _ _ _ S2 (h2.2 rfl)
 |true =>
  rw[if_pos rfl];refine⟨λB H'=>∃j o' A' d',ST X.K H_.1 H' B j o' l A' d' v/\P j/\μ j<μ M,λB H' ⟨j,o',A',d',S',p',q'⟩=>⟨_,q',j,o',A',d',S',p',rfl⟩,a4,o1,A2,d2,v,S2,_,h2.1 rfl,λa0 a5 H3 o3 A3 d3 S3 h3=>⟨a0,o3,A3,d3,S3,h3.1,h3.2⟩,λ_ _ _ _ _ _ _ q=>q.elim,λ_ _ _ _ _ _ _ q=>q.elim,k4⟩
def Ky(l:Nat)(C:Addr)(f:Str)(j:TP1)(q:TF):TQS:=λU Z=>q U λx=>j U λπ=>∃d ns ds,slot U l=some (dv d)/\atQ π d=some (.ob C ns ds)/\ns.length<=100/\f∉ns/\Z.nx (setS U l (dv (putQ π d (.ob C (ns++[f]) (ds++[x])))))
def t4(cl:Cls X.K C)(na:ji X.K C f)(hp:EPQ L l X oe tp)(he:EF L l X e tf)(hs:swapsWith e (some (.Attribute oe f pos')) pos.line X.env=pure false:=by rfl):QS L l X (.Assign [.Attribute oe f pos'] e pos) (Ky l C f tp tf):=λH_=>impS (L7 (hp H_) (he H_) hs) λDz G H h=>by
 obtain⟨U,o,A,d,v,S,Z,hZ,k1,k2,k3,k4⟩:=h;refine⟨U,o,A,d,v,S,_,hZ,λw y B H1 s1 fy nB M h1=>⟨U,o,A,d,v,S.to s1,_,h1,λu π H2 s2 vp h2=>?_⟩⟩;obtain⟨d',ns,ds,es,ea,hn,hf,h2⟩:=h2;have e2:some (dv d')=some (dv d):=by rw[<- es];exact we S.hd
 cases e2
 obtain⟨u',A1,hv,f1,n1,sub,dm,_⟩:=S.focQ ea;have j:=s1.trans s2;cases (vp.fn (hv.to j));obtain⟨b,dx,xs,At,rfl,q,N,nd,rfl,fs⟩:=f1;have lx:ns.length=xs.length:=by rw[N,fs.length]
 have a7:Fts X.K H2 ds xs At:=Fts.keep (Gt.same j) _ _ _ (λa _ x hx=>j _ _ hx) fs;have a6:Ft X.K H2 y w B:=Ft.keep (Gt.same s2) _ _ _ (λa _ x hx=>s2 _ _ hx) fy;have a0:=List.nodup_cons.mp n1;have a4:(ns++[f]).Nodup:=by
  rw[List.nodup_append];refine⟨nd,by simp,λa I c hc e=>?_⟩
  rw[List.mem_singleton.mp hc]at e;exact hf (e▸I)
 obtain⟨A',S',g,_⟩:=S.putH (e:=.ob C (ns++[f]) (ds++[y])) (ho:=.ins C dx ((ns++[f]).zip (xs++[w]))) (A1':=At++B) ea ⟨b,dx,xs,At,rfl,q,N,nd,rfl,fs⟩ n1 (λu A2 a5 f2 n2=>by
  cases hv.fn a5
  exact⟨rfl,Ft.uniq _ _ _ _ f2 ⟨b,dx,xs,At,rfl,q,N,nd,rfl,fs⟩⟩) j (a7.app (es:=[y]) (ys:=[w]) ⟨w,[],B,[],rfl,by simp,a6,rfl,rfl⟩) (by
   rw[List.nodup_append];refine⟨a0.2,nB,λa I c hc e=>?_⟩;subst e;exact dm a (zal _ I) (M a hc)) (λa I=>(zas.mp I).imp id (M a)) (λ_ z=>by cases z) (λ_ _ z=>by cases z) (λH' hb f'=>⟨b,dx,_,_,rfl,hb,by rw[zLa,zLa,N];rfl,a4,rfl,f'⟩)
 refine⟨b,C,dx,_,rfl,j _ _ q,cl,na,by rw[List.length_zip];omega,?_⟩
 rw[Vm hf lx];exact k1 _ _ _ _ _ _ S' h2
end
def su{x M m:Str}{st:Stmt}{f:Addr}{fd:FuncData}{N ps:List Str}{k:Nat}{T:FTQ}{C:Addr}{ns:List Str}(F:Fun K x M st f fd)(S:zu N ps (zd st))(b:ua K fd ps [])(hm:Meth K C m f)(no:m∉ns)(qY:∀ (qZ:Value) (A:Around) (outer:List Env) (s:Shared) (H:Hp) (E:XK) (d:D) (ds:List D) (Y:D->D->Prop),Room k (A.deeper (envOfC M (zd st) s.heap.objs.size f qZ))->ds.length+1=ps.length->T d ds Y ->
   ∃ t,QSs (λ_=>True) 0 (cxOf CX0 P w K mg base N M (zd st) f qZ A outer s H E).nox (yt st) t/\t (wa N.length (d::ds)) {nx:=λU=>∃ d',slot U 0=some (dv d')/\Y .non d',rt:=λr U=>∃ d',slot U 0=some (dv d')/\Y r d'}):FM P w K mg base (k+1) C ns m ps T:=by
 refine⟨⟨f,fd,F.ok S (λvs H Q E h=>?_) (λqZ A outer s H vs Q E hr h=>?_),b,hm⟩,no⟩
 ·obtain⟨d,ds,v,ws,A,Y,rfl,hl,_,_,r,_⟩:=h;rw[zLc,r.length,hl]
 obtain⟨d,ds,v,ws,I,Y,rfl,hl,ft,nd,r,hT,kk⟩:=h;obtain⟨t,ht,hq⟩:=qY qZ A outer s H E d ds Y hr hl hT;have R0:=sj (N:=N) (ds:=d::ds) (vs:=v::ws) (H:=H) ⟨v,ws,rfl,Ft.rep _ _ _ (λa _ z=>by cases z) ft,Reps.sub (λa ha=>by cases ha) _ _ r⟩
 have s0:=jb I H;have S0:ST K (vc I H) H (ZZ.start N (v::ws)) (wa N.length (d::ds)) [] 0 I d v:=by
  refine⟨⟨s0,λp hp=>?_,λp hp=>?_,λp hp=>?_,?_,λi q e=>?_,?_⟩,rfl,rfl,ft⟩
  ·obtain⟨a,ha,rfl⟩:=zah.mp (show p∈tg 0 I from hp);exact k5 ha
  ·obtain⟨a,ha,rfl⟩:=zah.mp (show p∈tg 0 I from hp);obtain⟨u,hu,_⟩:=Ft.dom _ _ _ ft a ha;exact⟨u,hu⟩
  ·obtain⟨a,ha,rfl⟩:=zah.mp (show p∈tg 0 I from hp);obtain⟨u,hu,n1,n2⟩:=Ft.dom _ _ _ ft a ha;refine⟨λxs z=>?_,λob w z=>?_⟩
   ·rw[hu]at z;cases z;exact n1 _ rfl
   rw[hu]at z;cases z;exact n2 _ _ rfl
  ·rw[wf];exact nd
  ·obtain⟨hi,e⟩:=ki e;rw[wf];cases i with
   |zero=>exact absurd rfl hi
   |succ i =>
    have e':((ds.map λd=>some (dv d))++List.replicate (N.length-(d::ds).length) none)[i]?=some (some q):=e;rcases Nat.lt_or_ge i ds.length with hi|hi
    ·rw[List.getElem?_append_left (by simpa using hi),zai]at e'
     have ed:ds[i]?=some ds[i]:=by simp[hi]
     rw[ed]at e';have e2:some (dv ds[i])=some q:=Option.some.inj e';cases e2;obtain⟨u,eu,ru⟩:=r.get ed;refine⟨u,?_,.inl ⟨rfl,ru⟩⟩;unfold ZZ.start;show((ws.map some)++_)[i]?=_;rw[List.getElem?_append_left (by rw[zLm,r.length];exact hi),zai,eu]
     rfl
    rw[List.getElem?_append_right (by simpa using hi),List.getElem?_replicate]at e'
    split at e' <;> cases e'
  rw[uv,List.length_set];exact R0.len
 have fin:∀u e d' j B H' o' A' d2,ST K (vc I H) H' B j o' 0 A' d2 v->zj e->Rep K H' [] e u->slot j 0=some (dv d')->Y e d'->Q u H':=λu e d' j B H' o' A' d2 S' pe re es h=>by
  have e2:some (dv d2)=some (dv d'):=by
   rw[<- es];exact(we S'.hd).symm
  cases e2
  have kp:∀b x,H b=some x->b∉I->H' b=some x:=λb x Z hn=>S'.Q.same b x (by rw[xo hn];exact Z)
  refine kk u e d' H' A' ⟨λb x Z hn=>⟨kp b x Z hn,λz=>?_⟩,λb xs Z=>kp b _ Z λz=>?_,λb ob w Z=>kp b _ Z λz=>?_⟩ S'.ft S'.ndA (λa ha=>?_) pe re h
  ·have:=S'.frA b z;rw[xo hn,Z]at this;cases this
  ·obtain⟨w,hw,n1,_⟩:=Ft.dom _ _ _ ft b z;rw[Z]at hw;cases hw;exact n1 _ rfl
  ·obtain⟨w',hw,_,n2⟩:=Ft.dom _ _ _ ft b z;rw[Z]at hw;cases hw;exact n2 _ _ rfl
  have:=S'.frA a ha;by_cases hA:a∈I
  ·exact .inl hA
  rw[xo hA]at this;exact .inr this
 refine⟨Qb K (vc I H) 0 t,ht ⟨vc I H,trivial⟩,wa N.length (d::ds),[],I,d,v,S0,_,hq,λj B H' o' A' d2 S' Zh=>?_,λ_ _ _ _ _ _ _ q=>q.elim,λ_ _ _ _ _ _ _ q=>q.elim,λu e j B H' o' A' d2 S' pe re ⟨d',es,h'⟩=>fin u e d' j B H' o' A' d2 S' pe re es h'⟩;obtain⟨d',es,h'⟩:=Zh;exact fin .non .non d' j B H' o' A' d2 S' trivial rfl es h'
def N8:typeLookup (.type "zip") "keys" = pure none:=am_miss_of_fast (by kernel_rfl)
def Z4:typeLookup (.type "zip") "__getattr__" = pure none:=am_miss_of_fast (by kernel_rfl)
def c9:entryFor table "zip.__getattribute__" = some Builtin.«object.__getattribute__»:=entryFor_alias (id':="object.__getattribute__") (by kernel_rfl) (by decide +kernel) (by decide +kernel) (by kernel_rfl)
def Q5(a:Addr)(fs:Array Value)(u:Tok):Meets (Builtin.«object.__getattribute__» ⟨[.ref a,.str "keys" u],[]⟩) (λA R s=>s.heap.get? a=some {cls:=.type "zip",dict:=none,data:=.fields fs,slots:=#[]}/\raisesAttr (.ref a) "keys" A R s) :=
 Meets.of_wp λP w A R s j=>by
  obtain⟨I,g,d,tk,q⟩:=s;obtain⟨B,j⟩:=j;have hT:(⟨I,g,d,tk,q⟩:Shared).TypeIs (.ref a) "zip":=⟨_,B,rfl⟩;have M:=N8;unfold Builtin.«object.__getattribute__»
  repeat (any_goals (first|exact hT|exact M|assumption|wp_step))
  exact wpAny_raiseAttrError j.1 j.2 (attrMsg_fits (by decide +kernel) (by size_fits))
def qq1{fs:Array Value}{Q:Option Value->Shared->Prop}(I:s.heap.get? a=some {cls:=.type "zip",dict:=none,data:=.fields fs,slots:=#[]})(hA:A.handled=none)(h:∀ g tk,(∀ b u,s.heap.get? b=some u->g.get? b=some u)->Q none {s with heap:=g,toks:=tk}):wpAny (model P w) A (getAttr? (.ref a) "keys") Q E s:=by
 obtain⟨M,g,d,tk,B⟩:=s;have hT:∀j,(⟨M,g,d,j,B⟩:Shared).TypeIs (.ref a) "zip":=λ_=>⟨_,I,rfl⟩;have f1:=sub_AttributeError;have f3:=F.slot_zip_getattribute.lookup;have f4:=F.slot_zip_getattribute.bind (.ref a);have f5:=Z4;unfold getAttr? getAttrBy? getAttrBy
 repeat (any_goals (first|assumption|exact hT _|((with_reducible show wpAny _ _ (call (Value.builtin "zip.__getattribute__") _ _) _ _ _);refine call_meets F.slot_zip_getattribute (hT _) c9 (F.args_zip_getattribute_2 _ _) (Q5 a fs _) ⟨I,hA,λh' j e q=>?_⟩)|wp_step))
 obtain⟨t',u',N⟩:=q.there;have Z:∀tk'',(⟨h',g,d,tk'',B⟩:Shared).TypeIs (.ref e) "AttributeError":=λ_=>⟨_,N,rfl⟩;show wpAny _ _ (getattributeRaised _ _ _ _ _ _ _) _ _ _;unfold getattributeRaised
 repeat (any_goals (first|assumption|exact Z _|wp_step))
 exact h _ _ q.keeps
section
variable{R:Result->Shared->Prop}{b1 b2:Bool}{d z ti to i1 i2 l1 l2:Addr}{xs ys:Array Value}{h0:Heap}
def Ul{more:List (Key×Value)}(hh:A.handled=none)(D:ZZ.ZNe z ti to i1 i2)(d1:ZZ.ZOff z to i1 i2 l1)(d2:ZZ.ZOff z to i1 i2 l2)(lz:z<d)(b0:ti<d)(M:to<d)(a0:i1<d)(N:i2<d)(a9:l1≠d)(a8:l2≠d)(b7:xs.size=ys.size)(b8:more.length=xs.size)(hn:xs.size<=1000)(b5:(more.map (·.1)).Nodup)(hv:∀ (i:Nat) x y,xs[i]?=some x->ys[i]?=some y->∃ k t,x=.str k t/\more[i]?=some (Sum.inr k,y)) :
  ∀(k i:Nat)(s:Shared)(tk:Tok)(as:List Addr),xs.size-i=k->i<=xs.size->as.length=i->ZZ.ZS b1 b2 z ti to i1 i2 l1 l2 as i s.heap->ZZ.PairsZ s.heap xs ys d as->ZZ.SqAt b1 s.heap l1 xs->ZZ.SqAt b2 s.heap l2 ys ->
   (∀b o,b≠d->ZZ.ZOff z to i1 i2 b->h0.get? b=some o->s.heap.get? b=some o)->s.heap.DictOf (yq P w) d (more.take i) ->
   (∀g tk,g.DictOf (yq P w) d more->(∀b o,b≠d->ZZ.ZOff z to i1 i2 b->h0.get? b=some o->g.get? b=some o)->R (.ok (.ret .none)) {s with heap:=g,toks:=tk}) ->
   codeAny (model P w) A (.builtin "dict.update.loop" ⟨[.ref d,.ref z,.int i tk,.none],[]⟩) R s:=by
 have B:ZZ.ZOff z to i1 i2 d:=⟨Nat.ne_of_gt lz,Nat.ne_of_gt M,Nat.ne_of_gt a0,Nat.ne_of_gt N⟩;have a5:∀{a:Addr},d<a->ZZ.ZOff z to i1 i2 a:=λ{a} q=>⟨Nat.ne_of_gt (Nat.lt_trans lz q),Nat.ne_of_gt (Nat.lt_trans M q),Nat.ne_of_gt (Nat.lt_trans a0 q),Nat.ne_of_gt (Nat.lt_trans N q)⟩;have b6:A.in1.handled=none:=by simpa using hh
 intro k
 induction k with
 |zero =>
  intro i s tk as hk hi la Z pa t1 t2 j q hR;have e:i=xs.size:=by omega
  refine codeAny_builtin uq ?_;rw[Around.under_plainId xy _];show wpAny _ A.in1 (pyNext (.ref z) >>= _) _ _ s;refine zaa (Gh b6 D d1 d2 Z pa t1 t2 (by rw[e];simp) λg I=>?_)
  show wpAny _ A.in1 (Builtin.Dict.addKeywords d [] >>= _) _ _ _;refine zaa (zab (zab (hR g s.toks ?_ λb o h1 h2 e=>I b o h2 (j b o h1 h2 e))));rw[List.take_of_length_le (by omega)]at q
  obtain⟨o,es,ep,ho,mm⟩:=q;exact⟨o,es,ep,I d o B ho,mm⟩
 |succ k ih =>
  intro i s tk as hk hi la Z pa t1 t2 j q hR;have lt:i<xs.size:=by omega
  have ex:xs[i]?=some xs[i]:=by simp[lt]
  have ey:ys[i]?=some (ys[i]'(by omega)):=by simp[show i<ys.size by omega]
  obtain⟨x,t,hx,hm⟩:=hv i _ _ ex ey;obtain⟨u,hu⟩:∃u,u=ys[i]'(by omega):=⟨_,rfl⟩
  rw[<- hu]at ey hm;rw[hx]at ex;refine codeAny_builtin uq ?_;rw[Around.under_plainId xy _];show wpAny _ A.in1 (pyNext (.ref z) >>= _) _ _ s;refine zaa (K2 D d1 d2 Z pa t1 t2 ex ey λg Z2 pr I=>?_);have ld:d<s.heap.objs.size:=by obtain⟨o,_,_,ho,_⟩:=q;exact zae ho
  have q2:g.DictOf (yq P w) d (more.take i):=by
   obtain⟨o',es,ep,b4,mm⟩:=q;exact⟨o',es,ep,I d o' B b4,mm⟩
  have a6:(Sum.inr x:Key)∉(more.take i).map (·.1):=by
   have e:more.take (i+1)=more.take i++[(Sum.inr x,u)]:=by rw[List.take_succ,hm];rfl
   have h4:((more.take (i+1)).map (·.1)).Nodup:=b5.sublist ((List.take_sublist _ _).map _);rw[e,zMa,List.nodup_append]at h4;intro z;exact h4.2.2 _ z (Sum.inr x) (by simp) rfl
  have a4:ZZ.PairsZ g xs ys d (as++[s.heap.objs.size]):=(pa.to λa o ha e=>I a o (a5 (pa.1 a ha)) e).snoc ld (λm=>Nat.lt_irrefl _ (pa.lt m)) (by rw[la];exact ex) (by rw[la];exact ey) pr
  show wpAny _ A.in1 (holding [Value.ref s.heap.objs.size] _ >>= _) _ _ _;refine zaa (wpAny_holding (zaa (wpAny_tryCatch ?_)));unfold Builtin.Dict.pairItems;refine zaa (wpAny_typeOf (s:={s with heap:=g}) ⟨_,pr,rfl⟩ ?_);rw[if_pos (by decide)]
  refine zaa (wpAny_seqItems (s:={s with heap:=g}) pr rfl (zab ?_));show wpAny _ A.in1 (holding [Value.str x t,u] (dictSet d (.str x t) u)) _ _ _;refine wpAny_holding (wpAny_dictSet_pairs (s:={s with heap:=g}) (knd:=yq P w) (k:=Sum.inr x) (gp P w x t) q2 (λg2 q3 sb=>?_) (by rw[List.length_take];exact zak (Nat.min_le_left _ _) (zak hi (zak hn (by decide)))))
  refine zab ⟨plainId_quiet xy _,?_⟩;rw[cq a6,show more.take i++[((Sum.inr x:Key),u)]=more.take (i+1) by rw[List.take_succ,hm];rfl]at q3
  show codeAny (model P w) A (.builtin "dict.update.loop" ⟨[.ref d,.ref z,.int ((i:Int)+1) _,.none],[]⟩) R _;have ei:((i:Int)+1)=((i+1:Nat):Int):=by omega
  rw[ei];refine ih (i+1) _ _ (as++[s.heap.objs.size]) (by omega) lt (by rw[zLa,la];rfl) (Z2.to λc o hc e=>sb.extBut c o (λz=>?_) e) (a4.to λa o ha e=>sb.extBut a o (Nat.ne_of_gt (a4.1 a ha)) e) ((t1.at λo e=>I _ o d1 e).at λo e=>sb.extBut _ o a9 e) ((t2.at λo e=>I _ o d2 e).at λo e=>sb.extBut _ o a8 e)
   (λb o' h1 h2 e=>sb.extBut b o' h1 (I b o' h2 (j b o' h1 h2 e))) q3 λg3 a7 q4 k4=>hR g3 a7 q4 k4
  subst z;rcases hc with rfl|rfl|rfl|rfl|rfl
  ·exact Nat.lt_irrefl _ lz
  ·exact Nat.lt_irrefl _ b0
  ·exact Nat.lt_irrefl _ M
  ·exact Nat.lt_irrefl _ a0
  exact Nat.lt_irrefl _ N
end
variable{b1 b2:Bool}{z ti to i1 i2 l1 l2:Addr}{xs ys:Array Value}
def dict_zip{more:List (Key×Value)}{Q:Value->Shared->Prop}(hh:A.handled=none)(D:ZZ.ZNe z ti to i1 i2)(d1:ZZ.ZOff z to i1 i2 l1)(d2:ZZ.ZOff z to i1 i2 l2)(Z:ZZ.ZAt b1 b2 s.heap z ti to i1 i2 l1 l2 .none 0)(t1:ZZ.SqAt b1 s.heap l1 xs)(t2:ZZ.SqAt b2 s.heap l2 ys)(a9:xs.size=ys.size)(b4:more.length=xs.size)(hn:xs.size<=1000)(b0:(more.map (·.1)).Nodup)(hv:∀ (i:Nat) x y,xs[i]?=some x->ys[i]?=some y->∃ k t,x=.str k t/\more[i]?=some (Sum.inr k,y))(h:∀ g tk,g.DictOf (yq P w) s.heap.objs.size more->(∀ b o,ZZ.ZOff z to i1 i2 b->s.heap.get? b=some o->g.get? b=some o)->Q (.ref s.heap.objs.size) {s with heap:=g,toks:=tk}):wpAny (model P w) A (call (.type "dict") [.ref z]) Q E s:=by
 refine callType_codes (Q₁:=λN y=>N=.ref s.heap.objs.size/\y={s with heap:=s.heap.push {cls:=.type "dict",data:=.dict #[]}}) F.kt_called_dict (F.kt_typeCall_dict_1 _) F.entry_dict_init (kt_code_dict_new _ ⟨rfl,rfl⟩) ?_;rintro N y ⟨rfl,rfl⟩;obtain⟨zz,its,⟨oa,ob,M⟩,one,I⟩:=id Z;have lz:z<s.heap.objs.size:=zae zz;have a8:ti<s.heap.objs.size:=zae its;have a7:to<s.heap.objs.size:=zae M;have li:∀{b:Bool}{it l:Addr}{i:Nat},ZZ.ItAt b s.heap it l i->it<s.heap.objs.size:=λ{b it l i} q=>by
  cases b with
  |true=>obtain⟨o,e,_⟩:=(show s.heap.IsTupleIter it l i from q);exact zae e
  |false=>obtain⟨o,e,_⟩:=(show s.heap.IsListIter it l i from q);exact zae e
 have ls:∀{b:Bool}{l:Addr}{xs:Array Value},ZZ.SqAt b s.heap l xs->l<s.heap.objs.size:=λ{b l xs} q=>by
  cases b with
  |true=>obtain⟨o,e,_⟩:=(show s.heap.IsTuple l xs from q);exact zae e
  |false=>obtain⟨o,e,_⟩:=(show s.heap.IsList l xs from q);exact zae e
 have new:(s.heap.push {cls:=.type "dict",data:=.dict #[]}).DictOf (yq P w) s.heap.objs.size []:=Heap.DictOf.new s.heap;have a4:∀b u,s.heap.get? b=some u->(s.heap.push {cls:=.type "dict",data:=.dict #[]}).get? b=some u:=λb u e=>zac _ e;have B:=a4 z _ zz;have a5:Shared.TypeIs {s with heap:=s.heap.push {cls:=.type "dict",data:=.dict #[]}} (.ref z) "zip":=⟨_,B,rfl⟩;refine⟨new.typeIs,F.args_dict_init_2 _ _,?_⟩;unfold Builtin.«dict.__init__»;refine zaa ?_;unfold Builtin.Dict.selfAndRest;refine zaa (wpAny_notOrdered_dict new.typeIs ?_);show wpAny _ _ (pure (s.heap.objs.size,[Value.ref z])) _ _ _;refine zab ?_;show wpAny _ _ (Builtin.Dict.updateFrom "dict.__init__" s.heap.objs.size (.ref z) [] .none) _ _ _;unfold Builtin.Dict.updateFrom;refine zaa (wpAny_typeOf a5 ?_);rw[if_pos (by decide)]
 refine zaa (qq1 B (by simpa using hh) λg tk a0=>?_)
 rw[if_pos (show(Option.none:Option Value).isNone=true from rfl)];have up:∀b o,s.heap.get? b=some o->g.get? b=some o:=λb o e=>a0 b o (a4 b o e);refine zaa (wpAny_rule (zaa (wpAny_pyIter_zip (s:={s with heap:=g,toks:=tk}) (up z _ zz) ?_)));refine zab ⟨plainId_quiet xy _,?_⟩;have q0:g.DictOf (yq P w) s.heap.objs.size []:=by
  obtain⟨o,es,ep,ho,mm⟩:=new;exact⟨o,es,ep,a0 _ _ ho,mm⟩
 refine Ul (h0:=s.heap) (b1:=b1) (b2:=b2) (ys:=ys) (by simpa using hh) D d1 d2 lz a8 a7 (li one) (li I) (Nat.ne_of_lt (ls t1)) (Nat.ne_of_lt (ls t2)) a9 b4 hn b0 hv xs.size 0 _ _ [] (Nat.sub_zero _) (Nat.zero_le _) rfl
  (.inl ⟨rfl,up _ _ zz,up _ _ its,⟨oa,ob,up _ _ M⟩,one.at λo e=>up _ o e,I.at λo e=>up _ o e⟩) ⟨(λ_ q=>nomatch q),List.nodup_nil,λj a e=>by simp at e⟩ (t1.at λo e=>up _ o e) (t2.at λo e=>up _ o e) (λb o _ _ e=>up b o e) q0 λg2 a6 q2 k2=>?_
 exact⟨rfl,h g2 a6 q2 λb o q e=>k2 b o (Nat.ne_of_lt (zae e)) q e⟩
def O7(K:W.Frag)(ta:TA):TE:=λG H Q=>ta G H λvs H1=>∃b1 b2 l1 l2 xs ys,∃zs:List Str,vs=[.ref l1,.ref l2]/\SqK b1 K H1 l1 xs/\SqK b2 K H1 l2 ys/\xs=zs.map V.str/\xs.length=ys.length/\xs.length<=1000/\zs.Nodup /\
 ∀l,H1 l=none->Q (.ref l) (upd H1 l (.dK ((zs.map Sum.inr).zip ys)))
def Uw{X:Cx}{a b:Expr}{ta:TA}{p p2 pos pos2:Pos}(hc:X.calm=true)(hg:Gl X "dict")(hm:X.mg "dict" = none)(a7:Gl X "zip")(a6:X.mg "zip" = none)(ha:PA X [a,b] ta)(h1:starEach [.Call (.Name "zip" p2) [a,b] [] pos2] X.env=(false,eval (.Call (.Name "zip" p2) [a,b] [] pos2) X.env)::starEach [] X.env:=by rfl)(he:starEach [a,b] X.env=(false,eval a X.env)::starEach [b] X.env:=by rfl)(a5:(backTo pos2 (starEach [b] X.env)).any (·.1)=false:=by rfl) :
  PE X (.Call (.Name "dict" p) [.Call (.Name "zip" p2) [a,b] [] pos2] [] pos) (O7 X.K ta):=by
 intro pn s G H Q I h;refine wpAny_Call_Name_kw (je I hg hm ZZ.boot_dict' ?_ (by decide) (by decide))
 refine PyProof.Rows.callWith_type1 ?_ h1 (by rfl)
 rw[h1];show wpAny _ _ (spliced ((false,eval _ X.env)::backTo pos (starEach [] X.env))) _ _ s;refine Calls.spliced_cons ?_;refine wpAny_Call_Name_kw (je I a7 a6 Xm ?_ (by decide) (by decide))
 refine PyProof.Rows.callWith_type1 (thn (ha pos2 pn s G H _ I h) λus s1 Zh=>?_) he a5;obtain⟨vs,H1,I1,M,b1,b2,l1,l2,xs,ys,zs,e,e1,e2,ez,hl,hn,nd,q⟩:=Zh;subst e;obtain⟨u,v,rfl,ru,rv⟩:=Pz M;cases ru;cases rv;obtain⟨j,M,g1⟩:=Yk I1 e1;obtain⟨B,r2,g2⟩:=Yk I1 e2;refine V4 (xs:=j.toArray) (ys:=B.toArray) g1 g2 λg Z kp=>Calls.spliced_nil ?_;have D:ZNe (s1.heap.objs.size+4) (s1.heap.objs.size+2) (s1.heap.objs.size+3) s1.heap.objs.size (s1.heap.objs.size+1):=by
  constructor <;> (intro z;exact absurd (show(_:Nat)=_ from z) (by omega))
 have N:∀{c:Addr},c<s1.heap.objs.size->ZOff (s1.heap.objs.size+4) (s1.heap.objs.size+3) s1.heap.objs.size (s1.heap.objs.size+1) c:=λ{c} q=>⟨Nat.ne_of_lt (Nat.lt_of_lt_of_le q (Nat.le_add_right _ _)),Nat.ne_of_lt (Nat.lt_of_lt_of_le q (Nat.le_add_right _ _)),Nat.ne_of_lt q,Nat.ne_of_lt (Nat.lt_of_lt_of_le q (Nat.le_add_right _ _))⟩;have a4:∀{b:Bool}{l:Addr}{its:List Value},SqAt b s1.heap l its.toArray->l<s1.heap.objs.size:=λ{b l its} q=>by
  cases b with
  |true=>obtain⟨o,e,_⟩:=(show s1.heap.IsTuple _ _ from q);exact zae e
  |false=>obtain⟨o,e,_⟩:=(show s1.heap.IsList _ _ from q);exact zae e
 have big:s1.heap.objs.size+4<g.objs.size:=zae Z.zz;have n1:=M.length;have n2:=r2.length;have hb:=I1.big;have ex:∀(zs:List Str)(j B:List Value)(ys:List V),Vals (zs.map V.str) j->Vals ys B->zs.length=ys.length->∃more:List (Key×Value),KV ((zs.map (Sum.inr:Str->Key)).zip ys) more/\more.length=j.length/\more.map (·.1)=zs.map (Sum.inr:Str->Key) /\
   ∀(i:Nat) x y,j[i]?=some x->B[i]?=some y->∃k t,x=.str k t/\more[i]?=some (Sum.inr k,y):=by
  intro zs
  induction zs with
  |nil =>
   intro j B ys M r2 l;cases M;cases ys with
   |nil=>exact⟨[],.nil,rfl,rfl,λi x y e=>by simp at e⟩
   |cons _ _=>simp at l
  |cons zt zs ih =>
   intro j B ys M r2 l;cases ys with
   |nil=>simp at l
   |cons y ys =>
    cases M with
    |cons h1 t1 =>
     cases r2 with
     |cons h2 t2 =>
      obtain⟨more,k1,k2,k3,k4⟩:=ih _ _ ys t1 t2 (by simpa using l)
      obtain⟨tt,rfl⟩:=h1;rename_i u2 _;refine⟨(Sum.inr zt,u2)::more,.cons ⟨rfl,h2⟩ k1,by simp[k2],by simp[k3],λi x y' e e'=>?_⟩
      cases i with
      |zero =>
       simp at e e';subst e e';exact⟨zt,tt,rfl,rfl⟩
      |succ i =>
       obtain⟨k,t,e3,e4⟩:=k4 i x y' (by simpa using e) (by simpa using e')
       exact⟨k,t,e3,by simpa using e4⟩
 subst ez;obtain⟨more,k1,k2,k3,k4⟩:=ex zs j B ys M r2 (by simpa using hl)
 rw[zLm]at hn n1 hl;refine ZZ.dict_zip (s:={s1 with heap:=g}) (A:=X.A) (more:=more) (I1.ok.hd hc) D (N (a4 g1)) (N (a4 g2)) Z (g1.at λo e=>kp _ o e) (g2.at λo e=>kp _ o e) (by rw[zap,zap];omega) (by rw[zap];exact k2) (by rw[zap];omega) (by
   rw[k3];exact List.Pairwise.map _ (λa b h e=>h (Sum.inr.inj e)) nd) (λi x y e e'=>k4 i x y (by simpa using e) (by simpa using e')) λh' tk qd keep=>?_
 dsimp only at keep qd ⊢
 have a0:∀b o,s1.heap.get? b=some o->h'.get? b=some o:=λb o e=>keep b o (N (zae e)) (kp b o e);have gb:(s1.heap.objs.size:Nat)<=g.objs.size:=by have:(s1.heap.objs.size+4:Nat)<g.objs.size:=big;omega
 have fr:H1 g.objs.size=none:=I1.hok.fresh gb;refine⟨.ref g.objs.size,_,I1.laid (o:=.dK ((zs.map Sum.inr).zip ys)) (t':=tk) a0 gb ?_,rfl,q _ fr⟩;have lk:=k1.length;exact Ud (by rw[lk,k2,<- n1];exact zak hn (by decide)) (by simpa using Nat.ne_of_gt (Nat.lt_of_lt_of_le hb gb)) k1 qd
section
variable{a b oe:Expr}{t:TDs}{te:TD}{x:Str}{p p2 pos pos2 pos' np:Pos}
def Ly(t:TDs):TD:=λU Y=>t U λrs=>∃(zs:List Str)(ds:List D),(match rs with
 |[r1,r2]=>(r1.d=.lst (zs.map D.str)\/r1.d=.tup (zs.map D.str))/\(r2.d=.lst ds\/r2.d=.tup ds)
 | _=>False)/\zs.length=ds.length/\zs.length<=1000/\zs.Nodup/\Y (df (.dk (zs.map Sum.inr) ds))
def Tq{K:W.Frag}{H:Hp}{O:List Addr}{d:D}{v:V}{ds:List D}(h:View K H O d v)(e:d=.lst ds\/d=.tup ds):∃b l xs,v=.ref l/\SqK b K H l xs/\Reps K H O ds xs:=by
 rcases e with rfl|rfl
 ·obtain⟨a,xs,rfl,q,r⟩:=h;exact⟨false,a,xs,rfl,SqL.of q,r⟩
 obtain⟨a,xs,rfl,q,r⟩:=h;exact⟨true,a,xs,rfl,q.1,r⟩
def Ua(hm:X.mg "dict" = none)(a6:X.mg "zip" = none)(ha:EA L X [a,b] t)(hc:X.calm=true:=by rfl)(hg:Gl X "dict":=by rfl)(a7:Gl X "zip":=by rfl)(h1:starEach [.Call (.Name "zip" p2) [a,b] [] pos2] X.env=(false,eval (.Call (.Name "zip" p2) [a,b] [] pos2) X.env)::starEach [] X.env:=by rfl)(he:starEach [a,b] X.env=(false,eval a X.env)::starEach [b] X.env:=by rfl)(a5:(backTo pos2 (starEach [b] X.env)).any (·.1)=false:=by rfl) :
  ED L X (.Call (.Name "dict" p) [.Call (.Name "zip" p2) [a,b] [] pos2] [] pos) (Ly t):=λH_ =>
 impE (Uw hc hg hm a7 a6 (ha H_) h1 he a5) λG H Q q=>by
  obtain⟨U,oo,R,Y,a4,kk⟩:=q;refine⟨U,oo,R,_,a4,λvs rs H1 s1 M h1=>?_⟩;obtain⟨zs,ds,h0,hl,hn,nd,h1⟩:=h1;split at h0
  ·rename_i r1 r2;obtain⟨v1,ws,rfl,Z,v2,I,rfl,N,e⟩:=M;cases (show I=[] from e);obtain⟨b1,l1,xs,rfl,q1,a0⟩:=Tq Z.view h0.1;obtain⟨b2,l2,ys,rfl,q2,j⟩:=Tq N.view h0.2;have ex:=Yn a0;have m2:=j.length;refine⟨b1,b2,l1,l2,xs,ys,zs,rfl,q1,q2,ex,by rw[ex,zLm];omega,by rw[ex,zLm];exact hn,nd,λp B=>?_⟩
   have n:=yf B (HO.dK ((zs.map Sum.inr).zip ys));refine kk (.ref p) (df (.dk (zs.map Sum.inr) ds)) _ (s1.trans n) ⟨p,rfl,s1.free B,R.ofree (s1.free B),ys,zm,by rw[zLm];exact hl,List.Pairwise.map _ (λa b h e=>h (Sum.inr.inj e)) nd,Reps.grow (Zy B) _ _ j⟩ h1
  exact h0.elim
def L6(l j:Nat)(q:TP1)(te:TD):TQS:=λU Z=>q U λπ=>∃d ks ds,slot U l=some (dv d)/\atQ π d=some (.dk ks ds)/\j<U.length/\te (hid j U) λr=>match r with
 |⟨.fre,.dk ks2 ds2⟩=>zw ds2/\ks.length+ks2.length<=1000/\(ks++ks2).Nodup/\Z.nx (hid j (setS U l (dv (putQ π d (.dk (ks++ks2) (ds++ds2))))))
 |_=>False
def Oo(j:Nat)(hj:j≠l)(hN:X.N.Nodup)(hp:EPQ L l X oe tp)(he:ED L X e te)(hi:X.N[j]?=some x:=by rfl)(hx:Loc X.env.scope x:=by first|exact Or.inl rfl|exact Or.inr rfl)(hs:swapsWith oe (some (.Name x pos')) pos.line X.env=pure false:=by rfl)(hf:X.fn x=true\/X.env.scope.names.lookup x=some .local:=by first|exact .inl rfl|exact .inr rfl|assumption)(hv:Vis X.env.scope x:=by walk_at "o")(hd:D_ x:=by decide)(a9:(x==("__classdict__" : Str))=false:=by decide)(a7:∀ {ta tb:TE},PE X (.Name x np) ta->PE X e tb->PS X (.Expr (.Call (.Attribute (.Name x np) "update" apos) [e] [] cpos) pos2) (Ur (Gw ta tb)):=by
   intro ta tb h1 h2;exact rj (Je h1 h2 ⟨rfl,rfl,rfl,rfl⟩)) :
  QSs L l X [.Assign [.Name x pos'] oe pos,.Expr (.Call (.Attribute (.Name x np) "update" apos) [e] [] cpos) pos2] (L6 l j tp te):=λH_ =>
 Wn (ww (gh hN hi hx (hp H_) hs hf) (rh (a7 (uu hi hv hd a9) (he H_)))) λDz G H h=>by
  obtain⟨U,o,A,d,v,S,Z,hZ,k1,k2,k3,k4⟩:=h;refine⟨U,o,A,d,v,S,_,hZ,λu π H1 s1 vp h1=>?_⟩;obtain⟨d',ks,ds,es,ea,b6,h1⟩:=h1;have e2:some (dv d')=some (dv d):=by rw[<- es];exact we S.hd
  cases e2
  have S1:=(S.to s1).letgo hj u;have sl:G.length=U.length:=S.R.len;obtain⟨u',A1,M,f1,n1,sub,dm,_⟩:=S1.focQ ea;cases vp.fn M;obtain⟨b,xs,At,rfl,q,ln,nd,rfl,fs⟩:=f1;have xl:ks.length=xs.length:=by rw[ln,fs.length]
  refine⟨.ref b,List.getElem?_set_self (by omega),b,_,rfl,q,hid j U,o,S1.R,_,h1,λw r H2 s2 rv h2=>?_⟩
  split at h2
  ·rename_i B b4;obtain⟨pd,a4,a0,h2⟩:=h2;obtain⟨c,rfl,mc,nc,ys,qc,I,b5,rc⟩:=rv;have yl:B.length=ys.length:=by rw[I,rc.length]
   have a8:b≠c:=λz=>by
    subst z;rw[q]at mc;cases mc
   have b0:Fts X.K H2 ds xs At:=Fts.keep (Gt.same s2) _ _ _ (λa _ x hx=>s2 _ _ hx) fs;have a5:=List.nodup_cons.mp n1;obtain⟨A',S',g,_⟩:=S1.putH (e:=.dk (ks++B) (ds++b4)) (ho:=.dK ((ks++B).zip (xs++ys))) (A1':=At++[]) ea ⟨b,xs,At,rfl,q,ln,nd,rfl,fs⟩ n1 (λu A2 a6 f2 n2=>by
    cases M.fn a6
    exact⟨rfl,Ft.uniq _ _ _ _ f2 ⟨b,xs,At,rfl,q,ln,nd,rfl,fs⟩⟩) s2 (b0.app (Reps.fts _ _ pd rc)) (by rw[List.append_nil];exact a5.2) (λa ha=>by rw[List.append_nil]at ha;exact .inl ha) (λ_ z=>by cases z) (λ_ _ z=>by cases z)
    (λH' hb f=>⟨b,_,_,rfl,hb,by rw[zLa,zLa,ln,I],a0,rfl,f⟩)
   refine⟨c,_,_,rfl,a8,s2 _ _ q,qc,?_,?_,?_⟩
   ·rw[List.length_zip,List.length_zip,<- xl,<- yl,Nat.min_self,Nat.min_self];exact zak a4 (by decide)
   ·rw[<- Xu ks xs B ys xl,qq _ _ (by rw[zLa,zLa,xl,yl])]
    exact a0
   rw[<- Xu ks xs B ys xl];rw[<- sn _ _ (Ne.symm hj)]at S';exact k1 _ _ _ _ _ _ S' h2
  exact h2.elim
end
def D7(K:W.Frag)(H_:Hp)(l:Nat)(t:TF):TE:=λG H Q=>∃U o A d v,ST K H_ H G U o l A d v/\∃Y,t U Y/\∀u e H',Same H H'->RepN K H' (λa=>H_ a=none) e u->Y e->Q u H'
def Jv(K:W.Frag)(H_:Hp)(l:Nat)(t:TFs):TA:=λG H Q=>∃U o A d v,ST K H_ H G U o l A d v/\∃Y,t U Y/\∀us es H',Same H H'->xn K H' (λa=>H_ a=none) es us->Y es->Q us H'
def ER(G:Hp->Prop)(l:Nat)(X:Cx)(e:Expr)(t:TF):Prop:=∀H_:{H:Hp // G H},PE X e (D7 X.K H_.1 l t)
def ERs(G:Hp->Prop)(l:Nat)(X:Cx)(es:List Expr)(t:TFs):Prop:=∀H_:{H:Hp // G H},PA X es (Jv X.K H_.1 l t)
section
variable{es:List Expr}{te:TD}{pos:Pos}
def rE(te:TD):TF:=λU Y=>te U λr=>zj r.d/\Y r.d
def Mb(I:ED L X e te):ER L l X e (rE te):=λH_=>impE (I H_) λG H Q q=>by
 obtain⟨U,o,A,d,v,S,Y,j,k⟩:=q;exact⟨U,o,S.R,_,j,λu r H1 s1 B h1=>k u r.d H1 s1 (Rep.toN _ _ h1.1 B.view.rep0) h1.2⟩
def rP(l:Nat)(j:TP1):TF:=λU Y=>j U λπ=>∃d d1,slot U l=some (dv d)/\atQ π d=some d1/\Y d1
def jp(M:EPQ L l X e tp):ER L l X e (rP l tp):=λH_=>impE (M H_) λG H Q q=>by
 obtain⟨U,o,A,d,v,S,Y,j,k⟩:=q;refine⟨U,o,A,d,v,S,_,j,λu π H1 s1 B h1=>?_⟩;obtain⟨d',d1,es,ea,h1⟩:=h1;have e2:some (dv d')=some (dv d):=by rw[<- es];exact we S.hd
 cases e2
 obtain⟨u',A1,I,Z,_,sub,_⟩:=(S.to s1).focQ ea;cases B.fn I;exact k u d1 H1 s1 (Ft.repN _ _ _ (λa N=>S.frA a (sub a N)) Z) h1
def P9:ERs L l X [] fNil:=λH_=>impA sw λG H Q q=>by
 obtain⟨U,o,A,d,v,S,Y,j,k⟩:=q;exact k [] [] H (Same.refl H) rfl j
def ue{te:TF}{I:TFs}(N:ER L l X e te)(hr:ERs L l X es I)(M:S_ X e es:=by rfl):ERs L l X (e::es) (Hu te I):=λH_=>impA (u0 (N H_) (hr H_) M) λG H Q q=>by
 obtain⟨U,o,A,d,v,S,Y,j,k⟩:=q;refine⟨U,o,A,d,v,S,_,j,λu e1 H1 s1 f1 h1=>⟨U,o,A,d,v,S.to s1,_,h1,λus B H2 s2 Z h2=>?_⟩⟩;exact k (u::us) (e1::B) H2 (s1.trans s2) ⟨u,us,rfl,RepN.to s2 (λ_ z=>z) _ _ f1,Z⟩ h2
def Lr{t:TFs} {x1} (h:ERs L l X es t):ER L l X (.Tuple es x1 pos) (fTup t):=λH_=>impE (Rg (h H_)) λG H Q q=>by
 obtain⟨U,o,A,d,v,S,Y,j,k⟩:=q;refine⟨U,o,A,d,v,S,_,j,λus B H1 s1 f h1=>⟨by rw[f.length,sizeLine_eq];omega,λp I=>?_⟩⟩
 have n:=yf I (HO.tup us);exact k (.ref p) (.tup B) _ (s1.trans n) ⟨p,us,rfl,⟨SqT.of zm,zm⟩,xn.to n (λ_ z=>z) _ _ f⟩ h1.2
def Fn(t:TF):TQS:=λU Z=>t U λd=>Z.rt d U
def R5{t:TF}(h:ER L l X e t):RS L l X (.Return (some e) pos) (Fn t):=λH_=>impS (bh (h H_)) λDz G H h=>by
 obtain⟨U,o,A,d,v,S,Z,q,B,j⟩:=h;exact⟨U,o,A,d,v,S,_,q,λu e H1 s1 r h1=>j u e U H1 (S.Q.same.trans s1) r h1⟩
end
structure FMR(P:Program)(w:World)(K:W.Frag)(mg:Str->Option Value)(base:Heap)(k:Nat)(C:Addr)(ns:List Str)(m:Str)(ps:List Str)(T:FTR):Prop where
 ex:∃f fd,FnOk P w K mg base CX0 k f fd ps (spR K ps.length T)/\ua K fd ps []/\Meth K C m f
 no:m∉ns
def Dy{x j m:Str}{st:Stmt}{f:Addr}{fd:FuncData}{N ps:List Str}{k:Nat}{T:FTR}{C:Addr}{ns:List Str}(F:Fun K x j st f fd)(S:zu N ps (zd st))(b:ua K fd ps [])(hm:Meth K C m f)(no:m∉ns)(qY:∀ (qZ:Value) (A:Around) (outer:List Env) (s:Shared) (H:Hp) (E:XK) (d:D) (ds:List D) (Y:D->Prop),Room k (A.deeper (envOfC j (zd st) s.heap.objs.size f qZ))->ds.length+1=ps.length->T d ds Y ->
   ∃ t,RSs (λ_=>True) 0 (cxOf CX0 P w K mg base N j (zd st) f qZ A outer s H E).nox (yt st) t/\t (wa N.length (d::ds)) {nx:=λ_=>False,rt:=λr _=>Y r}):FMR P w K mg base (k+1) C ns m ps T:=by
 obtain⟨f',a4,ok,b',a0,e⟩:=(Bs (mg:=λ_=>some (.ref f)) (P:=P) (w:=w) (base:=base) (x:=x) (k:=0) (T:=λ_ _ _=>False) F S b rfl λ_ _ _ _ _ _ _ _ _ _ _ h=>h.elim).ex;refine⟨⟨f,fd,F.ok S (λvs H Q E h=>?_) (λqZ A outer s H vs Q E hr h=>?_),b,hm⟩,no⟩
 ·obtain⟨d,ds,v,Z,A,Y,rfl,hl,_,_,r,_⟩:=h;rw[zLc,r.length,hl]
 obtain⟨d,ds,v,Z,q,Y,rfl,hl,ft,nd,r,hT,kk⟩:=h;obtain⟨t,ht,hq⟩:=qY qZ A outer s H E d ds Y hr hl hT;have S0:=V9 (N:=N) ft nd r;refine⟨Vy K (vc q H) 0 t,ht ⟨vc q H,trivial⟩,wa N.length (d::ds),[],q,d,v,S0,_,hq,λB M H' o' A' d2 S' h'=>h'.elim,λu e B H' s' re h'=>?_⟩;refine kk u e H' (λb x hb hn=>s' b x (by rw[xo hn];exact hb)) (RepN.to (Same.refl _) (λa I=>?_) _ _ re) h'
 by_cases hA:a∈q
 ·exact .inl hA
 rw[xo hA]at I;exact .inr I
def ST.make{H_ H H2:Hp}{G:St}{U:DE}{o:List (Nat×Addr)}{l:Nat}{A:List Addr}{d:D}{v:V}(R:REnv K H_ H G U o)(hl:l<U.length)(s:Same H H2)(f:Ft K H2 d v A)(N:A.Nodup)(fr:∀ a∈A,H a=none) :
  ST K H_ H2 (G.set l (some v)) (setS U l (dv d)) o l A d v:=by
 have R2:=R.to s;have dis:∀a∈A,a∉o.map Prod.snd:=λa I=>R.ofree (fr a I);refine⟨⟨R2.same,λp j=>?_,λp j=>?_,λp j=>?_,?_,λi q e=>?_,?_⟩,?_,?_,f⟩
 ·rcases zas.mp j with j|j
  ·exact R.fresh p j
  obtain⟨a,I,rfl⟩:=zah.mp j;exact R.same.free (fr a I)
 ·rcases zas.mp j with j|j
  ·exact R2.trk p j
  obtain⟨a,I,rfl⟩:=zah.mp j;obtain⟨u,hu,_⟩:=Ft.dom _ _ _ f a I;exact⟨u,hu⟩
 ·rcases zas.mp j with j|j
  ·exact R2.mtb p j
  obtain⟨a,I,rfl⟩:=zah.mp j;obtain⟨u,hu,n1,Z⟩:=Ft.dom _ _ _ f a I;refine⟨λxs z=>?_,λM w z=>?_⟩
  ·rw[hu]at z;cases z;exact n1 _ rfl
  rw[hu]at z;cases z;exact Z _ _ rfl
 ·rw[wf,List.nodup_append];exact⟨R.nda,N,λa I b B e=>dis b B (e▸I)⟩
 ·rw[Zx]at e;obtain⟨hi,e⟩:=ki e;obtain⟨w,ew,q⟩:=R.slots i q e;refine⟨w,by rw[List.getElem?_set_ne (Ne.symm hi)];exact ew,?_⟩
  rw[wf];have g:Grow (o.map Prod.snd) (o.map Prod.snd++A) H H2:=⟨λb u B n=>⟨s _ _ B,λz=>(zas.mp z).elim n λz=>by rw[fr b z]at B;cases B⟩,λb xs B=>s _ _ B,λb M u B=>s _ _ B⟩
  rcases q with⟨k,q⟩|⟨k,c,e1,m,cc⟩
  ·exact .inl ⟨k,Rep.grow g _ _ q⟩
  exact .inr ⟨k,c,e1,List.mem_append_left _ m,cc.grow (λu h=>s _ _ h) g⟩
 ·rw[Zx,uv,List.length_set,List.length_set];exact R.len
 ·rw[xp,List.getElem?_set_self hl]
 rw[List.getElem?_set_self (by rw[R.len];exact hl)]
section
variable{x:Str}{te:TD}{pos pos':Pos}
def Fs(j:Nat)(te:TD):TQS:=λU Z=>te U λr=>frs2 r/\Z.nx (setS U j (dv r.d))
def Ks(j:Nat)(hj:j≠l)(hN:X.N.Nodup)(he:ED L X e te)(hi:X.N[j]?=some x:=by rfl)(hx:Loc X.env.scope x:=by first|exact Or.inl rfl|exact Or.inr rfl)(hs:swapsWith e (some (.Name x pos')) pos.line X.env=pure false:=by rfl)(hf:X.fn x=true\/X.env.scope.names.lookup x=some .local:=by first|exact .inl rfl|exact .inr rfl|assumption):QS L l X (.Assign [.Name x pos'] e pos) (Fs j te):=λH_=>impS (gh hN hi hx (he H_) hs hf) λDz G H h=>by
 obtain⟨U,o,A,d,v,S,Z,hZ,k1,k2,k3,k4⟩:=h;refine⟨U,o,S.R,_,hZ,λw r H1 s1 M h1=>?_⟩;obtain⟨B,f,nd,fr⟩:=Qq M h1.1;refine k1 _ _ H1 o A d ((S.to s1).setR hj (Ft.rep _ _ _ (λa I z=>?_) f)) h1.2;rcases zas.mp z with z|z
 ·exact S.R.ofree (fr a I) z
 obtain⟨y,q,_⟩:=Ft.dom _ _ _ S.ft a z;rw[fr a I]at q;cases q
end
def at_0{α:Type}(a:α)(r:List α):atI (a::r) (0:Int)=some a:=by
 unfold atI ixN;rw[if_pos (by decide),if_pos (by rw[zLc];omega)]
 rfl
def A9{α:Type}(a b:α)(r:List α):atI (a::b::r) (1:Int)=some b:=by
 unfold atI ixN;rw[if_pos (by decide),if_pos (by rw[zLc,zLc];omega)]
 rfl
def Pl(rs us:List D)(h:us≠[]):cutD (rs++us) (some (-(us.length:Int))) none=us/\cutD (rs++us) none (some (-(us.length:Int)))=rs:=by
 have j:=List.length_pos_iff.mpr h;have e:ZZ.sIx (rs++us).length 0 (some (-(us.length:Int)))=rs.length:=by
  unfold ZZ.sIx;simp only[zLa];rw[if_pos (by omega)]
  omega
 have e2:ZZ.sIx (rs++us).length (rs++us).length (some (-(us.length:Int)))=rs.length:=by
  unfold ZZ.sIx;simp only[zLa];rw[if_pos (by omega)]
  omega
 refine⟨?_,?_⟩
 ·unfold cutD;rw[e];rw[List.drop_left];show us.take ((rs++us).length-rs.length)=us;rw[zLa];exact List.take_of_length_le (by omega)
 unfold cutD;rw[e2];show(rs++us).take (rs.length-0)=rs;rw[Nat.sub_zero,List.take_left]
def Nn(n:Nat):ixN (n+1) (-1:Int)=some n:=by
 unfold ixN;rw[if_neg (by decide),if_pos (by omega)]
 congr 1
 omega
def Vf:Manifest.owners.lookup (String.ofList ['d','e','s','r','e','v','e','r'].reverse)=some Manifest.sig_reversed:=by kernel_rfl
def ga:Slot "reversed" "__next__" "reversed.__next__" :=
 .of (owner:="reversed") (n:="__next__") (by rw[typeLookup_type,builtinLookup_eq_fast];kernel_rfl) (by decide +kernel) (by decide +kernel) (by decide +kernel)
  (by first|exact .inl (by decide +kernel)|exact .inr (by decide +kernel)) (by rw[isSubtype_type];kernel_rfl)
def Vg:entryFor table "reversed.__next__" = some Builtin.«reversed.__next__»:=entryFor_of_tree (by kernel_rfl)
def Sy(a:Value):argsOk "reversed.__next__" ⟨[a],[]⟩:=by
 unfold argsOk;rw[signature?_of (id:="reversed.__next__") (n:=['_','_','t','x','e','n','_','_']) (o:=['d','e','s','r','e','v','e','r']) (by kernel_rfl) Vf];kernel_rfl
def Su:Slot "reversed" "__iter__" "reversed.__iter__" :=
 .of (owner:="reversed") (n:="__iter__") (by rw[typeLookup_type,builtinLookup_eq_fast];kernel_rfl) (by decide +kernel) (by decide +kernel) (by decide +kernel)
  (by first|exact .inl (by decide +kernel)|exact .inr (by decide +kernel)) (by rw[isSubtype_type];kernel_rfl)
def Oh(a:Value):argsOk "reversed.__iter__" ⟨[a],[]⟩:=by
 unfold argsOk;rw[signature?_of (id:="reversed.__iter__") (n:=['_','_','r','e','t','i','_','_']) (o:=['d','e','s','r','e','v','e','r']) (by kernel_rfl) Vf];kernel_rfl
def Sv:entryFor table "reversed.__iter__" = some Builtin.«dict_keyiterator.__iter__» :=
 entryFor_alias (id':="dict_keyiterator.__iter__") (by kernel_rfl) (by first|rfl|decide +kernel|(unfold String.splitOn;simp +decide [String.splitOnAux])) (by decide +kernel) (by kernel_rfl)
def Og:typeLookup (.type "tuple") "__reversed__" = pure none:=by rw[typeLookup_type,builtinLookup_eq_fast];kernel_rfl
def Ss:isSubtype (.type "tuple") (.type "dict")=pure false:=by rw[isSubtype_type];kernel_rfl
def Kp:Slot "reversed" "__init__" "object.__init__" :=
 .of (owner:="object") (n:="__init__") (by rw[typeLookup_type,builtinLookup_eq_fast];kernel_rfl) (by decide +kernel) (by decide +kernel) (by decide +kernel)
  (by first|exact .inl (by decide +kernel)|exact .inr (by decide +kernel)) (by rw[isSubtype_type];kernel_rfl)
def Sw:TypeCalled "reversed" "reversed.__new__" "object.__init__":=⟨by decide +kernel,F.create_reversed,⟨_,_,F.mro_reversed⟩,F.made_reversed,F.plain_reversed_new,F.sub_reversed_self,Kp⟩
def Fi(l:Addr)(i:Int):Obj:={cls:=.type "reversed",data:=.fields #[.ref l,rawInt i]}
def RtIt(h:Heap)(a l:Addr)(i:Int):Prop:=∃o,h.get? a=some o/\o.cls=.type "reversed"/\o.data=.fields #[.ref l,rawInt i]
def RtIt.typeIs{s:Shared}{a l:Addr}{i:Int}(x:RtIt s.heap a l i):s.TypeIs (.ref a) "reversed":=let ⟨o,ho,hc,_⟩:=x;⟨o,ho,hc⟩
def RtIt.at{h h':Heap}{a l:Addr}{i:Int}(x:RtIt h a l i)(e:∀ o,h.get? a=some o->h'.get? a=some o):RtIt h' a l i:=let ⟨o,ho,r⟩:=x;⟨o,e _ ho,r⟩
def Fg(l:Addr)(items:Array Value)(j:(items.size:Int)<2 ^ 63) :
  Meets (Builtin.«reversed.__new__» ⟨[.type "reversed",.ref l],[]⟩) (λ_ R s=>IsTup s.heap l items/\R (.ok (.ret (.ref s.heap.objs.size))) {s with heap:=s.heap.push (Fi l ((items.size:Int)-1)),toks:=s.toks+1+1}) :=
 .of_wp λprog w A R s h=>by
  obtain⟨q,h⟩:=h;unfold Builtin.«reversed.__new__»;refine zaa (wpAny_of_eq (newClass_reversed _) ?_)
  try dsimp only
  refine zaa (wpAny_of_eq (a:=()) (by first|rfl|kernel_rfl) ?_)
  refine zaa (wpAny_of_eq (a:=()) (by first|rfl|kernel_rfl) ?_)
  try dsimp only
  refine zaa (wpAny_specialOf q.typeIs Og ?_)
  try dsimp only
  refine zaa ?_;show wpAny _ _ (isInstance (.ref l) (.type "dict") >>= _) _ _ s;refine zaa (wpAny_isInstance q.typeIs Ss ?_);rw[if_neg Bool.false_ne_true];refine zaa (wpAny_specialOf q.typeIs F.slot_tuple_getitem.lookup ?_);show wpAny _ _ (if (["tuple.__getitem__","str.__getitem__","bytes.__getitem__","bytearray.__getitem__","memoryview.__getitem__","numpy.ndarray.__getitem__","sqlite3.Row.__getitem__"].contains "tuple.__getitem__")=true then _ else _) _ _ s
  rw[if_pos (by decide)]
  refine zab ?_;rw[if_neg (by decide)]
  refine zaa (len_tuple q j ?_);refine zaa (wpAny_of_eq (a:=some ((items.size:Int))) rfl ?_);refine zaa ?_;show wpAny _ _ (newObj (Value.type "reversed") (.fields #[Value.ref l,rawInt ((items.size:Int)-1)])) _ _ _;exact wpAny_newObj_type (zab ⟨_,rfl,h⟩) (by size_fits)
def Ko{it l:Addr}{i:Nat}{items:Array Value}{x:Value}{Q:Option Value->Shared->Prop}(M:(items.size:Int)<2 ^ 63)(q:RtIt s.heap it l (i:Int))(hl:IsTup s.heap l items)(I:items[i]?=some x)(N:∀ h',RtIt h' it l ((i:Int)-1)->Heap.SameBut it s.heap h'->Q (some x) {s with heap:=h',toks:=s.toks+1}):wpAny (model prog w) A (pyNext (.ref it)) Q E s:=by
 obtain⟨o,ho,Z,B⟩:=id q;have hi:i<items.size:=(Array.getElem?_eq_some_iff.mp I).1;unfold pyNext;refine zaa (wpAny_attempt (wpAny_callSpecial?_slot (name:=Str.ofString "__next__") q.typeIs ga
  (wpAny_call_entry ga q.typeIs Vg ?_ (Sy _))))
 unfold Builtin.«reversed.__next__»;refine zaa (wpAny_of_eq (a:=(Value.ref it,[])) rfl ?_)
 try dsimp only
 refine zaa (wpAny_field ho B (x:=.ref l) rfl ?_);refine zaa (wpAny_field ho B (x:=rawInt (i:Int)) rfl ?_);show wpAny _ _ (if (i:Int)<0 then _ else _) _ _ s
 rw[if_neg (by omega)]
 refine zaa (wpAny_specialOf hl.typeIs F.slot_tuple_getitem.lookup ?_);show wpAny _ _ (if (Option.isNone (some (Value.builtin "tuple.__getitem__")))=true then _ else _) _ _ s
 rw[if_neg (by decide)]
 refine zaa (wpAny_mkInt ?_);refine zaa (wpAny_attempt (PyProof.Rows.getItem_tuple (s:={s with toks:=s.toks+1}) hl (by omega) (by omega) (j:=i) ?_ I ?_))
 ·exact seqIndex_of (by omega) (by omega)
 refine zaa (wpAny_field (s:={s with toks:=s.toks+1}) ho B (x:=rawInt (i:Int)) rfl ?_);show wpAny _ _ (setField (.ref it) 1 (rawInt ((i:Int)-1)) >>= _) _ _ _;refine zaa (wpAny_setField (s:={s with toks:=s.toks+1}) ho B (by simp) ?_)
 first
 |refine zab ⟨x,rfl,zab (N _ ?_ (Heap.SameBut.update ..))⟩
 |refine zaa (zab (zab ⟨x,rfl,zab (N _ ?_ (Heap.SameBut.update ..))⟩))
 exact⟨_,Heap.get?_update_self _ ho (Obj.isFreed_of_fields (Obj.data_mapFields B _)),(Obj.cls_mapFields ..).trans Z,by
  rw[Obj.data_mapFields B];simp⟩
def Fh{it l:Addr}{Q:Option Value->Shared->Prop}(B:A.handled=none)(j:RtIt s.heap it l (-1))(I:∀ h',Heap.ExtBut it s.heap h'->Q none {s with heap:=h'}):wpAny (model prog w) A (pyNext (.ref it)) Q E s:=by
 obtain⟨o,ho,M,q⟩:=id j;unfold pyNext;refine zaa (wpAny_attempt (wpAny_callSpecial?_slot (name:=Str.ofString "__next__") j.typeIs ga
  (wpAny_call_entry ga j.typeIs Vg ?_ (Sy _))))
 unfold Builtin.«reversed.__next__»;refine zaa (wpAny_of_eq (a:=(Value.ref it,[])) rfl ?_)
 try dsimp only
 refine zaa (wpAny_field ho q (x:=.ref l) rfl ?_);refine zaa (wpAny_field ho q (x:=rawInt (-1)) rfl ?_);show wpAny _ _ (if (-1:Int)<0 then _ else _) _ _ s
 rw[if_pos (by decide)]
 refine zaa (wpAny_rule ?_);refine zaa ?_;show wpAny _ _ (setField (.ref it) 1 (rawInt (-1)) >>= _) _ _ _;refine zaa (wpAny_setField ho q (by simp) ?_)
 have g1:=Heap.get?_update_self (h:=s.heap) (Obj.mapFields (·.setIfInBounds 1 (rawInt (-1)))) ho (Obj.isFreed_of_fields (Obj.data_mapFields q _));have d1:(Obj.mapFields (·.setIfInBounds 1 (rawInt (-1))) o).data=_:=Obj.data_mapFields q _;refine wpAny_setField g1 d1 (by simp) ?_
 refine zaa ?_;show wpAny _ _ (newExc (.type "StopIteration") [] >>= _) _ _ _;refine zaa ?_;simp only[newExc,newTuple];refine zaa (wpAny_newObj_type ?_ (by size_fits))
 refine zaa (m:=firstArgMember _ _) (wpAny_of_eq (a:=Value.none) (by first|rfl|(simp only[firstArgMember];rfl)) ?_)
 refine wpAny_newObj_type ?_ (by size_fits)
 simp only[raiseNew];refine zaa (wpAny_handled ?_)
 first|rw[show A.in1.handled=none from B]|rw[B]
 refine zaa (zab (wpAny_throw ?_));refine zaa (wpAny_isInstance (T:="StopIteration") (b:=true) ⟨_,zad _ rfl,rfl⟩ isSubtype_stop ?_);refine zab (I _ ?_);exact((((Heap.SameBut.update ..).trans (Heap.SameBut.update ..)).extBut).push _).push _
def Sr{it l:Addr}{i:Int}{Q:Value->Shared->Prop}(j:RtIt s.heap it l i)(h:Q (.ref it) s):wpAny (model prog w) A (pyIter (.ref it)) Q E s:=by
 refine wpAny_pyIter_slot j.typeIs Su (wpAny_call_entry Su j.typeIs Sv ?_ (Oh _));show wpAny _ _ (ret (.ref it)) _ _ s;exact zab ⟨_,rfl,"reversed",_,j.typeIs,ga.lookup,h⟩
def Itbt(K:W.Frag)(a:Addr)(n:Nat):It:=⟨λi H=>(∃xs,SqT K H a xs/\xs.length=n)/\i<n,λi H x H'=>H'=H/\∀xs,SqT K H a xs->xs[n-1-i]?=some x,λi H=>(∃xs,SqT K H a xs/\xs.length=n)/\i=n⟩
def Tu{P:Program}{w:World}{K:W.Frag}{tg:Expr}(a it:Addr)(n:Nat):Turn P w K tg (Itbt K a n) [it] it (λi h=>RtIt h it a ((n:Int)-1-(i:Int))) where
 mem:=by simp
 obj:=λi h st b q=>by
  have e:b=it:=by simpa using q
  subst e;obtain⟨o,e,c,d⟩:=st;exact⟨o,e,λv z=>by rw[d]at z;cases z⟩
 keep:=λi h h' st k=>st.at λo e=>k it (by simp) o e
 item:=by
  intro X hP M hK hc i pn s G H E I B st Z;subst hP M hK;obtain⟨⟨xs,N,hl⟩,hi⟩:=Z;obtain⟨its,rv,p,hz⟩:=I.tuple N;obtain⟨x,hx⟩:∃x,xs[n-1-i]?=some x:=⟨xs[n-1-i]'(by omega),by simp⟩
  obtain⟨u,hu,ru⟩:=rv.get hx;obtain⟨f0,f1,f2,f3,f4,f5⟩:=B it (by simp)
  have en:(n:Int)-1-(i:Int)=((n-1-i:Nat):Int):=by omega
  rw[en]at st;have a5:=qm;have a4:=rv.length;refine Ko (by rw[zap];omega) st p (x:=u) (by simpa using hu) λh' j sb=>?_
  have I1:Inv X pn G H {s with heap:=h',toks:=s.toks+1}:=I.turned (t':=s.toks+1) (λb o q e=>(sb.2 b q).trans e) f0 f1 f3 f4 f5;obtain⟨o,e,c,d⟩:=id j;have a0:((n-1-i:Nat):Int)-1=(n:Int)-1-((i+1:Nat):Int):=by omega
  rw[a0]at j;exact⟨u,rfl,Qo (s:={s with heap:=h',toks:=s.toks+1}) e c d (by decide) ⟨x,H,I1,ru,⟨rfl,λys hy=>by rw[I.tuple_inj hy N];exact hx⟩,j,λb q=>(B b q).1⟩⟩
 done:=by
  intro X hP M hK hc i pn s G H E I B st Z;subst hP M hK;obtain⟨⟨xs,N,hl⟩,hi⟩:=Z;obtain⟨f0,f1,f2,f3,f4,f5⟩:=B it (by simp)
  have en:(n:Int)-1-(i:Int) = -1:=by omega
  rw[en]at st;exact Fh (I.ok.hd hc) st λh' eb=>⟨rfl,I.turned (t':=s.toks) (λb o q e=>eb b o q e) f0 f1 f3 f4 f5⟩
 self:=λ_ _ _ _ _ st h=>Sr st h
def Br(K:W.Frag)(ta:TA):TI:=λG H R=>ta G H λvs H1=>∃l xs,vs=[.ref l]/\SqT K H1 l xs/\R (Itbt K l xs.length) H1
def Ja{X:Cx}{tg a:Expr}{ta:TA}{p pos:Pos}(hg:Gl X "reversed")(hm:X.mg "reversed" = none)(ha:PA X [a] ta)(he:starEach [a] X.env=(false,eval a X.env)::starEach [] X.env:=by rfl):PI X tg (.Call (.Name "reversed" p) [a] [] pos) (Br X.K ta):=by
 intro pn s G H R I h;refine wpAny_Call_Name_kw (je I hg hm ca ?_ (by decide) (by decide))
 refine PyProof.Rows.callWith_type1 (thn (ha pos pn s G H _ I h) λus s1 Zh=>?_) he (by rfl)
 obtain⟨vs,H1,j,Z,l,xs,e,e1,q⟩:=Zh;subst e;obtain⟨u,rfl,N⟩:=jw Z;cases N;obtain⟨its,M,pl,hz⟩:=j.tuple e1;have hl:=M.length;have a0:=qm;refine callType_new Sw (by decide) (F.typeCall_reversed_1 _) (F.newCall_reversed_1 _) (λB=>F.args_object_init_2 B _) F.entry_reversed_new (Fg l its.toArray (by rw[zap];omega)) ⟨pl,?_⟩
 have st:RtIt (s1.heap.push (Fi l ((its.toArray.size:Int)-1))) s1.heap.objs.size l ((xs.length:Int)-1-((0:Nat):Int)):=by
  refine⟨_,zad _ rfl,rfl,?_⟩;show Data.fields #[.ref l,rawInt ((its.toArray.size:Int)-1)]=_;rw[show((its.toArray.size:Int)-1)=(xs.length:Int)-1-((0:Nat):Int) by rw[zap];omega]
 refine⟨⟨_,zad _ rfl,rfl⟩,?_⟩;refine Sr st ?_;refine⟨s1.heap.objs.size,[s1.heap.objs.size],_,_,H1,rfl,j.kept (t':=s1.toks+1+1) λb o e=>zac _ e,Tu l _ xs.length,st,λb hb=>?_,q⟩;have e:b=s1.heap.objs.size:=by simpa using hb
 subst e;exact j.fpOk (zaj _) (j.hok.fresh (zaj _))
def iBT(t:TDs):TID:=λU Y=>t U λrs=>match rs with
 | [r]=>(match r.k with|.own=>False|_=>True)/\(match r.d with
  |.tup l=>Y l.reverse
  | _=>False)
 |_=>False
def Jy{K:W.Frag}{l:Addr}{ds:List D}:ItD K (Itbt K l ds.length) ds.reverse (λH O=>Rep K H O (.tup ds) (.ref l)) where
 go:=λH O i d j e=>by
  obtain⟨a,xs,B,q,r⟩:=j;cases B;have hi:i<ds.length:=by have:=(zag.mp e).1;simpa using this
  rw[List.getElem?_reverse hi]at e;obtain⟨v,M,I⟩:=r.get e;refine⟨⟨⟨xs,q.1,r.length⟩,hi⟩,λx H' y=>?_⟩;obtain⟨e1,y⟩:=y;subst e1;have:=y xs q.1;rw[M]at this;cases this;exact⟨Same.refl _,I⟩
 stop:=λH O j=>by
  obtain⟨a,xs,B,q,r⟩:=j;cases B;exact⟨⟨xs,q.1,r.length⟩,by rw[List.length_reverse]⟩
 keep:=λO O' H H' j g=>Rep.grow g _ _ j
def Xh{tg a:Expr}{t:TDs}{p pos:Pos}(Z:X.mg "reversed" = none)(ha:EA L X [a] t)(hg:Gl X "reversed":=by rfl)(he:starEach [a] X.env=(false,eval a X.env)::starEach [] X.env:=by rfl):EI L X tg (.Call (.Name "reversed" p) [a] [] pos) (iBT t):=λH_=>impI (Ja hg Z (ha H_) he) λG H R q=>by
 obtain⟨U,o,RE,Y,B,k⟩:=q;refine⟨U,o,RE,_,B,λvs rs H1 s1 j h1=>?_⟩;split at h1
 ·rename_i r;obtain⟨N,h1⟩:=h1;obtain⟨v1,w1,rfl,M,rfl⟩:=j;have I:=M.solid (ub N);obtain⟨kd,d⟩:=r;cases d with
  |tup l =>
   obtain⟨a,xs,rfl,q,r⟩:=id I;refine⟨a,xs,rfl,q.1,?_⟩;rw[r.length];exact k _ _ _ H1 s1 Jy I h1
  |_=>exact h1.elim
 exact h1.elim
section
variable{ns ps:List Str}{m:Str}{T:FT}{te:TD}{t:TDs}{k:Nat}{es:List Expr}{pos:Pos}
structure FMD(P:Program)(w:World)(K:W.Frag)(mg:Str->Option Value)(base:Heap)(k:Nat)(C:Addr)(ns:List Str)(m:Str)(ps:List Str)(T:FT):Prop where
 ex:∃f fd,FnOk P w K mg base CX0 k f fd ps (spD K ps.length T)/\ua K fd ps []/\Meth K C m f
 no:m∉ns
def Ce(n:Nat)(C:Addr)(ns:List Str)(T:FT)(te:TD)(t:TDs):TD:=λU Y=>te U λr=>(∃ds,r.d=.ob C ns ds)/\t U λrs=>Nat.beq (rs.length+1) n=true/\T (r.d::rs.map EV.d) Y
def Pc{pl:Sem Bool}(O:CO X.K C ns)(F:FMD X.prog X.w X.K X.mg X.base k C ns m ps T)(hr:Room k X.A)(ho:ED L X o te)(ha:EA L X (e::es) t)(M:S_ X e es:=by rfl)(N:B_ X es pos:=by rfl)(ht:eval (.Call (.Attribute o m apos) (e::es) [] pos) X.env=(do
   let ov <- eval o X.env
   standAt apos.atName
   let (f,first) <- holding [ov] (getMethod ov m pl)
   callWith pos f first (backTo pos (starEach (e::es) X.env)) (backToKw pos (keywordEach [] X.env))):=by rfl) :
  ED L X (.Call (.Attribute o m apos) (e::es) [] pos) (Ce ps.length C ns T te t):=λH_=>by
 obtain⟨f,fd,ok,b,hm⟩:=F.ex;refine impE (Rh (ho H_) O.cl hm ok hr b .nil W7 (ha H_) M N ht) λG H Q q=>?_;obtain⟨U,o,R,Y,I,k⟩:=q;refine⟨U,o,R,_,I,λv r H1 s1 rv h1=>?_⟩;obtain⟨⟨ds,ed⟩,h1⟩:=h1;have Z:=rv.view;obtain⟨kd,d⟩:=r;cases ed;have v0:Rep X.K H1 [] (.ob C ns ds) v:=Z.rep0;obtain⟨a,dx,xs,rfl,q,_,ln,nd,rr⟩:=Z;refine⟨a,dx,_,rfl,q,qk F.no,U,o,R.to s1,_,h1,λvs rs H2 s2 j h2=>?_⟩;show spD X.K ps.length T (.ref a::(vs++[])) H2 Q E0;rw[List.append_nil];refine⟨.ob C ns ds::rs.map EV.d,Y,by rw[zLc,zLm];exact Nat.eq_of_beq_eq_true h2.1,⟨_,_,rfl,Rep.grow (Grow.same s2) _ _ v0,j.reps0⟩,h2.2,λu r' H3 s3 B pr h3=>?_⟩
 exact k u r' H3 ((s1.trans s2).trans s3) (RV.start (B.lift pr λa e=>R.ofree ((s1.trans s2).free e)) (s1.trans s2)) h3
def C1{P:Program}{w:World}{K:W.Frag}{mg:Str->Option Value}{base:Heap}{x j m:Str}{st:Stmt}{f:Addr}{fd:FuncData}{N ps:List Str}{k:Nat}{T:FT}{C:Addr}{ns:List Str}(F:Fun K x j st f fd)(S:zu N ps (zd st))(b:ua K fd ps [])(I:Meth K C m f)(B:m∉ns)(q:∀ (qZ:Value) (A:Around) (outer:List Env) (s:Shared) (H:Hp) (E:XK) (ds:List D) (Y:EV->Prop),Room k (A.deeper (envOfC j (zd st) s.heap.objs.size f qZ))->ds.length=ps.length->T ds Y ->
   ∃ t,SDs (λ_=>True) (cxOf CX0 P w K mg base N j (zd st) f qZ A outer s H E).nox (yt st) t/\t (wa N.length ds) {nx:=λ_=>Y (dv .non),rt:=λr=>qf r/\Y r}):FMD P w K mg base (k+1) C ns m ps T :=
 ⟨⟨f,fd,Qt F S q,b,I⟩,B⟩
end
structure FunV(K:W.Frag)(x qual:Str)(st:Stmt)(f:Addr)(v:Value)(fd:FuncData):Prop where
 ex:∃(T:Addr)(oT:Obj)(n:Nat)(oc:Value)(od:Option Addr)(kV doc pm:Value)(an:Option Addr)(qZ ct:Value)(osl:Array (Option Value)),
  fd=W.fnOf x qual (vg st) (yt st) (zd st) (.ref T) kV doc pm an qZ ct/\K.lookup f=some ⟨oc,od,.func fd,osl⟩/\W.codeIn K qZ qual=true/\K.lookup T=some oT/\oT.data=.seq #[v] n
 kp:W.keepIn K (.ref f)=true
def FunV.ok{x j:Str}{st:Stmt}{f:Addr}{v:Value}{fd:FuncData}{N ps:List Str}{k:Nat}{sp:Sp}(F:FunV K x j st f v fd)(S:zu N ps (zd st))(len:∀ vs H Q E,sp vs H Q E->vs.length=ps.length)(M:∀ (qZ:Value) (A:Around) (outer:List Env) (s:Shared) (H:Hp) (vs:List V) (Q:VK) (E:XK),Room k (A.deeper (envOfC j (zd st) s.heap.objs.size f qZ))->sp vs H Q E ->
   ∃ t,PSs (cxOf CX0 P w K mg base N j (zd st) f qZ A outer s H E).nox (yt st) t/\t {nx:=λ_ H'=>Q .non H',rt:=Q} (start N vs) H):FnOk P w K mg base CX0 (k+1) f fd ps sp:=by
 obtain⟨T,oT,n,oc,od,kV,a0,pm,an,qZ,ct,Z,rfl,lk,I,_⟩:=F.ex;refine Dx lk I S len λA outer s H vs Q E hr B=>?_;obtain⟨t,h,q⟩:=M qZ A outer s H vs Q E hr B;exact⟨t,h.nox,q⟩
def FunV.binds{x j:Str}{st:Stmt}{f:Addr}{v:Value}{fd:FuncData}{ps:List Str}{ds:List Value}(F:FunV K x j st f v fd)(h:∀ (T:Addr) (kV q B:Value) (M:Option Addr) (qZ I:Value) (us:List Value),(us++ds).length=ps.length->∃ k:Option (Array Value)->Sem (List (Str×Value)),bindArgs (W.fnOf x j (vg st) (yt st) (zd st) (.ref T) kV q B M qZ I) ⟨us,[]⟩=seqItems? (.ref T) >>= k/\k (some #[v])=pure (ps.zip (us++ds))):ua K fd ps ds:=by
 obtain⟨T,Z,n,oc,od,kV,q,B,M,qZ,I,N,rfl,lk,a0,lT,dT⟩:=F.ex;intro s us KX hl;obtain⟨k,h1,h2⟩:=h T kV q B M qZ I us hl;exact .of_defaults (T:=T) (o:=Z) (items:=#[v]) (n:=n) rfl (KX _ _ lT) dT h1 h2
def Dw{j m:Str}{st s0 s1 s2 s3 s4:Stmt}{f C:Addr}{fd:FuncData}{N ps:List Str}{k nI nM l:Nat}{T:FT}{TI:FTQ}{TM:FTR}{ns:List Str}{as1:List Expr}(c1:∀ {sp:Sp},(∀ vs H Q E,sp vs H Q E->vs.length=ps.length)->(∀ (qZ:Value) (A:Around) (outer:List Env) (s:Shared) (H:Hp) (vs:List V) (Q:VK) (E:XK),Room k (A.deeper (envOfC j (zd st) s.heap.objs.size f qZ))->sp vs H Q E ->
   ∃ t,PSs (cxOf CX0 P w K mg base N j (zd st) f qZ A outer s H E).nox (yt st) t/\t {nx:=λ_ H'=>Q .non H',rt:=Q} (ZZ.start N vs) H)->FnOk P w K mg base CX0 (k+1) f fd ps sp)(no:m∉ns)(hb:yt st=[s0,s1,s2,s3,s4])(lM:nM=1)(qY:∀ (qZ:Value) (A:Around) (outer:List Env) (s:Shared) (H:Hp) (E:XK) (ds:List D) (Y:EV->Prop),Room k (A.deeper (envOfC j (zd st) s.heap.objs.size f qZ))->ds.length=ps.length->T ds Y ->
   ∃ t0 ta t2 t3,SD (λ_=>True) (cxOf CX0 P w K mg base N j (zd st) f qZ A outer s H E).nox s0 t0/\EA (λ_=>True) (cxOf CX0 P w K mg base N j (zd st) f qZ A outer s H E).nox as1 ta /\
    (∀ {t:TA},PA (cxOf CX0 P w K mg base N j (zd st) f qZ A outer s H E).nox as1 t->PS (cxOf CX0 P w K mg base N j (zd st) f qZ A outer s H E).nox s1 (tAsg (Z9 C (spQ K nI TI) [] E0 t) (wt l))) /\
    QS (λ_=>True) l (cxOf CX0 P w K mg base N j (zd st) f qZ A outer s H E).nox s2 t2/\QS (λ_=>True) l (cxOf CX0 P w K mg base N j (zd st) f qZ A outer s H E).nox s3 t3 /\
    PS (cxOf CX0 P w K mg base N j (zd st) f qZ A outer s H E).nox s4 (tRet (O6 C m (spR K nM TM) [] E0 (tVar l) tNil)) /\
    t0 (wa N.length ds) {nx:=λU=>l<U.length/\ta U λrs=>(∀ r∈rs,r.k≠.own)/\rs.length+1=nI/\TI (.ob C [] []) (rs.map EV.d) λr0 d=>r0=.non/\t2 (setS U l (dv d)) {nx:=λb5=>t3 b5 {nx:=λb4=>∃ ds,slot b4 l=some (dv (.ob C ns ds))/\TM (.ob C ns ds) [] λe=>Y ⟨.new,e⟩,rt:=λ_ _=>False},rt:=λ_ _=>False},rt:=λ_=>False}):FnOk P w K mg base CX0 (k+1) f fd ps (spD K ps.length T):=by
 refine c1 (λvs H Q E h=>?_) (λqZ A outer s H vs Q E hr h=>?_)
 ·obtain⟨ds,Y,hl,r,_⟩:=h;rw[r.length,hl]
 obtain⟨ds,Y,hl,r,hT,kk⟩:=h;obtain⟨t0,ta,t2,t3,h0,ha,h1,h2,h3,h4,hq⟩:=qY qZ A outer s H E ds Y hr hl hT;rw[hb];refine⟨_,ww (h0 ⟨H,trivial⟩) (ww (h1 (ha ⟨H,trivial⟩)) (ww (h2 ⟨H,trivial⟩) (ww (h3 ⟨H,trivial⟩) (rh h4)))),?_⟩;have R0:=sj (N:=N) (ds:=ds) (vs:=vs) (H:=H) r;refine⟨_,[],R0,_,hq,λU e8 H1 o1 g1 R1 hn=>?_,λ_ _ _ _ _ _ q=>q.elim,λ_ _ _ _ _ _ q=>q.elim,λ_ _ _ _ _ q=>q.elim⟩;obtain⟨c5,hn⟩:=hn;refine⟨U,o1,R1,_,hn,λus rs H2 Z b7 a6=>?_⟩;obtain⟨a7,a8,a6⟩:=a6;intro I dx M c8 c2;have sx:Same H2 (upd (upd H2 dx (.own I)) I (.ins C dx [])):=(yf c8 _).trans (yf (by rw[y0 (Ne.symm c2)];exact M) _)
 show spQ K nI TI (.ref I::(us++[])) _ _ E0;rw[List.append_nil];have rr:=b7.reps a7;have gx:Grow (o1.map Prod.snd) [I] H2 (upd (upd H2 dx (.own I)) I (.ins C dx [])):=⟨λc u B _=>⟨sx _ _ B,λz=>by rw[List.mem_singleton.mp z,M]at B;cases B⟩,λc xs B=>sx _ _ B,λc ob u B=>sx _ _ B⟩
 refine⟨.ob C [] [],rs.map EV.d,.ref I,us,[I],_,rfl,by rw[zLm];exact a8,⟨I,dx,[],[],rfl,zm,rfl,List.nodup_nil,rfl,rfl,rfl⟩,by simp,Reps.grow gx _ _ rr,a6,λu r0 d H3 A3 g3 d0 c0 d3 f1 b8 a4=>?_⟩
 obtain⟨rfl,a4⟩:=a4;have b6:Same H1 H3:=λc u B=>(g3.keep c u (sx _ _ (Z _ _ B)) λz=>by rw[List.mem_singleton.mp z]at B;rw[Z _ _ B]at M;cases M).1
 have a9:∀a∈A3,H1 a=none:=λa ha=>by
  rcases d3 a ha with z|z
  ·rw[List.mem_singleton.mp z];exact Z.free M
  exact Z.free (sx.free z)
 refine⟨b8,?_⟩;have S3:=ST.make (l:=l) R1 c5 b6 d0 c0 a9;refine⟨_,o1,A3,d,.ref I,S3,_,a4,λb0 e7 H4 o4 A4 d4 S4 c4=>⟨b0,o4,A4,d4,.ref I,S4,_,c4,λe9 e6 H5 o5 A5 d5 S5 a0=>?_,λ_ _ _ _ _ _ _ q=>q.elim,λ_ _ _ _ _ _ _ q=>q.elim,λ_ _ _ _ _ _ _ _ _ _ _ q=>q.elim⟩,λ_ _ _ _ _ _ _ q=>q.elim,λ_ _ _ _ _ _ _ q=>q.elim,λ_ _ _ _ _ _ _ _ _ _ _ q=>q.elim⟩;obtain⟨es,e3,a0⟩:=a0;have e5:some (dv d5)=some (dv (.ob C ns es)):=by rw[<- e3];exact(we S5.hd).symm
 cases e5
 obtain⟨a5,e4,f0,B5,e0,q5,f3,f2,f4,r5⟩:=id S5.ft;refine⟨.ref I,S5.hv,a5,e4,_,e0,q5,qk no,?_⟩;show spR K nM TM (.ref I::([]++[])) H5 Q E0;refine⟨_,[],.ref I,[],A5,_,rfl,by rw[lM];rfl,S5.ft,S5.ndA,rfl,a0,λu5 e H6 k6 b9 c3=>?_⟩
 refine kk u5 ⟨.new,e⟩ H6 (λc u B=>k6 c u (S5.Q.same _ _ B) λz=>by have z2:H c=none:=S5.frA c z;rw[z2]at B;cases B) (RepN.to (Same.refl _) (λa ha=>⟨by simp,?_⟩) _ _ b9) trivial c3
 exact ha.elim (S5.frA a) λz=>S5.Q.same.free z
def gT5(i j l m n:Nat):TGD:=λd U M=>match d with
 |.tup [a,b,c,e,f]=>M (setS (setS (setS (setS (setS U i (dv a)) j (dv b)) l (dv c)) m (dv e)) n (dv f))
 |_=>False
def Hc{K:W.Frag}(i j l m n:Nat):qz K (gTup K 5 (vo (wt i) (vo (wt j) (vo (wt l) (vo (wt m) (vo (wt n) gNil)))))) (gT5 i j l m n):=λH_ H G U o d v M Q R h B k=>by
 unfold gT5 at B;split at B
 ·obtain⟨p,xs,rfl,q,r⟩:=h;obtain⟨v1,r1,rfl,h1,v2,r2,rfl,h2,Z,r3,rfl,h3,N,r4,rfl,h4,I,r5,rfl,h5,rfl⟩:=r;refine⟨p,_,rfl,q.1,rfl,v1,_,rfl,v2,_,rfl,Z,_,rfl,N,_,rfl,I,_,rfl,rfl,?_⟩;exact k _ _ (((((R.setV i h1).setV j h2).setV l h3).setV m h4).setV _ h5) B
 exact B.elim
def stL(xs:List V)(k:Int):List V:=xs.take 1++V.int k::xs.drop 1
variable{xs:List V}
def Kh(j:xs.length=3)(k:Int):(stL xs k).length=4:=by
 unfold stL;rw[zLa,zLc,List.length_take,List.length_drop];omega
def Sg(I:Inv X pn G H s)(h:H a=some (StO a xs)):xs.length=3/\∃k:Int,0<=k/\Inv X pn G (upd H a (.lst (stL xs k))) s:=by
 obtain⟨⟨j,k,its,n,q,vs,e⟩,_⟩:=(show wj X.prog X.w H s.heap a (StO a xs) from I.hok a _ h);refine⟨j,k,q,?_⟩;exact I.write (t':=s.toks) (h':=s.heap) (x:=a) (e:=a) (o:=.lst (stL xs k)) (by rw[h];exact True.intro) (.inl rfl) (λ_ _ _ z=>z) ⟨_,e⟩ (show wj X.prog X.w _ s.heap a (.lst _) from⟨by rw[Kh j,sizeLine_eq];omega,its,n,vs,e⟩)
def Zb{k:Int}(I:Inv X pn G H s)(h:H a=some (.lst (stL xs k)))(B:xs.length=3)(j:0<=k):Inv X pn G (upd H a (StO a xs)) s:=by
 obtain⟨z,its,n,vs,e⟩:=(show wj X.prog X.w H s.heap a (.lst (stL xs k)) from I.hok a _ h);exact I.write (t':=s.toks) (h':=s.heap) (x:=a) (e:=a) (o:=StO a xs) (by rw[h];exact True.intro) (.inl rfl) (λ_ _ _ z=>z) ⟨_,e⟩ ⟨⟨B,k,its,n,j,vs,e⟩,⟨_,e⟩,λh1 h2 ⟨B,k,its,n,j,vs,e⟩ q=>⟨B,k,its,n,j,vs,q _ e⟩⟩
def Bn:IxR X (λx y H Q=>∃a xs j v,x=.ref a/\H a=some (StO a xs)/\y=.int j/\(∀k,xs.length=3->atI (stL xs k) j=some v)/\Q v H):=by
 intro value B pn s G H x y v u Q I rx ry h hs;obtain⟨a,xs,j,w,rfl,Z,rfl,hj,q⟩:=h;obtain⟨N,k,k0,I1⟩:=Sg I Z;refine thn (t8 value B pn s G _ (.ref a) (.int j) v u (λM H'=>M=w/\H'=upd H a (.lst (stL xs k))) I1 rx ry ⟨a,_,j,w,rfl,rfl,SqL.of zm,hj k N,rfl,rfl⟩ hs) λw' s' Zh=>?_;obtain⟨M,H',I',r',e1,e2⟩:=Zh;subst e1 e2;have:=Zb I' zm N k0;rw[Gk Z]at this;exact⟨M,H,this,r',q⟩
def J9(j:Int)(ds:List D):Option D:=if j=0 then ds[0]? else if j=2 then ds[1]? else if j=3 then ds[2]? else none
def len3{l:List V}(h:l.length=3):∃a b c,l=[a,b,c]:=by
 rcases l with _|⟨a,_|⟨b,_|⟨c,_|⟨d,l⟩⟩⟩⟩ <;> first|exact⟨_,_,_,rfl⟩|cases h
def N1{K:W.Frag}{H:Hp}{O:List Addr}{j:Int}{ds:List D}{d:D}{xs:List V}(h:J9 j ds=some d)(r:Reps K H O ds xs):∃v,Rep K H O d v/\∀k,xs.length=3->atI (stL xs k) j=some v:=by
 have g:∀(n:Nat)(d:D),ds[n]?=some d->∃v,xs[n]?=some v/\Rep K H O d v:=λn d h=>r.get h;unfold J9 at h;have I:∀(v:V)(n m:Nat),xs[n]?=some v->(∀k,xs.length=3->(stL xs k)[m]?=xs[n]?)->m<4->∀k,xs.length=3->atI (stL xs k) (m:Int)=some v:=λv n m e q N k B=>wu (by omega) (by rw[Int.toNat_natCast,q k B,e])
 split at h
 ·rename_i z;subst z;obtain⟨v,e,M⟩:=g 0 d h;refine⟨v,M,λk B=>I v 0 0 e (λk B=>?_) (by omega) k B⟩
  obtain⟨_,_,_,rfl⟩:=len3 B;rfl
 split at h
 ·rename_i z;subst z;obtain⟨v,e,M⟩:=g 1 d h;refine⟨v,M,λk B=>I v 1 2 e (λk B=>?_) (by omega) k B⟩
  obtain⟨_,_,_,rfl⟩:=len3 B;rfl
 split at h
 ·rename_i z;subst z;obtain⟨v,e,M⟩:=g 2 d h;refine⟨v,M,λk B=>I v 2 3 e (λk B=>?_) (by omega) k B⟩
  obtain⟨_,_,_,rfl⟩:=len3 B;rfl
 cases h
def dStx(i:Nat)(j:Int):TD:=λU Y=>match slot U i with
 | some ⟨.val,.sx ds⟩=>(match J9 j ds with
  |some d=>Y (dv d)
  | none=>False)
 |_=>False
def Sf{K:W.Frag}{H_ H:Hp}{G:St}{U:DE}{o:List (Nat×Addr)}(R:REnv K H_ H G U o){i:Nat}{ds:List D}(e:slot U i=some ⟨.val,.sx ds⟩):∃a xs,G[i]?=some (some (.ref a))/\H a=some (StO a xs)/\a∉o.map Prod.snd/\Reps K H (o.map Prod.snd) ds xs:=by
 obtain⟨v,j,q⟩:=R.slots i _ (Zd.mp e);rcases q with⟨_,a,xs,rfl,h,n,r⟩|⟨k,_⟩
 ·exact⟨a,xs,j,h,n,r⟩
 cases k
def Lu(i:Nat)(n:Nat){x:Str}{np pos:Pos} {j p2} (hN:X.N[i]?=some x:=by rfl) (I:Vis X.env.scope x:=by walk_at "o") (hd:D_ x:=by decide)
  (M:(x==("__classdict__" : Str))=false:=by decide) (hs:kz (.Constant (.int n) j p2):=by intro _ _;rfl):ED L X (.Subscript (.Name x np) (.Constant (.int n) j p2) pos) (dStx i n):=λH_ =>
 impE (gj Bn (uu hN I hd M) ui hs) λG H Q q=>by
  obtain⟨U,oo,R,Y,B,kk⟩:=q;unfold dStx at B;split at B
  ·rename_i ds es;split at B
   ·rename_i d ed;obtain⟨a,xs,ev,ha,na,r⟩:=Sf R es;obtain⟨v,Z,I⟩:=N1 ed r;exact⟨.ref a,ev,a,xs,n,v,rfl,ha,rfl,I,kk _ (dv d) H (Same.refl H) Z B⟩
   exact B.elim
  exact B.elim
def B7(i:Nat):TDS:=λU Z=>∃(ns:List Int)(ds:List D),slot U i=some (dv (.sx (.lst (ns.map D.int)::ds)))/\∀c:Int,0<=c->Z.rt (dv (.int c))
abbrev stE(x:Str)(n:Int)(p:Pos)(j:Nat)(q r:Pos):Expr:=.Subscript (.Name x p) (.Constant (.int n) j q) r
def Ki(i:Nat){x:Str}{q p2 B p4 p5 p6 p7 p8 p9 q1 q2 q3 q4 q5 q6 q7 q8 q9 r1 r2 r3 r4 r5 r6 r7 r8 r9 s1 s2 s3 s4 s5 s6 t1 t2:Pos} {j1 j2 j3 j4 j5 j6 j7 j8 j9 j0 k1} (b0:X.mg "len" = none) (hN:X.N[i]?=some x:=by rfl) (hv:Vis X.env.scope x:=by walk_at "o")
  (hd:D_ x:=by decide) (b4:(x==("__classdict__" : Str))=false:=by decide) (hg:Gl X "len":=by rfl)
  (hm:behindInMarks .Gt (.Call (.Name "len" q3) [stE x 0 q4 j5 q5 q6] [] q7)=false:=by with_unfolding_all rfl)
  (he:starEach [stE x 0 q4 j5 q5 q6] X.env=(false,eval (stE x 0 q4 j5 q5 q6) X.env)::starEach [] X.env:=by rfl) (a9:(backTo q7 (starEach [] X.env)).any (·.1)=false:=by rfl)
  (a8:swapsWithSole [stE x 1 q j1 p2 B] (.BinOp (stE x 1 p4 j2 p5 p6) .Add (.Constant (.int 1) j3 p7) p8) p9.line X.env=pure false:=by rfl)
  (hw:swappedStores [stE x 1 q j1 p2 B] (.BinOp (stE x 1 p4 j2 p5 p6) .Add (.Constant (.int 1) j3 p7) p8) X.env=pure none:=by rfl)
  (h1:(assignEach [stE x 1 q j1 p2 B] X.env).map (·.2)=[assign (stE x 1 q j1 p2 B) X.env]:=by rfl)
  (ha:∀v,assign (stE x 1 q j1 p2 B) X.env v=(do
   let ov <- holding [v] (eval (.Name x q) X.env)
   let iv <- holding [v,ov] (eval (.Constant (.int 1) j1 p2) X.env)
   standAt B
   holding [v,ov,iv] (setItem ov iv v)
   release [v,ov,iv] []):=by intro _;rfl) :
  SDs L X [.Assign [stE x 1 q j1 p2 B] (.BinOp (stE x 1 p4 j2 p5 p6) .Add (.Constant (.int 1) j3 p7) p8) p9,
   .If (.Compare (stE x 1 q1 j4 q2 q8) [.Gt] [.Call (.Name "len" q3) [stE x 0 q4 j5 q5 q6] [] q7] q9) [.Return (some (.Constant (.int 0) j6 r1)) r2] [] r3,
   .Return (some (.BinOp (.Subscript (stE x 0 r4 j7 r5 r6) (.BinOp (stE x 1 r7 j8 r8 r9) .Sub (.Constant (.int 1) j9 s1) s2) s3) .Mod (.BinOp (.Constant (.int 10) j0 s4) .Pow (.Constant (.int 60) k1 s5) s6) t1)) t2] (B7 i):=λH_ pn s G H EE I h=>by
 obtain⟨U,o,R,Z,⟨ns,ds,es,hZ⟩,_,_,_,k4⟩:=h;obtain⟨a,xs,ev,hA,na,rp⟩:=Sf R es;obtain⟨v0,r0,rfl,⟨b,ys,rfl,M,nb,rb⟩,rt⟩:=rp;cases cy rb;obtain⟨hx,k,k0,I1⟩:=Sg I hA;have a6:b≠a:=λz=>by rw[z,hA]at M;cases M
 have pv:∀p:Pos,PE X (.Name x p) _:=λp=>uu hN hv hd b4 (pos:=p);have a4:=ww (Yr (Uv Lg (gj t8 (pv p4) (ui (i:=1) (j:=j2) (pos:=p5)) (by intro _ _;rfl) (pos:=p6)) (ui (i:=1) (j:=j3) (pos:=p7)) (pos:=p8)) (Re (pv q) (ui (i:=1) (j:=j1) (pos:=p2)) Zf ha) a8 hw h1 (pos:=p9))
  (ww (Ox (R9 Em (gj t8 (pv q1) (ui (i:=1) (j:=j4) (pos:=q2)) (by intro _ _;rfl) (pos:=q8)) (Vr jh hg b0 PySem.boot_len (u0 (gj t8 (pv q4) (ui (i:=0) (j:=j5) (pos:=q5)) (by intro _ _;rfl) (pos:=q6)) sw he) (by decide) (by decide) he a9 (p:=q3)) hm (pos:=q9)) (rh (bh (ui (i:=0) (j:=j6) (pos:=r1)) (pos:=r2))) Zk (pos:=r3))
  (rh (bh (Uv Rq (gj t8 (gj t8 (pv r4) (ui (i:=0) (j:=j7) (pos:=r5)) (by intro _ _;rfl) (pos:=r6)) (Uv Lb (gj t8 (pv r7) (ui (i:=1) (j:=j8) (pos:=r8)) (by intro _ _;rfl) (pos:=r9)) (ui (i:=1) (j:=j9) (pos:=s1)) (pos:=s2)) (by intro _ _;rfl) (pos:=s3)) (Uv Lc (ui (i:=10) (j:=j0) (pos:=s4)) (ui (i:=60) (j:=k1) (pos:=s5)) (pos:=s6)) (pos:=t1)) (pos:=t2))))
 let D1:Ends:={EE with nx:=λ_ _=>False,bk:=λ_ _=>False,ct:=λ_ _=>False,rt:=λv H2=>∃(c k':Int),v=.int c/\0<=c/\0<=k'/\H2 a=some (.lst (stL (.ref b::r0) k'))/\∀b u,b≠a->H b=some u->H2 b=some u}
 refine thn (a4 pn s G _ D1 I1 ?_) λfl s' p=>?_
 ·obtain⟨_,y,z,e⟩:=len3 hx;cases e;have e1:∀m:Int,stL [V.ref b,y,z] m=[.ref b,.int m,y,z]:=λm=>rfl;rw[e1];have a0:∀u,upd H a u b=some (.lst (ns.map V.int)):=λu=>by rw[y0 a6];exact M
  refine⟨.ref a,ev,a,_,1,.int k,rfl,rfl,SqL.of zm,rfl,k,1,rfl,rfl,.ref a,ev,a,_,1,1,rfl,rfl,zm,rfl,?_⟩;rw[Ts];refine⟨.ref a,ev,a,_,1,.int (k+1),rfl,rfl,SqL.of zm,rfl,.ref a,ev,a,_,0,.ref b,rfl,rfl,SqL.of zm,rfl,b,_,rfl,.inl (SqL.of (a0 _)),k+1,ns.length,rfl,by rw[zLm],_,rfl,?_⟩
  have kp:∀u (c:Addr) (w:HO),c≠a->H c=some w->upd H a u c=some w:=λu c w hc hw=>by rw[y0 hc];exact hw
  by_cases hl:(ns.length:Int)<k+1
  ·dsimp only
   rw[if_pos (decide_eq_true hl)];exact⟨0,k+1,rfl,by omega,by omega,zm,kp _⟩
  dsimp only
  rw[if_neg (by simpa using hl)]
  have hk:k.toNat<ns.length:=by omega
  have b5:(10:Int) ^ (60:Int).toNat≠0:=by decide
  refine⟨.ref a,ev,a,_,0,.ref b,rfl,rfl,SqL.of zm,rfl,.ref a,ev,a,_,1,.int (k+1),rfl,rfl,SqL.of zm,rfl,k+1,1,rfl,rfl,b,_,k+1-1,.int ns[k.toNat],rfl,rfl,SqL.of (a0 _),?_,10,60,rfl,rfl,?_,_,_,rfl,rfl,b5,?_⟩
  ·refine wu (by omega) ?_
   rw[zai,show(k+1-1).toNat=k.toNat by omega,zaf hk]
   rfl
  ·exact⟨by decide,by decide,by decide⟩
  exact⟨_,k+1,rfl,Int.fmod_nonneg_of_pos _ (by decide),by omega,zm,kp _⟩
 cases fl with
 |ret u =>
  obtain⟨v,a5,H2,I2,rv,c,k',rfl,c0,a7,e2,kp⟩:=p;refine⟨.int c,a5,upd H2 a (StO a (.ref b::r0)),Zb I2 e2 hx a7,rv,k4 _ (dv (.int c)) _ (R.same.trans λb u M=>?_) (by exact rfl) (hZ c c0)⟩
  by_cases hba:b=a
  ·subst hba;rw[zm];rw[hA]at M;exact M
  rw[y0 hba];exact kp b u hba M
 |next=>obtain⟨_,_,_,f⟩:=p;exact f.elim
 |brk=>obtain⟨_,_,_,f⟩:=p;exact f.elim
 |cont=>obtain⟨_,_,_,f⟩:=p;exact f.elim
def REnv.st{K:W.Frag}{H_ H:Hp}{G:St}{U:DE}{o:List (Nat×Addr)}(R:REnv K H_ H G U o){i:Nat}{d e2 f:D}{k:Int}(e:slot U i=some (dO (.lst [d,.int k,e2,f]))) :
  ∃a o' xs,xs.length=3/\H a=some (.lst (stL xs k))/\REnv K H_ (upd H a (StO a xs)) G (setS U i (dv (.sx [d,e2,f]))) o'/\Grow (o.map Prod.snd) (o'.map Prod.snd) H (upd H a (StO a xs)):=by
 obtain⟨v,ev,q⟩:=R.slots i _ (Zd.mp e);obtain⟨a,rfl,mem,xs,hx,rp⟩:∃a,v=.ref a/\(i,a)∈o/\∃xs,H a=some (.lst xs)/\Reps K H (o.map Prod.snd) [d,.int k,e2,f] xs:=by
  rcases q with⟨k,_⟩|⟨_,a,e1,m,c⟩
  ·cases k
  exact⟨a,e1,m,c⟩
 obtain⟨v0,_,rfl,r0,v1,_,rfl,r1,v2,_,rfl,r2,v3,_,rfl,r3,rfl⟩:=rp;cases (show v1=_ from r1);have sub:∀p∈o.filter (λp=>decide (p.1≠i)),p∈o:=λp B=>(List.mem_filter.mp B).1;have ne:∀p∈o.filter (λp=>decide (p.1≠i)),p.2≠a:=λp B z=>by
  have:=Zw R.nda (sub p B) mem z;have Z:=of_decide_eq_true (List.mem_filter.mp B).2;rw[this]at Z;exact Z rfl
 have M:∀b∈(o.filter (λp=>decide (p.1≠i))).map Prod.snd,b∈o.map Prod.snd:=λb hb=>by
  obtain⟨p,B,e⟩:=zah.mp hb;exact zah.mpr ⟨p,sub p B,e⟩
 have a5:a∈o.map Prod.snd:=zah.mpr ⟨_,mem,rfl⟩;have a0:a∉(o.filter (λp=>decide (p.1≠i))).map Prod.snd:=λhb=>by
  obtain⟨p,B,e⟩:=zah.mp hb;exact ne p B e
 have g:Grow (o.map Prod.snd) ((o.filter (λp=>decide (p.1≠i))).map Prod.snd) H (upd H a (StO a [v0,v2,v3])) :=
  ⟨λb u h n=>⟨by rw[y0 (λz=>n (by rw[z];exact a5))];exact h,λz=>n (M b z)⟩,λb ys h=>by rw[y0 (λz=>by subst z;rw[hx]at h;cases h)];exact h,λb ob u h=>by rw[y0 (λz=>by subst z;rw[hx]at h;cases h)];exact h⟩
 refine⟨a,_,[v0,v2,v3],rfl,hx,?_,g⟩;have a6:=R.len;exact {
  same:=λb u h=>by
   have hb:b≠a:=λz=>by
    subst z;have:=R.fresh _ mem;rw[this]at h;cases h
   rw[y0 hb];exact R.same b u h
  fresh:=λp B=>R.fresh p (sub p B)
  trk:=λp B=>by rw[y0 (ne p B)];exact R.trk p (sub p B)
  mtb:=λp B=>by rw[y0 (ne p B)];exact R.mtb p (sub p B)
  nda:=List.Nodup.sublist (List.Sublist.map _ List.filter_sublist) R.nda
  len:=by rw[xp,List.length_set];exact R.len
  slots:=λj r I=>by
   rw[xp,List.getElem?_set]at I;by_cases hj:i=j
   ·subst hj;rw[if_pos rfl]at I;split at I
    ·cases I
     exact⟨.ref a,ev,.inl ⟨rfl,a,[v0,v2,v3],rfl,zm,a0,v0,_,rfl,Rep.grow g _ _ r0,v2,_,rfl,Rep.grow g _ _ r2,v3,_,rfl,Rep.grow g _ _ r3,rfl⟩⟩
    cases I
   rw[if_neg hj]at I;obtain⟨v,a4,q⟩:=R.slots j r I;refine⟨v,a4,?_⟩;rcases q with⟨k,q⟩|⟨k,b,e1,mb,c⟩
   ·exact .inl ⟨k,Rep.grow g _ _ q⟩
   have N:(j,b)∈o.filter (λp=>decide (p.1≠i)):=List.mem_filter.mpr ⟨mb,decide_eq_true (Ne.symm hj)⟩;have nb:=ne _ N;refine .inr ⟨k,b,e1,N,?_⟩;obtain⟨kk,d⟩:=r;cases d with
   |lst ds=>obtain⟨xs,q,r⟩:=c;exact⟨xs,by rw[y0 nb];exact q,Reps.grow g _ _ r⟩
   |dk ks ds=>obtain⟨xs,q,l,nd,r⟩:=c;exact⟨xs,by rw[y0 nb];exact q,l,nd,Reps.grow g _ _ r⟩
   | _=>exact c.elim}
def sSt(i:Nat)(t:TDS):TDS:=λU Z=>∃(d:D)(k:Int)(e f:D),slot U i=some (dO (.lst [d,.int k,e,f]))/\0<=k/\t (setS U i (dv (.sx [d,e,f]))) Z
def B6(i:Nat){st:Stmt}{t:TDS}(h:SD L X st t):SD L X st (sSt i t):=λH_ pn s G H EE I q=>by
 obtain⟨U,o,R,Z,⟨d,k,e,f,es,k0,hZ⟩,k1,k2,k3,k4⟩:=q;obtain⟨a,o',xs,hx,ha,R',g⟩:=R.st es;refine h H_ pn s G _ EE (Zb I ha hx k0) ⟨_,o',R',Z,hZ,λB j H2 N g2 R2 M=>k1 B j H2 N (g.trans g2) R2 M,λB j H2 N g2 R2 M=>k2 B j H2 N (g.trans g2) R2 M,λB j H2 N g2 R2 M=>k3 B j H2 N (g.trans g2) R2 M,k4⟩
def txD(r:EV):Prop:=(∃z,r=dv (.str z))\/∃zs:List Str,r=df (.lst (zs.map D.str))
theorem cw{K:W.Frag}{H:Hp}{O:List Addr}:∀{ns:List Str}{xs:List V},Reps K H O (ns.map D.str) xs->xs=ns.map V.str
 |[],_,h=>h
 |n::ns,xs,h=>by
  obtain⟨v,r,rfl,q,t⟩:=h;cases (show v=_ from q);rw[cw t];rfl
theorem Yi{K:W.Frag}{H:Hp}{O:List Addr}:∀(ns:List Str),Reps K H O (ns.map D.str) (ns.map V.str)
 |[]=>rfl
 |n::ns=>⟨_,_,rfl,rfl,Yi ns⟩
def txD.up{K:W.Frag}{H0 H:Hp}{O:List Addr}{r:EV}{v:V}{p:Addr}{u:HO} {kvs} (t:txD r) (h:RV K H0 H O r v) (B:H p=some (.dK kvs)):RV K H0 (upd H p u) O r v:=by
 rcases t with⟨z,rfl⟩|⟨zs,rfl⟩
 ·exact h
 obtain⟨a,rfl,h0,n,xs,j,q⟩:=h;cases cw q;exact⟨a,rfl,h0,n,_,by rw[y0 (λz=>by rw[z,B]at j;cases j)];exact j,Yi zs⟩
section
variable{a1 b1 a2 b2 a3 b3 ix:Expr}{t1 u1 t2 u2 t3 u3 tk:TD}{pos pos2:Pos}
def dPk3(t1 u1 t2 u2 t3 u3 tk:TD):TD:=λU Y=>t1 U λa=>u1 U λx=>t2 U λb=>u2 U λy=>t3 U λc=>u3 U λz=>∃z1 z2 z3:Str,a.d=.str z1/\b.d=.str z2/\c.d=.str z3/\z1≠z2/\z1≠z3/\z2≠z3/\txD x/\txD y/\txD z/\tk U λj=>∃w:Str,j.d=.str w/\((w=z1/\Y x)\/(w=z2/\Y y)\/(w=z3/\Y z))
def Lv(hu:X.A.units+64<cLine)(h1:ED L X a1 t1)(g1:ED L X b1 u1)(h2:ED L X a2 t2)(g2:ED L X b2 u2)(h3:ED L X a3 t3)(g3:ED L X b3 u3)(hk:ED L X ix tk)(hs:kz ix:=by intro _ _;rfl):ED L X (.Subscript (.Dict [some a1,some a2,some a3] [b1,b2,b3] pos) ix pos2) (dPk3 t1 u1 t2 u2 t3 u3 tk):=λH_ =>
 impE (gj (Wc (by omega)) (Ri (qg (h1 H_) (g1 H_) (qg (h2 H_) (g2 H_) (qg (h3 H_) (g3 H_) Ra))) rfl rfl (by simp) (by simp)) (hk H_) hs) λG H Q q=>by
  obtain⟨U,o,R,Y,c8,k⟩:=q;intro p hp;have I:=yf hp (HO.dK []);refine⟨U,o,R.to I,_,c8,λv1 r1 H1 s1 c2 b5=>⟨U,o,R.to (I.trans s1),_,b5,λZ r2 H2 s2 c1 b4=>⟨U,o,R.to ((I.trans s1).trans s2),_,b4,λv3 r3 H3 s3 c0 b0=>⟨U,o,R.to (((I.trans s1).trans s2).trans s3),_,b0,λN r4 H4 s4 b9 a9=>⟨U,o,R.to ((((I.trans s1).trans s2).trans s3).trans s4),_,a9,λv5 r5 H5 s5 b8 a8=>⟨U,o,R.to (((((I.trans s1).trans s2).trans s3).trans s4).trans s5),_,a8,λM r6 H6 s6 b7 B=>?_⟩⟩⟩⟩⟩⟩;obtain⟨z1,z2,z3,e1,e2,e3,a6,a5,a4,tx,ty,tz,B⟩:=B;have a0:H6 p=some (.dK []):=s6 _ _ (s5 _ _ (s4 _ _ (s3 _ _ (s2 _ _ (s1 _ _ zm)))));have w1:v1=V.str z1:=by have:=c2.view;rw[e1]at this;exact this
  have w3:v3=V.str z2:=by have:=c0.view;rw[e2]at this;exact this
  have w5:v5=V.str z3:=by have:=b8.view;rw[e3]at this;exact this
  refine⟨a0,[(.inr z1,Z),(.inr z2,N),(.inr z3,M)],by rw[w1,w3,w5];rfl,by simp,?_⟩
  have em:qj [] [((.inr z1:Key),Z),(.inr z2,N),(.inr z3,M)]=[(.inr z1,Z),(.inr z2,N),(.inr z3,M)]:=by
   simp[qj,putK,a6,a5,a4,Ne.symm a6,Ne.symm a5,Ne.symm a4]
  rw[em];have sm:Same H (upd H6 p (.dK [((.inr z1:Key),Z),(.inr z2,N),(.inr z3,M)])):=λb u hb=>by
   rw[y0 (zo hb hp)];exact s6 _ _ (s5 _ _ (s4 _ _ (s3 _ _ (s2 _ _ (s1 _ _ (I _ _ hb))))))
  refine⟨U,o,R.to sm,_,B,λv7 r7 H7 s7 b6 j=>?_⟩;obtain⟨w,ew,j⟩:=j;have w7:v7=V.str w:=by have:=b6.view;rw[ew]at this;exact this
  have c5:=(tx.up (((c1.start (I.trans s1)).same (s3.trans (s4.trans (s5.trans s6))))) a0 (u:=.dK [((.inr z1:Key),Z),(.inr z2,N),(.inr z3,M)])).same s7;have c4:=(ty.up (((b9.start (I.trans (s1.trans (s2.trans s3)))).same (s5.trans s6))) a0 (u:=.dK [((.inr z1:Key),Z),(.inr z2,N),(.inr z3,M)])).same s7;have c3:=(tz.up (b7.start (I.trans (s1.trans (s2.trans (s3.trans (s4.trans s5)))))) a0 (u:=.dK [((.inr z1:Key),Z),(.inr z2,N),(.inr z3,M)])).same s7;have a7:=s7 _ _ (zm (H:=H6) (a:=p) (o:=.dK [((.inr z1:Key),Z),(.inr z2,N),(.inr z3,M)]));rcases j with⟨rfl,h⟩|⟨rfl,h⟩|⟨rfl,h⟩
  ·exact⟨p,_,.inr w,Z,rfl,a7,w7,by simp[valV],k _ _ _ (sm.trans s7) c5 h⟩
  ·exact⟨p,_,.inr w,N,rfl,a7,w7,by simp[valV,a6],k _ _ _ (sm.trans s7) c4 h⟩
  exact⟨p,_,.inr w,M,rfl,a7,w7,by simp[valV,a5,a4],k _ _ _ (sm.trans s7) c3 h⟩
def dPk2(t1 u1 t2 u2 tk:TD):TD:=λU Y=>t1 U λa=>u1 U λx=>t2 U λb=>u2 U λy=>∃z1 z2:Str,a.d=.str z1/\b.d=.str z2/\z1≠z2/\txD x/\txD y/\tk U λj=>∃w:Str,j.d=.str w/\((w=z1/\Y x)\/(w=z2/\Y y))
def Ca(hu:X.A.units+64<cLine)(h1:ED L X a1 t1)(g1:ED L X b1 u1)(h2:ED L X a2 t2)(g2:ED L X b2 u2)(hk:ED L X ix tk)(hs:kz ix:=by intro _ _;rfl):ED L X (.Subscript (.Dict [some a1,some a2] [b1,b2] pos) ix pos2) (dPk2 t1 u1 t2 u2 tk):=λH_ =>
 impE (gj (Wc (by omega)) (Ri (qg (h1 H_) (g1 H_) (qg (h2 H_) (g2 H_) Ra)) rfl rfl (by simp) (by simp)) (hk H_) hs) λG H Q q=>by
  obtain⟨U,o,R,Y,b8,k⟩:=q;intro p hp;have N:=yf hp (HO.dK []);refine⟨U,o,R.to N,_,b8,λv1 r1 H1 s1 b5 a6=>⟨U,o,R.to (N.trans s1),_,a6,λM r2 H2 s2 b4 a5=>⟨U,o,R.to ((N.trans s1).trans s2),_,a5,λv3 r3 H3 s3 b0 a4=>⟨U,o,R.to (((N.trans s1).trans s2).trans s3),_,a4,λI r4 H4 s4 a9 B=>?_⟩⟩⟩⟩;obtain⟨z1,z2,e1,e2,Z,tx,ty,B⟩:=B;have a0:H4 p=some (.dK []):=s4 _ _ (s3 _ _ (s2 _ _ (s1 _ _ zm)));have w1:v1=V.str z1:=by have:=b5.view;rw[e1]at this;exact this
  have w3:v3=V.str z2:=by have:=b0.view;rw[e2]at this;exact this
  refine⟨a0,[(.inr z1,M),(.inr z2,I)],by rw[w1,w3];rfl,by simp,?_⟩
  have em:qj [] [((.inr z1:Key),M),(.inr z2,I)]=[(.inr z1,M),(.inr z2,I)]:=by
   simp[qj,putK,Z,Ne.symm Z]
  rw[em];have sm:Same H (upd H4 p (.dK [((.inr z1:Key),M),(.inr z2,I)])):=λb u hb=>by
   rw[y0 (zo hb hp)];exact s4 _ _ (s3 _ _ (s2 _ _ (s1 _ _ (N _ _ hb))))
  refine⟨U,o,R.to sm,_,B,λv7 r7 H7 s7 a8 j=>?_⟩;obtain⟨w,ew,j⟩:=j;have w7:v7=V.str w:=by have:=a8.view;rw[ew]at this;exact this
  have b7:=(tx.up (((b4.start (N.trans s1)).same (s3.trans s4))) a0 (u:=.dK [((.inr z1:Key),M),(.inr z2,I)])).same s7;have b6:=(ty.up (a9.start (N.trans (s1.trans (s2.trans s3)))) a0 (u:=.dK [((.inr z1:Key),M),(.inr z2,I)])).same s7;have a7:=s7 _ _ (zm (H:=H4) (a:=p) (o:=.dK [((.inr z1:Key),M),(.inr z2,I)]));rcases j with⟨rfl,h⟩|⟨rfl,h⟩
  ·exact⟨p,_,.inr w,M,rfl,a7,w7,by simp[valV],k _ _ _ (sm.trans s7) b7 h⟩
  exact⟨p,_,.inr w,I,rfl,a7,w7,by simp[valV,Z],k _ _ _ (sm.trans s7) b6 h⟩
end
variable{te:TD}
def Cf(i:Nat)(te:TD):TD:=λU Y=>te (frzS U i) λr=>(∃es,r=df (.lst es)/\zw es)/\Y r
def Hy(i:Nat)(Z:ED L X e te):ED L X e (Cf i te):=λH_=>impE (Z H_) λG H Q q=>by
 obtain⟨U,o,R,Y,j,k⟩:=q;obtain⟨o',R',sub⟩:=R.frz1 i;refine⟨frzS U i,o',R',_,j,λv r H' s B h=>?_⟩;obtain⟨⟨es,rfl,M⟩,h⟩:=h;obtain⟨a,rfl,h0,n,xs,N,I⟩:=B;exact k _ (df (.lst es)) H' s ⟨a,rfl,h0,R.ofree h0,xs,N,Reps.pure _ _ M I⟩ h
def spO(K:W.Frag)(n:Nat)(T:FT):Sp:=λvs H Q _=>∃ds Y,ds.length=n/\Reps K H [] ds vs/\T ds Y/\∀v r H',Same H H'->RV K H H' [] r v->Y r->Q v H'
structure FO(P:Program)(w:World)(K:W.Frag)(mg:Str->Option Value)(base:Heap)(k:Nat)(x:Str)(ps:List Str)(T:FT):Prop where
 ex:∃f fd,FnOk P w K mg base CX0 k f fd ps (spO K ps.length T)/\ua K fd ps []/\W.keepIn K (.ref f)=true/\mg x=some (.ref f)
def Bu{x j:Str}{st:Stmt}{f:Addr}{fd:FuncData}{N ps:List Str}{k:Nat}{T:FT}(F:Fun K x j st f fd)(S:zu N ps (zd st))(b:ua K fd ps [])(m:mg x=some (.ref f))(M:∀ (qZ:Value) (A:Around) (outer:List Env) (s:Shared) (H:Hp) (E:XK) (ds:List D) (Y:EV->Prop),Room k (A.deeper (envOfC j (zd st) s.heap.objs.size f qZ))->ds.length=ps.length->T ds Y ->
   ∃ t,SDs (λ_=>True) (cxOf CX0 P w K mg base N j (zd st) f qZ A outer s H E).nox (yt st) t/\t (wa N.length ds) {nx:=λ_=>False,rt:=Y}):FO P w K mg base (k+1) x ps T:=by
 refine⟨f,fd,F.ok S (λvs H Q E h=>?_) (λqZ A outer s H vs Q E hr h=>?_),b,F.kp,m⟩
 ·obtain⟨ds,Y,hl,r,_⟩:=h;rw[r.length,hl]
 obtain⟨ds,Y,hl,r,hT,Z⟩:=h;obtain⟨t,ht,hq⟩:=M qZ A outer s H E ds Y hr hl hT;exact⟨Qa K H t,ht ⟨H,trivial⟩,wa N.length ds,[],sj r,_,hq,λ_ _ _ _ _ _ q=>q.elim,λ_ _ _ _ _ _ q=>q.elim,λ_ _ _ _ _ _ q=>q.elim,λv I H' s' B q=>Z v I H' s' B q⟩
section
variable{es:List Expr}{t:TDs}{p pos:Pos}{a b:Expr}{ta tb:TD}
def sMin2:FT:=λds Y=>match ds with
 |[.int i,.int j]=>Y (dv (.int (if j<i then j else i)))
 |_=>False
def Pb(M:X.mg "min" = none)(ha:EA L X (e::es) t)(hc:X.calm=true:=by rfl)(N:Gl X "min":=by rfl)(Z:S_ X e es:=by rfl)(j:B_ X es pos:=by rfl):ED L X (.Call (.Name "min" p) (e::es) [] pos) (dCB sMin2 t) :=
 qy (Po hc) (λH O ds vs Y Q ho I h k=>by
  unfold sMin2 at h;split at h
  ·obtain⟨v,ws,rfl,h1,B,q,rfl,h2,rfl⟩:=I;cases (show v=_ from h1);cases (show B=_ from h2);exact⟨_,_,rfl,k _ _ H (Same.refl H) (by exact rfl) h⟩
  exact h.elim) M (by rfl) ha N (by decide) (by decide) Z j
def Room.far{k:Nat}{A:Around}(r:Room k A):A.units+200<cLine:=by have:=r.un;omega
def rEqH(K:W.Frag)(j:Bool):R2:=λx y H Q=>∃d e,Rep K H [] d x/\Rep K H [] e y/\okD 150 d/\okD 150 e/\Q (.bl (if j then !eqD d e else eqD d e)) H
def Ei(hu:X.A.units+200<cLine):OpR X (compareOp .NotEq) (rEqH X.K true):=by
 intro pn s G H x y v u Q I B j h;obtain⟨d,e,h1,h2,N,M,q⟩:=h;exact(Y4 I 150 d e x y v u X.A N M h1 h2 B j (by omega)).2.1 X.prog X.w X.xe _ ⟨.bl _,H,I,rfl,q⟩
def sNeH:D->D->(EV->Prop)->Prop:=λx y Y=>okD 150 x/\okD 150 y/\Y (dv (.bl (!eqD x y)))
def Lq(hu:X.A.units+200<cLine)(I:ED L X a ta)(B:ED L X b tb):ET L X (.Compare a [.NotEq] [b] pos) (tBo (d2 sNeH ta tb)) :=
 tw (Ei hu) (λH O x y N M Y Q ho q j h k=>⟨x,y,q.rep0,j.rep0,h.1,h.2.1,k _ _ H (Same.refl H) (by exact rfl) h.2.2⟩) I B (uc _)
end
section
variable{a b:Expr}{ta tb:TD}{pos:Pos}
def Le(hu:X.A.units+200<cLine):OpR X (compareOp .Eq) (rEqH X.K false):=by
 intro pn s G H x y v u Q I B j h;obtain⟨d,e,h1,h2,N,M,q⟩:=h;exact(Y4 I 150 d e x y v u X.A N M h1 h2 B j (by omega)).1 X.prog X.w X.xe _ ⟨.bl _,H,I,rfl,q⟩
def sEqH:D->D->(EV->Prop)->Prop:=λx y Y=>okD 150 x/\okD 150 y/\Y (dv (.bl (eqD x y)))
def C5(hu:X.A.units+200<cLine)(I:ED L X a ta)(B:ED L X b tb):ET L X (.Compare a [.Eq] [b] pos) (tBo (d2 sEqH ta tb)) :=
 tw (Le hu) (λH O x y N M Y Q ho q j h k=>⟨x,y,q.rep0,j.rep0,h.1,h.2.1,k _ _ H (Same.refl H) (by exact rfl) h.2.2⟩) I B (uc _)
end
section
variable{x:Str}{ps:List Str}{T:FT}{k:Nat}{a:Expr}{es:List Expr}{ta:TD}{t:TDs}{p pos pos2:Pos}
def dEqO(n:Nat)(T:FT)(ta:TD)(t:TDs):TD:=λU Y=>ta U λx=>t U λrs=>Nat.beq rs.length n=true/\T (rs.map EV.d) λr=>okD 150 x.d/\okD 150 r.d/\Y (dv (.bl (eqD x.d r.d)))
def Cb(hu:X.A.units+200<cLine)(F:FO X.prog X.w X.K X.mg X.base k x ps T)(hr:Room k X.A)(h1:ED L X a ta)(ha:EA L X (e::es) t)(hg:Gl X x:=by rfl)(N:D_ x:=by decide)(he:S_ X e es:=by rfl)(M:B_ X es pos2:=by rfl):ED L X (.Compare a [.Eq] [.Call (.Name x p) (e::es) [] pos2] pos) (dEqO ps.length T ta t):=λH_=>by
 obtain⟨f,fd,ok,b,kp,m⟩:=F.ex;refine impE (Rk (Le hu) (h1 H_) (Rm ok hr hg m kp b .nil W7 (ha H_) N he M) (uc _)) λG H Q q=>?_;obtain⟨U,o,R,Y,I,kk⟩:=q;refine⟨U,o,R,_,I,λv1 r1 H1 s1 B g1=>⟨U,o,R.to s1,_,g1,λvs rs H2 s2 j g2=>?_⟩⟩;show spO X.K ps.length T (vs++[]) H2 _ E0;rw[List.append_nil];refine⟨rs.map EV.d,_,by rw[zLm];exact Nat.eq_of_beq_eq_true g2.1,j.reps0,g2.2,λv r H3 Z rv g3=>?_⟩
 have rp:Rep X.K H3 [] r.d v:=by
  have:=RVs.reps0 (rs:=[r]) (vs:=[v]) ⟨v,[],rfl,rv,rfl⟩;obtain⟨v',ws,e,q,_⟩:=this;cases e;exact q
 exact⟨r1.d,r.d,(B.same (s2.trans Z)).view.rep0,rp,g3.1,g3.2.1,kk _ (dv (.bl _)) H3 (s1.trans (s2.trans Z)) (by exact rfl) g3.2.2⟩
end
def jl{α:Type}{us:List α}(h:us.length=1):∃a0,us=[a0]:=match us,h with
 |[a0],_=>⟨a0,rfl⟩
def uw{α:Type}{us:List α}(h:us.length=2):∃a0 a1,us=[a0,a1]:=match us,h with
 |[a0,a1],_=>⟨a0,a1,rfl⟩
def Yx{α:Type}{us:List α}(h:us.length=3):∃a0 a1 a2,us=[a0,a1,a2]:=match us,h with
 |[a0,a1,a2],_=>⟨a0,a1,a2,rfl⟩
def Ni{α:Type}{us:List α}(h:us.length=4):∃a0 a1 a2 a3,us=[a0,a1,a2,a3]:=match us,h with
 |[a0,a1,a2,a3],_=>⟨a0,a1,a2,a3,rfl⟩
abbrev pE:List Str:=["_law_script","_law_k"]
abbrev pC:List Str:=["_law_state"]
abbrev pB:List Str:=["_law_f","_law_names_here"]
abbrev pF:List Str:=["_law_name","_law_names_here","_law_cell"]
abbrev pA:List Str:=["_law_state","_law_scope","_law_deep","_law_shape"]
abbrev pD:List Str:=["_law_found"]
local macro_rules|`(tactic| walk_at "dl")=>do
 let ids <- (("q_ Q_ sNil sSeq sRet sIf sSet Fe sUn d2 d1 uh dC slot setS EV.sto EV.ret aNil vh dTup dLst Y9 dCB jy vAnd vNot vIf bAnd bOr bNot bYes tTru tBo truD sSub sFd sMod sPow sLt sLe sGt sGe sI sI0 sAdd sMul sNeg sEq sNe sIs Vc Np sIx1 sSl dSl Jn Jm sLen sIsI sTupC sListC sIntC sApp iSeq iR1 Lm gN gT2 wa Wg X4 T8 rm fi jf Wi Wf fh vn We X1 t9 Zr Wj List.map_cons List.map_nil zLc zLn List.cons_append List.nil_append List.replicate_succ List.replicate_zero Nat.reduceAdd Nat.reduceSub Nat.zero_add Nat.sub_self Bool.and_self Bool.and_true Bool.true_and true_and and_true Bool.not_true Bool.not_false forall_const true_implies false_implies Bool.true_eq_false Bool.false_eq_true reduceCtorEq implies_true yo Lh ym Q0 Y6 Y5 C6 qf zj zw Bool.not_eq_eq_eq_not beq_eq_false_iff_ne beq_iff_eq ne_eq decide_eq_true_eq decide_eq_false_iff_not Bool.not_eq_true Bool.not_eq_false not_true_eq_false not_false_eq_true Mm Ck Aa and_self Nat.beq_eq Nat.ble_eq Nat.reduceLeDiff eq_self Nat.reduceEqDiff sIxx keyD sIn Y0 cp10 Int.reduceLE Int.reduceToNat Tw Ge zLm Option.map_some Int.zero_add Ff Int.reduceEq Int.reduceNeg Int.reduceLT Option.map_none sFrz frzS iZ Od Ob Oc sSum fq sPop sExt sAug Cg A0 Vp Oe X3 Zp Zq X7 Zt X2 Wh X5 T7 Wk X6 sDictP Cd Sn seqD gT4 qSeq qSet Fq qE qT qB qIf qNil qRet Fu Fw hid Kx L5 R7 dFld fE2 fTup Hu fNil qFld Ky Fx Kz Fv R8 Oq pFld pIxQ Jg Ly L6 rE rP Fn List.getElem?_cons_succ List.getElem?_cons_zero ix0 ix1 ix2 ix3 ix4 ix5 ix6 ix7 Fs Ui at_0 A9 sEqH Ce gL5".splitOn " ").toArray).mapM λs=>`(Lean.Parser.Tactic.simpLemma| $(Lean.mkIdent s.toName):ident)
 `(tactic| simp only[$ids,*])
seal SDs SD ED EA ET EW EQ QA QT QS QSs QL
structure Tops(mg:Str->Option Value):Prop where
 ValueError:mg "ValueError" = none
 all:mg "all" = none
 bool:mg "bool" = none
 dict:mg "dict" = none
 int:mg "int" = none
 isinstance:mg "isinstance" = none
 len:mg "len" = none
 list:mg "list" = none
 min:mg "min" = none
 range:mg "range" = none
 reversed:mg "reversed" = none
 str:mg "str" = none
 sum:mg "sum" = none
 tuple:mg "tuple" = none
 zip:mg "zip" = none
variable{f:Addr}{fd:FuncData}
def mth(i:Nat):Stmt:=xf (top 17) i
def zk:List Str:=["functions","most","calls","steps","frames","tasks","ready","is_cut"]
def ix0:ixF zk "functions" = some 0:=by decide
def ix1:ixF zk "most" = some 1:=by decide
def ix2:ixF zk "calls" = some 2:=by decide
def ix3:ixF zk "steps" = some 3:=by decide
def ix4:ixF zk "frames" = some 4:=by decide
def ix5:ixF zk "tasks" = some 5:=by decide
def ix6:ixF zk "ready" = some 6:=by decide
def ix7:ixF zk "is_cut" = some 7:=by decide
structure MS where
 calls:List D
 steps:List D
 frames:List (Int×List (Str×D))
 tasks:List D
 ready:List D
 cut:Bool
def dkD(rows:List (Str×D)):D:=.dk (rows.map λp=>Sum.inr p.1) (rows.map Prod.snd)
def frD(p:Int×List (Str×D)):D:=.tup [.int p.1,dkD p.2]
def msD(C:Addr)(fns:List (Str×D))(most:Int)(s:MS):D:=.ob C zk [dkD fns,.int most,.lst s.calls,.lst s.steps,.lst (s.frames.map frD),.lst s.tasks,.lst s.ready,.bl s.cut]
def xa(most:Int)(n:Int)(k:Str)(s:MS):Bool×MS:=if most<=s.steps.length then(false,{s with cut:=true}) else(true,{s with steps:=s.steps++[.tup [.int n,.str k]]})
def Tz1(C:Addr):FTQ:=λd ds Y=>∃fns most s n k,d=msD C fns most s/\ds=[.int n,.str k]/\s.steps.length<=10000/\Y (.bl (xa most n k s).1) (msD C fns most (xa most n k s).2)
def Hk(T:Tops mg)(O:CO K C zk)(F:Fun K "step" "Run.step" (mth 3) f fd)(j:Meth K C "step" f):FM P w K mg base 1 C zk "step" ["self","number","kind"] (Tz1 C):=by
 have S:zu ["self","number","kind"] ["self","number","kind"] (zd (mth 3)):=by walk_at "f"
 refine su F S (F.binds λ_ _ _ _ _ _ us hl=>(by obtain⟨_,_,_,rfl⟩:=Yx hl;rfl)) j (by decide) λqZ A outer s H E I ds Y hr hl hT=>?_
 have hu:=hr.units;refine⟨_,(yh (wz (u9 (P8 (yu T.len (za (va O (z9 0)) zb)) (va O (z9 0)))) (yh (Vk O ye (yy u7))
    (y9 (Vj (Xg u7)))) jd)
   (yh (xr (xb O ye) (yy (zi (za (z9 1) (za (z9 2) zb)))))
   (y9 (Vj (Xg u7))))),?_⟩
 obtain⟨fns,most,ms,n,k,rfl,rfl,B,h⟩:=hT;unfold msD at h ⊢;unfold xa at h;refine⟨rfl,rfl,rfl,rfl,λq=>⟨trivial,_,_,rfl,rfl,by decide,trivial,_,rfl,?_⟩,λq=>⟨_,_,rfl,rfl,_,_,rfl,rfl,by show ms.steps.length<=100000;omega,rfl,rfl,⟨trivial,trivial,trivial⟩,trivial,_,rfl,?_⟩⟩
 ·rw[if_pos (of_decide_eq_true q)]at h;exact h
 rw[if_neg (of_decide_eq_false q)]at h;exact h
def rowG:List (Str×D)->Str->Option D
 |[],_=>none
 |p::r,z=>if p.1=z then some p.2 else rowG r z
theorem gw(z:Str):∀rows:List (Str×D),t5 (rows.map λp=>(Sum.inr p.1:Key)) (rows.map Prod.snd) (Sum.inr z)=rowG rows z
 |[]=>rfl
 |p::r=>by
  show(if (Sum.inr p.1:Key)=Sum.inr z then some p.2 else t5 (r.map λp=>(Sum.inr p.1:Key)) (r.map Prod.snd) (Sum.inr z))=_
  unfold rowG;by_cases h:p.1=z
  ·rw[if_pos h,if_pos (by rw[h])]
  rw[if_neg h,if_neg (λe=>h (Sum.inr.inj e))];exact gw z r
theorem Z3:∀(zs:List Str)(vs:List D),zs.length=vs.length->(zs.map Sum.inr:List Key)=(zs.zip vs).map λp=>(Sum.inr p.1:Key)
 |[],_,_=>rfl
 |_::_,[],h=>by simp at h
 |z::zs,v::vs,h=>by rw[List.map_cons,List.zip_cons_cons,List.map_cons,Z3 zs vs (by simpa using h)]
def tOwn(C:Addr):FTQ:=λd ds Y=>∃fns most s k fs n rows,d=msD C fns most s/\ds=[.str k]/\s.steps.length<=10000/\s.frames=fs++[(n,rows)]/\Y (.bl (xa most n k s).1) (msD C fns most (xa most n k s).2)
def S6(C:Addr):FTQ:=λd ds Y=>∃fns most s fs n rows,∃zs:List Str,∃vs:List D,d=msD C fns most s/\ds=[.tup (zs.map D.str),.tup vs]/\s.frames=fs++[(n,rows)]/\zs.length=vs.length/\zs.length<=10/\rows.length<=900/\(rows.map Prod.fst++zs).Nodup/\zw vs/\Y .non (msD C fns most {s with frames:=fs++[(n,rows++zs.zip vs)]})
def V8(C:Addr):FTQ:=λd ds Y=>∃fns most s,∃rs us:List D,d=msD C fns most s/\ds=[.int us.length]/\s.ready=rs++us/\us≠[]/\us.length<=10/\zw us/\zw rs/\s.ready.length<=10000/\Y (.tup us) (msD C fns most {s with ready:=rs})
def Wo(T:Tops mg)(O:CO K C zk)(N:FM P w K mg base 1 C zk "step" ["self","number","kind"] (Tz1 C))(F:Fun K "own_step" "Run.own_step" (mth 4) f fd)(I:Meth K C "own_step" f):FM P w K mg base 2 C zk "own_step" ["self","kind"] (tOwn C):=by
 have S:zu ["self","kind"] ["self","kind"] (zd (mth 4)):=by walk_at "f"
 refine su F S (F.binds λ_ _ _ _ _ _ us hl=>(by obtain⟨_,_,rfl⟩:=uw hl;rfl)) I (by decide) λqZ A outer s H E Z ds Y hr hl hT=>?_
 have hu:=hr.units;refine⟨_,(y9 (Vj (yk O N (hr.e rfl) (gd (Xg (zg hu (zg hu (va O (z9 0)) (qv zc)) zc)) (y7 (z9 1) x3))))),?_⟩;obtain⟨fns,most,ms,k,fs,n,rows,rfl,rfl,j,M,h⟩:=hT;have q:ms.frames.map frD=fs.map frD++[.tup [.int n,dkD rows]]:=by rw[M,zMa];rfl
 have B:msD C fns most ms=.ob C zk [dkD fns,.int most,.lst ms.calls,.lst ms.steps,.lst (fs.map frD++[.tup [.int n,dkD rows]]),.lst ms.tasks,.lst ms.ready,.bl ms.cut]:=by unfold msD;rw[q]
 rw[B];walk_at "dl";refine⟨_,rfl,fns,most,ms,n,k,B.symm,rfl,j,_,rfl,h⟩
def Nz(T:Tops mg)(O:CO K C zk)(F:Fun K "stand" "Run.stand" (mth 6) f fd)(N:Meth K C "stand" f):FM P w K mg base 1 C zk "stand" ["self","names","things"] (S6 C):=by
 have S:zu ["self","names","things","standing"] ["self","names","things"] (zd (mth 6)):=by walk_at "f"
 refine su F S (F.binds λ_ _ _ _ _ _ us hl=>(by obtain⟨_,_,_,rfl⟩:=Yx hl;rfl)) N (by decide) λqZ A outer s H E d0 ds Y hr hl hT=>?_
 have hu:=hr.units;refine⟨_,(Oo 3 (by decide) S.nd (E9 (E9 (xb O ye) (qv zc)) zc) (Ua T.dict T.zip (za (z9 1) (za (z9 2) zb)))),?_⟩
 obtain⟨fns,most,ms,fs,n,rows,zs,vs,rfl,rfl,hf,hl1,a0,Z,nd,I,h⟩:=hT;unfold msD at h ⊢;rw[hf,zMa,List.map_cons,List.map_nil];have q:zs.Nodup:=(List.nodup_append.mp nd).2.1;have M:(fs.map frD++[frD (n,rows)]).length=fs.length+1:=by rw[zLa,zLm];rfl
 have j:(fs.map frD++[frD (n,rows)])[fs.length]?=some (frD (n,rows)):=by
  have:=List.getElem?_append_right (l₁:=fs.map frD) (l₂:=[frD (n,rows)]) (i:=fs.length) (by rw[zLm];exact zaj _)
  rw[this,zLm,Nat.sub_self];rfl
 have B:∀π,atQ (4::fs.length::π) (.ob C zk [dkD fns,.int most,.lst ms.calls,.lst ms.steps,.lst (fs.map frD++[frD (n,rows)]),.lst ms.tasks,.lst ms.ready,.bl ms.cut])=atQ π (frD (n,rows)):=λπ=>by
  show(match (fs.map frD++[frD (n,rows)])[fs.length]? with|some x=>atQ π x|none=>none)=_
  rw[j]
 refine⟨_,_,rfl,rfl,_,_,_,_,fs.length,rfl,rfl,rfl,rfl,by rw[M];exact Nn _,_,_,_,_,1,rfl,B [],rfl,rfl,rfl,_,_,_,rfl,B [1],zaj 4,zs,vs,⟨.inr rfl,.inr rfl⟩,hl1,by omega,q,I,by rw[zLm,zLm];show rows.length+zs.length<=1000;omega,?_,_,rfl,?_⟩
 ·have e:(rows.map λ(p:Str×D)=>(Sum.inr p.1:Key))++zs.map Sum.inr=(rows.map Prod.fst++zs).map Sum.inr:=by rw[zMa,List.map_map];rfl
  show((rows.map λ(p:Str×D)=>(Sum.inr p.1:Key))++zs.map Sum.inr).Nodup;rw[e];exact List.Pairwise.map _ (λa b h e=>h (Sum.inr.inj e)) nd
 have e1:(rows.map λp=>(Sum.inr p.1:Key))++zs.map Sum.inr=(rows++zs.zip vs).map λp=>(Sum.inr p.1:Key):=by
  rw[zMa];rw[Z3 zs vs hl1]
 have e2:rows.map Prod.snd++vs=(rows++zs.zip vs).map Prod.snd:=by rw[zMa,vt1 hl1]
 have e3:putQ [4,fs.length,1] (.ob C zk [dkD fns,.int most,.lst ms.calls,.lst ms.steps,.lst (fs.map frD++[frD (n,rows)]),.lst ms.tasks,.lst ms.ready,.bl ms.cut]) (.dk ((rows.map λp=>(Sum.inr p.1:Key))++zs.map Sum.inr) (rows.map Prod.snd++vs))=.ob C zk [dkD fns,.int most,.lst ms.calls,.lst ms.steps,.lst (fs.map frD++[frD (n,rows++zs.zip vs)]),.lst ms.tasks,.lst ms.ready,.bl ms.cut]:=by
  rw[e1,e2];show D.ob C zk [dkD fns,.int most,.lst ms.calls,.lst ms.steps,(match (fs.map frD++[frD (n,rows)])[fs.length]? with|some x=>D.lst ((fs.map frD++[frD (n,rows)]).set fs.length (putQ [1] x (dkD (rows++zs.zip vs))))|none=>.lst (fs.map frD++[frD (n,rows)])),.lst ms.tasks,.lst ms.ready,.bl ms.cut]=_
  rw[j];show D.ob C zk [dkD fns,.int most,.lst ms.calls,.lst ms.steps,D.lst ((fs.map frD++[frD (n,rows)]).set fs.length (frD (n,rows++zs.zip vs))),.lst ms.tasks,.lst ms.ready,.bl ms.cut]=_;rw[List.set_append_right _ _ (by rw[zLm];exact zaj _),zLm,Nat.sub_self]
  rfl
 have h2:=h;rw[show(fs++[(n,rows++zs.zip vs)]).map frD=fs.map frD++[frD (n,rows++zs.zip vs)] from by rw[zMa];rfl]at h2
 rw[<- e3]at h2;exact h2
def Ny(T:Tops mg)(O:CO K C zk)(F:Fun K "taken" "Run.taken" (mth 7) f fd)(B:Meth K C "taken" f):FM P w K mg base 1 C zk "taken" ["self","many"] (V8 C):=by
 have S:zu ["self","many","parts"] ["self","many"] (zd (mth 7)):=by walk_at "f"
 refine su F S (F.binds λ_ _ _ _ _ _ us hl=>(by obtain⟨_,_,rfl⟩:=uw hl;rfl)) B (by decide) λqZ A outer s H E d0 ds Y hr hl hT=>?_
 have hu:=hr.units;refine⟨_,(yh (Ks 2 (by decide) S.nd (yj (va O (z9 0)) (yi (qv (z9 1))) xg))
   (yh (Vk O ye (yy (yj (va O (z9 0)) xg (yi (qv (z9 1))))))
   (y9 (Vj (Xg (wq T.tuple (za (z9 2) zb))))))),?_⟩
 obtain⟨fns,most,ms,rs,us,rfl,rfl,M,ne,hl1,j,q,I,h⟩:=hT;unfold msD at h ⊢;rw[M];obtain⟨Z,N⟩:=Pl rs us ne;walk_at "dl";rw[Z,N];exact⟨j,q,_,_,rfl,rfl,by decide,j,_,rfl,h⟩
def w8{t u:TQS}{U:DE}{Z:QZ}(j:DE)(h:∀ J:DE->Prop,J j->t U {Z with nx:=J})(h2:u j Z):qSeq t u U Z:=h _ h2
def y8{tc:TDb}{t u:TQS}{U:DE}{Z:QZ}(b:Bool)(h:∀ M:Bool->Prop,M b->tc U M)(h1:b=true->t U Z)(h2:b=false->u U Z):qIf (qT tc) t u U Z:=h _ ⟨h1,h2⟩
def cs{n m:Nat}{a b:Str}{Q:Prop}(h:Q):okD n (.str a)/\okD m (.str b)/\Q:=⟨ym▸trivial,ym▸trivial,h⟩
def cn{n m:Nat}{a b:Str}{M:Bool->Prop}(e:a≠b)(h:M false):okD n (.str a)/\okD m (.str b)/\M (eqD (.str a) (.str b)):=⟨ym▸trivial,ym▸trivial,by rw[Y5,beq_eq_false_iff_ne.mpr e];exact h⟩
def vlD(e:D):D:=.tup [.str "value",e]
def bdD(b:D):D:=.tup [.str "body",b]
def W0(C:Addr):FTQ:=λd ds Y=>∃fns most s,∃es:List D,∃t,d=msD C fns most s/\ds=[.tup es,t]/\es.length<=100/\zw es/\zj t/\s.tasks.length<=10000/\Y .non (msD C fns most {s with tasks:=s.tasks++[t]++es.reverse.map vlD})
def Sd(C:Addr):FTQ:=λd ds Y=>∃fns most s fs n rows z e b rs v,d=msD C fns most s/\ds=[.tup [.str "let",.str z,e,b]]/\s.frames=fs++[(n,rows)]/\s.ready=rs++[v]/\s.steps.length<=10000/\s.ready.length<=10000/\s.tasks.length<=10000/\zj e/\zj b/\zj v/\zw rs/\rows.length<=900/\(rows.map Prod.fst++[z]).Nodup /\
 Y .non (msD C fns most (match xa most n "let" s with
  |(true,s')=>{s' with frames:=fs++[(n,rows++[(z,v)])],ready:=rs,tasks:=s.tasks++[bdD b]}
  | (false,s')=>s'))
def Xz(C:Addr):FTQ:=λd ds Y=>∃fns most s fs n rows e1 e2 b1 b2 rs,∃x y:Int,d=msD C fns most s/\ds=[.tup [.str "less",e1,e2,b1,b2]]/\s.frames=fs++[(n,rows)]/\s.ready=rs++[.int x,.int y]/\s.steps.length<=10000/\s.ready.length<=10000/\s.tasks.length<=10000/\zj b1/\zj b2/\zw rs /\
 Y .non (msD C fns most (match xa most n "less" s with
  |(true,s')=>{s' with ready:=rs,tasks:=s.tasks++[bdD (if x<y then b1 else b2)]}
  | (false,s')=>s'))
def Sa(C:Addr):FTQ:=λd ds Y=>∃fns most s fs,∃n:Nat,∃rows nm args up rs v cl1 cl2,d=msD C fns most s/\ds=[]/\s.frames=fs++[((n:Int),rows)]/\s.ready=rs++[v]/\zj v/\s.calls=cl1++[.tup [nm,args,up,.bl false,.non]]++cl2/\cl1.length=n/\zj nm/\zj args/\zj up /\
 Y .non (msD C fns most {s with frames:=fs,calls:=cl1++[.tup [nm,args,up,.bl true,v]]++cl2})
def M3(T:Tops mg)(O:CO K C zk)(Ad:FM P w K mg base 2 C zk "own_step" ["self","kind"] (tOwn C))(As:FM P w K mg base 1 C zk "stand" ["self","names","things"] (S6 C))(Aj:FM P w K mg base 1 C zk "taken" ["self","many"] (V8 C))(F:Fun K "bring" "Run.bring" (mth 11) f fd)(hm:Meth K C "bring" f):FM P w K mg base 3 C zk "bring" ["self","body"] (Sd C):=by
 have S:zu ["self","body"] ["self","body"] (zd (mth 11)):=by walk_at "f"
 refine su F S (F.binds λ_ _ _ _ _ _ us hl=>(by obtain⟨_,_,rfl⟩:=uw hl;rfl)) hm (by decide) λqZ A outer s H E d0 ds Y hr hl hT=>?_
 have hu:=hr.units;refine⟨_,(y9 (wz (ba (yk O Ad (hr.e rfl) (y7 zf x3))) (yh (xi (yk O As (hr.e rfl) (y7 (yj (z9 1) (yi zc) (yi zc)) (gd (yk O Aj (hr.e rfl) (y7 zc x3)) x3))))
    (y9 (xr (xb O ye) (yy (zi (za zf (za (zg hu (z9 1) zc) zb))))))) jd)),?_⟩
 obtain⟨fns,most,ms,fs,n,rows,z,e,b,rs,v,rfl,rfl,Z,B,hl1,M,a0,pe,pb,N,j,I,nd,h⟩:=hT;unfold msD;refine⟨_,rfl,trivial,rfl,fns,most,ms,"let",fs,n,rows,rfl,rfl,hl1,Z,?_⟩;by_cases q:most<=ms.steps.length
 ·have es:xa most n "let" ms=(false,{ms with cut:=true}):=by unfold xa;rw[if_pos q]
  rw[es]at h ⊢;exact⟨λy=>(nomatch y),λ_=>⟨_,rfl,h⟩⟩
 have es:xa most n "let" ms=(true,{ms with steps:=ms.steps++[.tup [.int n,.str "let"]]}):=by unfold xa;rw[if_neg q]
 rw[es]at h ⊢;refine⟨λ_=>⟨_,rfl,λy=>(nomatch y.1),trivial,_,rfl,trivial,rfl,fns,most,{ms with steps:=ms.steps++[.tup [.int n,.str "let"]]},rs,[v],rfl,rfl,B,nofun,Nat.le_of_ble_eq_true rfl,⟨N,trivial⟩,j,M,rfl,?_⟩,λy=>(nomatch y)⟩;refine⟨fns,most,{ms with steps:=ms.steps++[.tup [.int n,.str "let"]],ready:=rs},fs,n,rows,[z],[v],rfl,rfl,Z,rfl,Nat.le_of_ble_eq_true rfl,I,nd,⟨N,trivial⟩,?_⟩;exact⟨_,_,rfl,rfl,_,_,rfl,rfl,by show ms.tasks.length<=100000;omega,rfl,rfl,⟨trivial,pb,trivial⟩,_,rfl,h⟩
def Qv(T:Tops mg)(O:CO K C zk)(Ad:FM P w K mg base 2 C zk "own_step" ["self","kind"] (tOwn C))(Aj:FM P w K mg base 1 C zk "taken" ["self","many"] (V8 C))(F:Fun K "choose" "Run.choose" (mth 12) f fd)(N:Meth K C "choose" f):FM P w K mg base 3 C zk "choose" ["self","body"] (Xz C):=by
 have S:zu ["self","body","compared"] ["self","body"] (zd (mth 12)):=by walk_at "f"
 refine su F S (F.binds λ_ _ _ _ _ _ us hl=>(by obtain⟨_,_,rfl⟩:=uw hl;rfl)) N (by decide) λqZ A outer s H E d0 ds Y hr hl hT=>?_
 have hu:=hr.units;refine⟨_,(y9 (wz (ba (yk O Ad (hr.e rfl) (y7 zf x3))) (yh (k9 2 (by decide) S.nd (yk O Aj (hr.e rfl) (y7 zc x3)))
    (y9 (xr (xb O ye) (yy (zi (za zf (za (jr (Te (zg hu (z9 2) zc) (zg hu (z9 2) zc)) (zg hu (z9 1) zc) (zg hu (z9 1) zc)) zb))))))) jd)),?_⟩
 obtain⟨fns,most,ms,fs,n,rows,e1,e2,b1,b2,rs,x,y,rfl,rfl,hf,B,hl1,I,Z,M,p2,j,h⟩:=hT;unfold msD;refine⟨_,rfl,trivial,rfl,fns,most,ms,"less",fs,n,rows,rfl,rfl,hl1,hf,?_⟩;by_cases q:most<=ms.steps.length
 ·have es:xa most n "less" ms=(false,{ms with cut:=true}):=by unfold xa;rw[if_pos q]
  rw[es]at h ⊢;exact⟨λy=>(nomatch y),λ_=>⟨_,rfl,h⟩⟩
 have es:xa most n "less" ms=(true,{ms with steps:=ms.steps++[.tup [.int n,.str "less"]]}):=by unfold xa;rw[if_neg q]
 rw[es]at h ⊢;refine⟨λ_=>⟨_,rfl,trivial,rfl,fns,most,{ms with steps:=ms.steps++[.tup [.int n,.str "less"]]},rs,[.int x,.int y],rfl,rfl,B,nofun,Nat.le_of_ble_eq_true rfl,⟨trivial,trivial,trivial⟩,j,I,?_⟩,λy=>(nomatch y)⟩;refine⟨_,_,rfl,rfl,_,_,rfl,rfl,by show ms.tasks.length<=100000;omega,?_⟩
 refine⟨λq=>⟨rfl,rfl,⟨trivial,M,trivial⟩,_,rfl,?_⟩,λq=>⟨rfl,rfl,⟨trivial,p2,trivial⟩,_,rfl,?_⟩⟩
 ·rw[if_pos (of_decide_eq_true q)]at h;exact h
 rw[if_neg (of_decide_eq_false q)]at h;exact h
def M0(T:Tops mg)(O:CO K C zk)(F:Fun K "leave" "Run.leave" (mth 17) f fd)(hm:Meth K C "leave" f):FM P w K mg base 1 C zk "leave" ["self"] (Sa C):=by
 have S:zu ["self","frame"] ["self"] (zd (mth 17)):=by walk_at "f"
 refine su F S (F.binds λ_ _ _ _ _ _ us hl=>(by obtain⟨_,rfl⟩:=jl hl;rfl)) hm (by decide) λqZ A outer s H E d0 ds Y hr hl hT=>?_
 have hu:=hr.units;refine⟨_,(yh (xq (Yq 1 (by decide) S.nd (xb O ye)))
   (y9 (xq (Kv (xb O ye) (zg hu (z9 1) zc) (x5 (yj (zg hu (va O (z9 0)) (zg hu (z9 1) zc)) xg (yi zc)) (zi (za u7 (za (zg hu (va O (z9 0)) (qv zc)) zb)))))))),?_⟩
 obtain⟨fns,most,ms,fs,n,rows,B,j,up,rs,v,q,cl2,rfl,rfl,hf,I,N,hc,hn,p1,p2,Z,h⟩:=hT;have M:ms.frames.map frD=fs.map frD++[frD ((n:Int),rows)]:=by rw[hf,zMa];rfl
 have e0:msD C fns most ms=.ob C zk [dkD fns,.int most,.lst (q++[.tup [B,j,up,.bl false,.non]]++cl2),.lst ms.steps,.lst (fs.map frD++[frD ((n:Int),rows)]),.lst ms.tasks,.lst (rs++[v]),.bl ms.cut]:=by unfold msD;rw[M,hc,I]
 rw[e0];refine x9 (λU=>U=[q_ (.ob C zk [dkD fns,.int most,.lst (q++[.tup [B,j,up,.bl false,.non]]++cl2),.lst ms.steps,.lst (fs.map frD),.lst ms.tasks,.lst (rs++[v]),.bl ms.cut]),q_ (frD ((n:Int),rows))]) ?_ ?_
 ·refine⟨_,_,rfl,rfl,_,_,frD ((n:Int),rows),rfl,rfl,?_,?_⟩
  ·rw[zLa];show(fs.map frD++[frD ((n:Int),rows)])[(fs.map frD).length+1-1]?=_;rw[Nat.add_sub_cancel,List.getElem?_append_right (zaj _),Nat.sub_self];rfl
  rw[List.dropLast_concat];rfl
 rintro _ rfl;have ha:atI (q++[D.tup [B,j,up,.bl false,.non]]++cl2) (n:Int)=some (.tup [B,j,up,.bl false,.non]):=wu (by omega) (by
  rw[show((n:Int)).toNat=q.length from by omega,List.append_assoc,List.getElem?_append_right (zaj _),Nat.sub_self]
  rfl)
 simp only[frD];refine⟨λU=>∃d',slot U 0=q_ d'/\Y .non d',?_,λ_ y=>y⟩;walk_at "dl";simp only[ha,Ui];have ec:cutD [B,j,up,D.bl false,D.non] none (some 3)=[B,j,up]:=rfl;rw[ec];refine⟨λy=>absurd y.2 (by unfold ZZ.sIx;simp),by simp,by rw[sizeLine_eq];show 5<=_;decide,⟨p1,p2,Z,trivial,N,trivial⟩,_,_,rfl,rfl,_,_,_,n,rfl,rfl,rfl,?_,_,rfl,?_⟩
 ·unfold ixN;rw[if_pos (by omega),if_pos (by rw[zLa,zLa];simp;omega)]
  rfl
 have es:(q++[D.tup [B,j,up,.bl false,.non]]++cl2).set n (.tup ([B,j,up]++[D.bl true,v]))=q++[.tup [B,j,up,.bl true,v]]++cl2:=by
  rw[List.append_assoc,List.set_append_right _ _ (by omega),hn,Nat.sub_self,List.append_assoc]
  rfl
 unfold msD at h;simp only[I]at h;rw[es];exact h
variable{R:Str->D->Int->Prop}
structure Con2(K:W.Frag)(mg:Str->Option Value):Prop where
 c_MOST_CALLS:GC K mg "MOST_CALLS" (.int 20)
 c_MOST_SIZE:GC K mg "MOST_SIZE" (.int 100)
def S7(R:Str->D->Int->Prop):FT:=g2 λa b Y=>∃sh v n,a=.str sh/\b=v/\R sh v n/\Y (dv (.int n))
def Z91(C:Addr)(R:Str->D->Int->Prop):FTQ:=λd ds Y=>∃fns most s fs n rows sh v sz,d=msD C fns most s/\ds=[.str sh,v]/\s.frames=fs++[(n,rows)]/\s.steps.length<=10000/\s.ready.length<=10000/\zj v/\R sh v sz /\
 Y .non (msD C fns most (if 100<sz then {s with cut:=true} else match xa most n "make" s with
  |(true,s')=>{s' with ready:=s.ready++[v]}
  | (false,s')=>s'))
def Hl(T:Tops mg)(Z:Con2 K mg)(O:CO K C zk)(Ad:FM P w K mg base 2 C zk "own_step" ["self","kind"] (tOwn C))(j:FD P w K mg base 5 "size_of" ["shape","value"] (S7 R))(F:Fun K "make" "Run.make" (mth 15) f fd)(M:Meth K C "make" f):FM P w K mg base 6 C zk "make" ["self","shape","thing"] (Z91 C R):=by
 have S:zu ["self","shape","thing"] ["self","shape","thing"] (zd (mth 15)):=by walk_at "f"
 refine su F S (F.binds λ_ _ _ _ _ _ us hl=>(by obtain⟨_,_,_,rfl⟩:=Yx hl;rfl)) M (by decide) λqZ A outer s H E d0 ds Y hr hl hT=>?_
 have hu:=hr.units;refine⟨_,(y9 (wz (u9 (P7 (ya j (hr.e rfl) (za (z9 1) (za (z9 2) zb))) (Pd Z.c_MOST_SIZE))) (y9 (Vk O ye (yy u7))) (y9 (wz (ba (yk O Ad (hr.e rfl) (y7 zf x3))) (y9 (xr (xb O ye) (yy (z9 2)))) jd)))),?_⟩;obtain⟨fns,most,ms,fs,n,rows,I,v,sz,rfl,rfl,hf,hl1,N,B,hR,h⟩:=hT;unfold msD;refine⟨rfl,I,v,sz,rfl,rfl,hR,λq=>⟨trivial,_,_,rfl,rfl,by decide,_,rfl,?_⟩,λq=>⟨_,rfl,trivial,rfl,fns,most,ms,"make",fs,n,rows,rfl,rfl,hl1,hf,?_⟩⟩
 ·rw[if_pos (of_decide_eq_true q)]at h;exact h
 rw[if_neg (of_decide_eq_false q)]at h;have fv:frs2 (dv v):=by
  cases v <;> first|exact B|exact B.elim
 by_cases q2:most<=ms.steps.length
 ·have es:xa most n "make" ms=(false,{ms with cut:=true}):=by unfold xa;rw[if_pos q2]
  rw[es]at h ⊢;exact⟨λy=>(nomatch y),λ_=>⟨_,rfl,h⟩⟩
 have es:xa most n "make" ms=(true,{ms with steps:=ms.steps++[.tup [.int n,.str "make"]]}):=by unfold xa;rw[if_neg q2]
 rw[es]at h ⊢;exact⟨λ_=>⟨_,_,rfl,rfl,_,_,rfl,rfl,by show ms.ready.length<=100000;omega,fv,_,rfl,h⟩,λy=>(nomatch y)⟩
def Pj(v:D)(r:List D):ZZ.cutD (v::r) (some 1) none=r:=by
 unfold ZZ.cutD;simp[ZZ.sIx]
def jx(C:Addr):FTQ:=λd ds Y=>∃fns most s fs n rows,∃kd x:Str,∃b1 b2,d=msD C fns most s/\s.frames=fs++[(n,rows)]/\s.tasks.length<=10000/\zj b1/\zj b2/\rows.length<=900 /\
 ((∃bs th,ds=[.tup (.str kd::.str x::b1::bs),th]/\(th=.non\/th=.tup [])/\Y .non (msD C fns most {s with tasks:=s.tasks++[bdD b1]})) \/
  (∃h t:Str,∃v r,ds=[.tup [.str "list",.str x,b1,.str h,.str t,b2],.tup (v::r)]/\okD 150 (.tup (v::r))/\zj v/\zw r/\(rows.map Prod.fst++[h,t]).Nodup/\Y .non (msD C fns most {s with frames:=fs++[(n,rows++[(h,v),(t,.tup r)])],tasks:=s.tasks++[bdD b2]})) \/
  (∃l m r:Str,∃v1 v2 v3,ds=[.tup [.str "tree",.str x,b1,.str l,.str m,.str r,b2],.tup [v1,v2,v3]]/\okD 150 (.tup [v1,v2,v3])/\zj v1/\zj v2/\zj v3/\(rows.map Prod.fst++[l,m,r]).Nodup/\Y .non (msD C fns most {s with frames:=fs++[(n,rows++[(l,v1),(m,v2),(r,v3)])],tasks:=s.tasks++[bdD b2]})))
def Qu(T:Tops mg)(O:CO K C zk)(As:FM P w K mg base 1 C zk "stand" ["self","names","things"] (S6 C))(F:Fun K "follow" "Run.follow" (mth 10) f fd)(hm:Meth K C "follow" f):FM P w K mg base 2 C zk "follow" ["self","body","thing"] (jx C):=by
 have S:zu ["self","body","thing","parts"] ["self","body","thing"] (zd (mth 10)):=by walk_at "f"
 refine su F S (F.binds λ_ _ _ _ _ _ us hl=>(by obtain⟨_,_,_,rfl⟩:=Yx hl;rfl)) hm (by decide) λqZ A outer s H E d0 ds Y hr hl hT=>?_
 have hu:=hr.units;refine⟨_,(yh (wz (u9 (EW.et (uo (C3 (z9 2) vj) (um (C5 (ZZ.Room.far hr) (z9 2) (zi zb)))))) (yh (xr (xb O ye) (yy (zi (za zf (za (zg hu (z9 1) zc) zb)))))
    (y9 Ku)) jd)
   (yh (Vi 3 (by decide) S.nd (jr (xm hu (zg hu (z9 1) zc) zf) (zi (za (zg hu (z9 2) zc) (za (yj (z9 2) (yi zc) xg) zb))) (z9 2)))
   (yh (xi (yk O As (hr.e rfl) (y7 (yj (z9 1) (yi zc) (yi (qv zc))) (y7 (z9 3) x3))))
   (y9 (xr (xb O ye) (yy (zi (za zf (za (zg hu (z9 1) (qv zc)) zb))))))))),?_⟩
 obtain⟨fns,most,ms,fs,n,rows,kd,x,b1,b2,rfl,hf,hl1,p1,p2,B,h⟩:=hT;unfold msD;have q:okD 150 (.tup []):=by intro x h;cases h
 rcases h with⟨bs,th,rfl,ht,h⟩|⟨N,I,v,r,rfl,ok,pv,pr,nd,h⟩|⟨N,I,z3,v1,v2,v3,rfl,ok,a4,a0,Z,nd,h⟩
 ·refine y8 true (λM j=>?_) (λ_=>?_) nofun
  ·rcases ht with rfl|rfl
   ·exact⟨λ_=>j,nofun⟩
   exact⟨nofun,λ_=>⟨rfl,rfl,q,q,j⟩⟩
  walk_at "dl";exact⟨_,_,rfl,rfl,_,_,rfl,rfl,by show ms.tasks.length<=100000;omega,⟨trivial,p1,trivial⟩,_,rfl,h⟩
 ·refine w8 [_,_,_,none] (λJ hJ=>y8 false (λM j=>⟨nofun,λ_=>⟨rfl,rfl,ok,q,j⟩⟩) nofun λ_=>hJ) ?_;refine w8 [q_ (msD C fns most ms),q_ (.tup [.str "list",.str x,b1,.str N,.str I,b2]),q_ (.tup (v::r)),q_ (.tup [v,.tup r])] (λJ hJ=>?_) ?_
  ·refine cs ⟨λ_=>?_,nofun⟩;walk_at "dl";have ec:ZZ.cutD (v::r) (some 1) none=r:=Pj v r;rw[ec];exact⟨λy=>absurd y.1 (by unfold ZZ.sIx;simp),hJ⟩
  refine⟨_,rfl,λy=>(nomatch y.1),trivial,trivial,rfl,fns,most,ms,fs,n,rows,[N,I],[v,.tup r],rfl,rfl,hf,rfl,Nat.le_of_ble_eq_true rfl,B,nd,⟨pv,pr,trivial⟩,?_⟩;exact⟨_,_,rfl,rfl,_,_,rfl,rfl,by show ms.tasks.length<=100000;omega,rfl,rfl,⟨trivial,p2,trivial⟩,_,rfl,h⟩
 refine y8 false (λM j=>⟨nofun,λ_=>⟨rfl,rfl,ok,q,j⟩⟩) nofun (λ_=>?_);refine cs ⟨nofun,λ_=>⟨trivial,_,rfl,λy=>(nomatch y.1),trivial,trivial,rfl,fns,most,ms,fs,n,rows,[N,I,z3],[v1,v2,v3],rfl,rfl,hf,rfl,Nat.le_of_ble_eq_true rfl,B,nd,⟨a4,a0,Z,trivial⟩,?_⟩⟩;exact⟨_,_,rfl,rfl,_,_,rfl,rfl,by show ms.tasks.length<=100000;omega,rfl,rfl,⟨trivial,p2,trivial⟩,_,rfl,h⟩
def d7{v:D}(j:zj v):frs2 (dv v):=by
 cases v <;> first|exact j|exact j.elim
def Qw(T:Tops mg)(O:CO K C zk)(F:Fun K "behind" "Run.behind" (mth 8) f fd)(N:Meth K C "behind" f):FM P w K mg base 1 C zk "behind" ["self","parts","task"] (W0 C):=by
 have S:zu ["self","parts","task"] ["self","parts","task"] (zd (mth 8)):=by walk_at "f"
 refine su F S (F.binds λ_ _ _ _ _ _ us hl=>(by obtain⟨_,_,_,rfl⟩:=Yx hl;rfl)) N (by decide) λqZ A outer s H E d0 ds Y hr hl hT=>?_
 have hu:=hr.units;refine⟨_,(yh (xq (xr (xb O ye) (yy (z9 2))))
   (y9 (xq (Kw (xb O ye) (rz (T:=["part"]) (F:=[]) (js:=[]) (Xh T.reversed (za (z9 1) zb)) (show y4 (zd (mth 8)) _ ["part"] [] from by walk_at "c") .nil (by decide) (by walk_at "t") (yn (by decide)) (yr 0) (λcl C fp s H=>xx) (λcl C fp s H=>(zi (za zf (za (z9 0) zb))))))))),?_⟩
 obtain⟨fns,most,ms,es,t,rfl,rfl,hl1,q,pt,Z,h⟩:=hT;have ft:frs2 (dv t):=d7 pt;refine x9 (λU=>U=[q_ (msD C fns most {ms with tasks:=ms.tasks++[t]}),q_ (.tup es),q_ t]) ?_ ?_
 ·unfold msD;exact⟨_,_,rfl,rfl,_,_,rfl,rfl,by show ms.tasks.length<=100000;omega,ft,rfl⟩
 rintro _ rfl;refine⟨λU=>∃d',slot U 0=q_ d'/\Y .non d',?_,λ_ y=>y⟩;unfold msD;simp only[Kz,pFld,Jg,slot,List.getElem?_cons_zero,ix5];refine⟨_,_,rfl,rfl,_,_,rfl,rfl,by show(ms.tasks++[t]).length<=100000;rw[zLa];simp;omega,?_⟩
 refine wr es.reverse ?_ (λd=>some (vlD d)) (by rw[List.length_reverse];omega) ?_ ?_
 ·intro M j;unfold iBT;exact⟨trivial,j⟩
 ·intro d hd;unfold ρ0;walk_at "dl";rfl
 have ef:es.reverse.filterMap (λd=>some (vlD d))=es.reverse.map vlD:=by rw[<- List.filterMap_eq_map];rfl
 rw[ef];refine⟨?_,by rw[zLm,List.length_reverse];omega,_,rfl,?_⟩
 ·refine yd.mpr λx I=>?_;obtain⟨y,B,rfl⟩:=zah.mp I;exact⟨trivial,yd.mp q y (List.mem_reverse.mp B),trivial⟩
 exact h
def Xx(C:Addr):FT:=λds Y=>∃fns most s z fs n rows v,ds=[msD C fns most s,.str z]/\s.frames=fs++[(n,rows)]/\rowG rows z=some v/\zj v/\Y (dv v)
def Xb(T:Tops mg)(O:CO K C zk)(F:Fun K "standing" "Run.standing" (mth 5) f fd)(B:Meth K C "standing" f):FMD P w K mg base 1 C zk "standing" ["self","name"] (Xx C):=by
 have S:zu ["self","name"] ["self","name"] (zd (mth 5)):=by walk_at "f"
 refine C1 F S (F.binds λ_ _ _ _ _ _ us hl=>(by obtain⟨_,_,rfl⟩:=uw hl;rfl)) B (by decide) λqZ A outer s H E ds Y hr hl hT=>?_
 have hu:=hr.units;refine⟨_,(zy (yg (zg hu (zg hu (zg hu (va O (z9 0)) (qv zc)) zc) (z9 1)))),?_⟩;obtain⟨fns,most,ms,z,fs,n,rows,v,rfl,I,q,j,h⟩:=hT;unfold msD;rw[I,zMa,List.map_cons,List.map_nil];simp only[frD];walk_at "dl";unfold dkD;simp only[gw,q];exact⟨j,h⟩
def apD(e:D):D:=.tup [.str "apply",e]
def tVal(C:Addr):FTQ:=λd ds Y=>∃fns most s,d=msD C fns most s/\s.tasks.length<=10000/\s.ready.length<=10000 /\
 ((∃v,ds=[.tup [.str "num",v]]/\zj v/\Y .non (msD C fns most {s with ready:=s.ready++[v]})) \/
  (∃fs n rows z v,ds=[.tup [.str "var",.str z]]/\s.frames=fs++[(n,rows)]/\rowG rows z=some v/\zj v/\Y .non (msD C fns most {s with ready:=s.ready++[v]})) \/
  (ds=[.tup [.str "nil"]]/\Y .non (msD C fns most {s with ready:=s.ready++[.tup []]})) \/
  (ds=[.tup [.str "leaf"]]/\Y .non (msD C fns most {s with ready:=s.ready++[.non]})) \/
  (∃f es,ds=[.tup [.str "call",f,.tup es]]/\es.length<=100/\zj f/\zw es/\Y .non (msD C fns most {s with tasks:=s.tasks++[apD (.tup [.str "call",f,.tup es])]++es.reverse.map vlD})) \/
  (∃kd:Str,∃es,ds=[.tup (.str kd::es)]/\(kd = "cons"\/kd = "node"\/kd = "add"\/kd = "sub")/\es.length<=100/\zw es/\Y .non (msD C fns most {s with tasks:=s.tasks++[apD (.tup (.str kd::es))]++es.reverse.map vlD})))
def Yh{d:D}{ds:List D}{Y M:D->D->Prop}(h:jx C d ds Y)(k:∀ d,Y .non d->M .non d):jx C d ds M:=by
 obtain⟨fns,most,ms,fs,n,rows,kd,x,b1,b2,e,hf,hl1,p1,p2,a0,h⟩:=h;refine⟨fns,most,ms,fs,n,rows,kd,x,b1,b2,e,hf,hl1,p1,p2,a0,?_⟩;rcases h with⟨bs,th,e,ht,h⟩|⟨q,j,v,r,e,ok,pv,pr,Z,h⟩|⟨q,j,z3,v1,v2,v3,e,ok,N,I,B,Z,h⟩
 ·exact .inl ⟨bs,th,e,ht,k _ h⟩
 ·exact .inr (.inl ⟨q,j,v,r,e,ok,pv,pr,Z,k _ h⟩)
 exact .inr (.inr ⟨q,j,z3,v1,v2,v3,e,ok,N,I,B,Z,k _ h⟩)
def brD(b:D):D:=.tup [.str "bring",b]
def chD(b:D):D:=.tup [.str "choose",b]
def Kg(C:Addr):FTQ:=λd ds Y=>∃fns most s,d=msD C fns most s/\s.tasks.length<=10000 /\
 ((∃e,ds=[.tup [.str "give",e]]/\zj e/\Y .non (msD C fns most {s with tasks:=s.tasks++[vlD e]})) \/
  (∃z e b,ds=[.tup [.str "let",z,e,b]]/\zj z/\zj e/\zj b/\Y .non (msD C fns most {s with tasks:=s.tasks++[brD (.tup [.str "let",z,e,b])]++[vlD e]})) \/
  (∃e1 e2 b1 b2,ds=[.tup [.str "less",e1,e2,b1,b2]]/\zj e1/\zj e2/\zj b1/\zj b2/\Y .non (msD C fns most {s with tasks:=s.tasks++[chD (.tup [.str "less",e1,e2,b1,b2])]++[vlD e2,vlD e1]})) \/
  (∃kd x:Str,∃bs fs n rows th,ds=[.tup (.str kd::.str x::bs)]/\(kd = "list"\/kd = "tree")/\s.frames=fs++[(n,rows)]/\s.steps.length<=10000/\rowG rows x=some th/\zj th /\
    (match xa most n "open" s with
   |(true,s')=>jx C (msD C fns most s') [.tup (.str kd::.str x::bs),th] Y
   | (false,s')=>Y .non (msD C fns most s'))))
def du(T:Tops mg)(O:CO K C zk)(Z:FM P w K mg base 1 C zk "behind" ["self","parts","task"] (W0 C))(Ak:FMD P w K mg base 1 C zk "standing" ["self","name"] (Xx C))(F:Fun K "begin_value" "Run.begin_value" (mth 13) f fd)(hm:Meth K C "begin_value" f):FM P w K mg base 2 C zk "begin_value" ["self","expression"] (tVal C):=by
 have S:zu ["self","expression","kind"] ["self","expression"] (zd (mth 13)):=by walk_at "f"
 refine su F S (F.binds λ_ _ _ _ _ _ us hl=>(by obtain⟨_,_,rfl⟩:=uw hl;rfl)) hm (by decide) λqZ A outer s H E d0 ds Y hr hl hT=>?_
 have hu:=hr.units;refine⟨_,(yh (Vi 2 (by decide) S.nd (zg hu (z9 1) zc))
   (y9 (wz (u9 (xm hu (z9 2) zf)) (y9 (xr (xb O ye) (yy (zg hu (z9 1) zc)))) (y9 (wz (u9 (xm hu (z9 2) zf)) (y9 (xr (xb O ye) (yy (Pc O Ak (hr.e rfl) (z9 0) (za (zg hu (z9 1) zc) zb))))) (y9 (wz (u9 (xm hu (z9 2) zf)) (y9 (xr (xb O ye) (yy (zi zb)))) (y9 (wz (u9 (xm hu (z9 2) zf)) (y9 (xr (xb O ye) (yy vj))) (y9 (wz (u9 (xm hu (z9 2) zf)) (y9 (xi (yk O Z (hr.e rfl) (y7 (zg hu (z9 1) zc) (y7 (zi (za zf (za (z9 1) zb))) x3))))) (y9 (xi (yk O Z (hr.e rfl) (y7 (yj (z9 1) (yi zc) xg) (y7 (zi (za zf (za (z9 1) zb))) x3)))))))))))))))),?_⟩
 obtain⟨fns,most,ms,rfl,hl1,a0,h⟩:=hT;unfold msD;rcases h with⟨v,rfl,N,h⟩|⟨fs,n,rows,z,v,rfl,hf,hv,N,h⟩|⟨rfl,h⟩|⟨rfl,h⟩|⟨ff,es,rfl,q,pf,B,h⟩|⟨I,es,rfl,hk,q,B,h⟩
 ·refine w8 [_,_,q_ (.str _)] (λJ j=>⟨trivial,j⟩) (y8 true (λ_=>cs) (λ_=>?_) nofun);exact⟨_,_,rfl,rfl,_,_,rfl,rfl,by show ms.ready.length<=100000;omega,d7 N,_,rfl,h⟩
 ·refine w8 [_,_,q_ (.str _)] (λJ j=>⟨trivial,j⟩) (y8 false (λ_=>cs) nofun λ_=>y8 true (λ_=>cs) (λ_=>?_) nofun);exact⟨_,_,rfl,rfl,_,_,rfl,rfl,by show ms.ready.length<=100000;omega,⟨_,rfl⟩,rfl,fns,most,ms,z,fs,n,rows,v,rfl,hf,hv,N,d7 N,_,rfl,h⟩
 ·refine w8 [_,_,q_ (.str _)] (λJ j=>⟨trivial,j⟩) (y8 false (λ_=>cs) nofun λ_=>y8 false (λ_=>cs) nofun λ_=>y8 true (λ_=>cs) (λ_=>?_) nofun);exact⟨_,_,rfl,rfl,_,_,rfl,rfl,by show ms.ready.length<=100000;omega,rfl,rfl,trivial,_,rfl,h⟩
 ·refine w8 [_,_,q_ (.str _)] (λJ j=>⟨trivial,j⟩) (y8 false (λ_=>cs) nofun λ_=>y8 false (λ_=>cs) nofun λ_=>y8 false (λ_=>cs) nofun λ_=>y8 true (λ_=>cs) (λ_=>?_) nofun);exact⟨_,_,rfl,rfl,_,_,rfl,rfl,by show ms.ready.length<=100000;omega,trivial,_,rfl,h⟩
 ·refine w8 [_,_,q_ (.str _)] (λJ j=>⟨trivial,j⟩) (y8 false (λ_=>cs) nofun λ_=>y8 false (λ_=>cs) nofun λ_=>y8 false (λ_=>cs) nofun λ_=>y8 false (λ_=>cs) nofun λ_=>y8 true (λ_=>cs) (λ_=>?_) nofun);exact⟨_,rfl,trivial,rfl,rfl,trivial,rfl,fns,most,ms,es,apD _,rfl,rfl,q,B,⟨trivial,⟨trivial,pf,B,trivial⟩,trivial⟩,hl1,_,rfl,h⟩
 have M:I≠"num"/\I≠"var"/\I≠"nil"/\I≠"leaf"/\I≠"call":=by rcases hk with rfl|rfl|rfl|rfl <;> decide
 refine w8 [_,_,q_ (.str _)] (λJ j=>by walk_at "dl";exact j) (y8 false (λ_=>cn M.1) nofun λ_=>y8 false (λ_=>cn M.2.1) nofun λ_=>y8 false (λ_=>cn M.2.2.1) nofun λ_=>y8 false (λ_=>cn M.2.2.2.1) nofun λ_=>y8 false (λ_=>cn M.2.2.2.2) nofun λ_=>?_)
 walk_at "dl";rw[Pj];refine⟨_,rfl,⟨λy=>absurd y.1 (by unfold ZZ.sIx;simp),?_⟩⟩
 refine⟨fns,most,ms,es,apD _,rfl,rfl,q,B,⟨trivial,⟨trivial,B⟩,trivial⟩,hl1,?_⟩;exact⟨_,rfl,h⟩
def Zz(T:Tops mg)(O:CO K C zk)(Am:FM P w K mg base 1 C zk "behind" ["self","parts","task"] (W0 C))(Ad:FM P w K mg base 2 C zk "own_step" ["self","kind"] (tOwn C))(M:FM P w K mg base 2 C zk "follow" ["self","body","thing"] (jx C))(Ak:FMD P w K mg base 1 C zk "standing" ["self","name"] (Xx C))(F:Fun K "begin_body" "Run.begin_body" (mth 9) f fd)(hm:Meth K C "begin_body" f):FM P w K mg base 3 C zk "begin_body" ["self","body"] (Kg C):=by
 have S:zu ["self","body","kind"] ["self","body"] (zd (mth 9)):=by walk_at "f"
 refine su F S (F.binds λ_ _ _ _ _ _ us hl=>(by obtain⟨_,_,rfl⟩:=uw hl;rfl)) hm (by decide) λqZ A outer s H E d0 ds Y hr hl hT=>?_
 have hu:=hr.units;refine⟨_,(yh (Vi 2 (by decide) S.nd (zg hu (z9 1) zc))
   (y9 (wz (u9 (xm hu (z9 2) zf)) (y9 (xr (xb O ye) (yy (zi (za zf (za (zg hu (z9 1) zc) zb)))))) (y9 (wz (u9 (xm hu (z9 2) zf)) (y9 (xi (yk O Am (hr.e rfl) (y7 (yj (z9 1) (yi zc) (yi zc)) (y7 (zi (za zf (za (z9 1) zb))) x3))))) (y9 (wz (u9 (xm hu (z9 2) zf)) (y9 (xi (yk O Am (hr.e rfl) (y7 (yj (z9 1) (yi zc) (yi zc)) (y7 (zi (za zf (za (z9 1) zb))) x3))))) (y9 (wz (ba (yk O Ad (hr.e rfl) (y7 zf x3))) (y9 (xi (yk O M (hr.e rfl) (y7 (z9 1) (gd (Xg (Pc O Ak (hr.e rfl) (z9 0) (za (zg hu (z9 1) zc) zb))) x3))))) jd))))))))),?_⟩
 obtain⟨fns,most,ms,rfl,hl1,h⟩:=hT;unfold msD;rcases h with⟨v,rfl,B,h⟩|⟨z,e,b,rfl,I,p2,N,h⟩|⟨e1,e2,b1,b2,rfl,I,p2,N,p4,h⟩|⟨Z,x,bs,fs,n,rows,th,rfl,hk,hf,a0,hv,B,h⟩
 ·refine w8 [_,_,q_ (.str _)] (λJ j=>⟨trivial,j⟩) (y8 true (λ_=>cs) (λ_=>?_) nofun);exact⟨_,_,rfl,rfl,_,_,rfl,rfl,by show ms.tasks.length<=100000;omega,rfl,rfl,⟨trivial,B,trivial⟩,_,rfl,h⟩
 ·refine w8 [_,_,q_ (.str _)] (λJ j=>⟨trivial,j⟩) (y8 false (λ_=>cs) nofun λ_=>y8 true (λ_=>cs) (λ_=>?_) nofun);exact⟨_,rfl,λy=>(nomatch y.1),trivial,rfl,rfl,trivial,rfl,fns,most,ms,[e],brD _,rfl,rfl,Nat.le_of_ble_eq_true rfl,⟨p2,trivial⟩,⟨trivial,⟨trivial,I,p2,N,trivial⟩,trivial⟩,hl1,_,rfl,h⟩
 ·refine w8 [_,_,q_ (.str _)] (λJ j=>⟨trivial,j⟩) (y8 false (λ_=>cs) nofun λ_=>y8 false (λ_=>cs) nofun λ_=>y8 true (λ_=>cs) (λ_=>?_) nofun);exact⟨_,rfl,λy=>(nomatch y.1),trivial,rfl,rfl,trivial,rfl,fns,most,ms,[e1,e2],chD _,rfl,rfl,Nat.le_of_ble_eq_true rfl,⟨I,p2,trivial⟩,⟨trivial,⟨trivial,I,p2,N,p4,trivial⟩,trivial⟩,hl1,_,rfl,h⟩
 have hn:Z≠"give"/\Z≠"let"/\Z≠"less":=by rcases hk with rfl|rfl <;> decide
 refine w8 [_,_,q_ (.str _)] (λJ j=>by walk_at "dl";exact j) (y8 false (λ_=>cn hn.1) nofun λ_=>y8 false (λ_=>cn hn.2.1) nofun λ_=>y8 false (λ_=>cn hn.2.2) nofun λ_=>?_)
 walk_at "dl";refine⟨_,rfl,fns,most,ms,"open",fs,n,rows,rfl,rfl,a0,hf,?_⟩;by_cases q:most<=ms.steps.length
 ·have es:xa most n "open" ms=(false,{ms with cut:=true}):=by unfold xa;rw[if_pos q]
  rw[es]at h ⊢;exact⟨λy=>(nomatch y),λ_=>⟨_,rfl,h⟩⟩
 have es:xa most n "open" ms=(true,{ms with steps:=ms.steps++[.tup [.int n,.str "open"]]}):=by unfold xa;rw[if_neg q]
 rw[es]at h ⊢;refine⟨λ_=>?_,λy=>(nomatch y)⟩;refine⟨_,rfl,⟨_,rfl⟩,fns,most,{ms with steps:=ms.steps++[.tup [.int n,.str "open"]]},x,fs,n,rows,th,rfl,hf,hv,B,B,?_⟩;exact Yh h λd hd=>⟨_,rfl,hd⟩
def pmD(ps:List (Str×D)):D:=.tup (ps.map λp=>.tup [.str p.1,p.2])
def upD(fs:List (Int×List (Str×D))):D:=match fs.getLast? with
 |some p=>.int p.1
 |none=>.non
def rg(most:Int)(q:Str)(j:List D)(ps:List (Str×D))(b:D)(s:MS):MS:=if 20<=s.frames.length then {s with cut:=true} else match xa most s.calls.length "call" s with
 |(true,s')=>{s' with calls:=s.calls++[.tup [.str q,.tup j,upD s.frames,.bl false,.non]],frames:=s.frames++[((s.calls.length:Int),(ps.map Prod.fst).zip j)],tasks:=s.tasks++[.tup [.str "leave"]]++[bdD b]}
 |(false,s')=>s'
def cm(C:Addr):FTQ:=λd ds Y=>∃fns most s,∃nm:Str,∃as:List D,∃n0 ps sz b,d=msD C fns most s/\ds=[.str nm,.tup as]/\rowG fns nm=some (.tup [n0,pmD ps,sz,b])/\zj n0/\zw (ps.map Prod.snd)/\zj sz/\zj b/\zw as/\ps.length=as.length/\as.length<=10/\(ps.map Prod.fst).Nodup/\s.steps.length<=10000/\s.calls.length<=10000/\s.tasks.length<=10000 /\
 Y .non (msD C fns most (rg most nm as ps b s))
def Se(C:Addr)(R:Str->D->Int->Prop):FTQ:=λd ds Y=>∃fns most s rs,d=msD C fns most s/\s.ready.length<=10000/\zw rs /\
 ((∃nm:Str,∃es us,ds=[.tup [.str "call",.str nm,.tup es]]/\s.ready=rs++us/\us.length=es.length/\us≠[]/\us.length<=10/\zw us/\cm C (msD C fns most {s with ready:=rs}) [.str nm,.tup us] Y) \/
  (∃e1 e2 v r,ds=[.tup [.str "cons",e1,e2]]/\s.ready=rs++[v,.tup r]/\zj v/\zw r/\r.length<=10000/\Z91 C R (msD C fns most {s with ready:=rs}) [.str "list",.tup (v::r)] Y) \/
  (∃e1 e2 e3 v1 v2 v3,ds=[.tup [.str "node",e1,e2,e3]]/\s.ready=rs++[v1,v2,v3]/\zj v1/\zj v2/\zj v3/\Z91 C R (msD C fns most {s with ready:=rs}) [.str "tree",.tup [v1,v2,v3]] Y) \/
  (∃(kd:Str),∃e1 e2,∃x y:Int,∃fs n rows,ds=[.tup [.str kd,e1,e2]]/\(kd = "add"\/kd = "sub")/\s.frames=fs++[(n,rows)]/\s.steps.length<=10000/\s.ready=rs++[.int x,.int y] /\
    Y .non (msD C fns most (match xa most n "sum" s with
   |(true,s')=>{s' with ready:=rs++[.int (if kd = "add" then x+y else x-y)]}
   | (false,s')=>s'))))
def Xy{d:D}{ds:List D}{Y M:D->D->Prop}(h:cm C d ds Y)(k:∀ d,Y .non d->M .non d):cm C d ds M:=by
 obtain⟨fns,most,s,Z,as,n0,ps,sz,b,h1,h2,h3,h4,h5,h6,h7,h8,h9,N,I,B,q,j,h⟩:=h;exact⟨fns,most,s,Z,as,n0,ps,sz,b,h1,h2,h3,h4,h5,h6,h7,h8,h9,N,I,B,q,j,k _ h⟩
def ck{d:D}{ds:List D}{Y M:D->D->Prop}(h:Z91 C R d ds Y)(k:∀ d,Y .non d->M .non d):Z91 C R d ds M:=by
 obtain⟨fns,most,s,fs,n,rows,j,v,sz,h1,h2,Z,N,I,B,q,h⟩:=h;exact⟨fns,most,s,fs,n,rows,j,v,sz,h1,h2,Z,N,I,B,q,k _ h⟩
def M2(T:Tops mg)(Z:Con2 K mg)(O:CO K C zk)(Az:FM P w K mg base 1 C zk "step" ["self","number","kind"] (Tz1 C))(F:Fun K "enter" "Run.enter" (mth 16) f fd)(hm:Meth K C "enter" f):FM P w K mg base 2 C zk "enter" ["self","name","args"] (cm C):=by
 have S:zu ["self","name","args","number","up","function"] ["self","name","args"] (zd (mth 16)):=by walk_at "f"
 refine su F S (F.binds λ_ _ _ _ _ _ us hl=>(by obtain⟨_,_,_,rfl⟩:=Yx hl;rfl)) hm (by decide) λqZ A outer s H E d0 ds Y hr hl hT=>?_
 have hu:=hr.units;refine⟨_,(yh (xq (k9 3 (by decide) S.nd (Xg (yu T.len (za (va O (z9 0)) zb)))))
   (y9 (xq (wz (u9 (P8 (yu T.len (za (va O (z9 0)) zb)) (Pd Z.c_MOST_CALLS))) (y9 (xq (Vk O ye (yy u7)))) (y9 (xq (wz (ba (yk O Az (hr.e rfl) (y7 (z9 3) (y7 zf x3)))) (yh (xq (k9 4 (by decide) S.nd (Xg (jr (w6 (va O (z9 0))) (zg hu (zg hu (va O (z9 0)) (qv zc)) zc) vj))))
     (yh (xq (k9 5 (by decide) S.nd (Xg (zg hu (va O (z9 0)) (z9 1)))))
     (yh (xq (xr (xb O ye) (yy (zi (za (z9 1) (za (z9 2) (za (z9 4) (za u7 (za vj zb)))))))))
     (yh (xq (xr (xb O ye) (C9 (U7 (yy (z9 3)) (U7 (yy (Ua T.dict T.zip (za (rz (T:=["param","shape"]) (F:=[]) (js:=[]) (wg (zg hu (z9 5) zc)) (show y4 (zd (mth 16)) _ ["param","shape"] [] from by walk_at "c") .nil (by decide) (by walk_at "t") (fu (wn x6 (rn x6 ud) (yn (by decide)) (wn x6 ud (yn (by decide)) d6))) (tu 0 1) (λcl C fp s H=>xx) (λcl C fp s H=>(z9 0))) (za (z9 2) zb)))) Hv)))))
     (yh (xq (xr (xb O ye) (yy (zi (za zf zb)))))
     (y9 (xq (xr (xb O ye) (yy (zi (za zf (za (zg hu (z9 5) zc) zb)))))))))))) jd))))))),?_⟩
 obtain⟨fns,most,ms,B,j,I,ps,sz,b,rfl,rfl,hf,p1,p2,p3,p4,p5,hl,a7,nd,a4,a6,a5,h⟩:=hT;refine x9 (λU=>U=[q_ (msD C fns most ms),q_ (.str B),q_ (.tup j),q_ (.int ms.calls.length),none,none]) ?_ ?_
 ·exact⟨rfl,rfl,trivial,rfl⟩
 rintro _ rfl;refine⟨λU=>∃d',slot U 0=q_ d'/\Y .non d',?_,λ_ y=>y⟩;unfold msD;refine⟨rfl,rfl,λq=>⟨λU=>∃d',slot U 0=q_ d'/\Y .non d',?_,λ_ y=>y⟩,λq=>⟨λU=>∃d',slot U 0=q_ d'/\Y .non d',?_,λ_ y=>y⟩⟩
 ·unfold rg at h;rw[if_pos (by have z:=of_decide_eq_true q;rw[zLm]at z;omega)]at h
  exact⟨trivial,_,_,rfl,rfl,by decide,_,rfl,h⟩
 unfold rg at h;have q:¬ 20<=ms.frames.length:=by have z:=of_decide_eq_false q;rw[zLm]at z;omega
 rw[if_neg q]at h;refine⟨_,rfl,trivial,trivial,rfl,fns,most,ms,ms.calls.length,"call",rfl,rfl,a4,?_⟩;by_cases q2:most<=ms.steps.length
 ·have es:xa most ms.calls.length "call" ms=(false,{ms with cut:=true}):=by unfold xa;rw[if_pos q2]
  rw[es]at h ⊢;exact⟨λy=>(nomatch y),λ_=>⟨_,rfl,h⟩⟩
 have es:xa most ms.calls.length "call" ms=(true,{ms with steps:=ms.steps++[.tup [.int ms.calls.length,.str "call"]]}):=by unfold xa;rw[if_neg q2]
 rw[es]at h ⊢;refine⟨λ_=>?_,λy=>(nomatch y)⟩;generalize e1:({ms with steps:=ms.steps++[.tup [.int ms.calls.length,.str "call"]]}:MS)=s1 at h ⊢;have f1:s1.frames=ms.frames:=by rw[<- e1]
 have f2:s1.calls=ms.calls:=by rw[<- e1]
 have f3:s1.tasks=ms.tasks:=by rw[<- e1]
 refine x9 (λU=>U=[q_ (msD C fns most s1),q_ (.str B),q_ (.tup j),q_ (.int ms.calls.length),q_ (upD ms.frames),none]) ?_ ?_
 ·unfold msD;rw[f1];rcases List.eq_nil_or_concat ms.frames with e|⟨fs,p,e⟩
  ·rw[e];exact⟨rfl,rfl,λz=>(nomatch z),λ_=>⟨trivial,rfl⟩⟩
  obtain⟨pn,pr⟩:=p;rw[e,List.concat_eq_append,zMa];have eu:upD (fs++[(pn,pr)])=.int pn:=by unfold upD;simp
  rw[eu];simp only[frD,List.map_cons,List.map_nil];walk_at "dl";exact λz=>absurd z (by simp)
 rintro _ rfl;have N:zj (pmD ps):=yd.mpr λx hx=>by
  obtain⟨y,hy,rfl⟩:=zah.mp hx;exact⟨trivial,yd.mp p2 _ (zah.mpr ⟨y,hy,rfl⟩),trivial⟩
 refine x9 (λU=>U=[q_ (msD C fns most s1),q_ (.str B),q_ (.tup j),q_ (.int ms.calls.length),q_ (upD ms.frames),q_ (.tup [I,pmD ps,sz,b])]) ?_ ?_
 ·unfold msD;walk_at "dl";unfold dkD;simp only[gw,hf];exact⟨⟨p1,N,p3,p4,trivial⟩,trivial⟩
 rintro _ rfl;have pu:zj (upD ms.frames):=by unfold upD;split <;> trivial
 refine x9 (λU=>U=[q_ (msD C fns most {s1 with calls:=ms.calls++[.tup [.str B,.tup j,upD ms.frames,.bl false,.non]]}),q_ (.str B),q_ (.tup j),q_ (.int ms.calls.length),q_ (upD ms.frames),q_ (.tup [I,pmD ps,sz,b])]) ?_ ?_
 ·unfold msD;exact⟨_,_,rfl,rfl,_,_,rfl,rfl,by show s1.calls.length<=100000;rw[f2];omega,rfl,rfl,⟨trivial,p5,pu,trivial,trivial,trivial⟩,by rw[f2];rfl⟩
 rintro _ rfl;refine x9 (λU=>U=[q_ (msD C fns most {s1 with calls:=ms.calls++[.tup [.str B,.tup j,upD ms.frames,.bl false,.non]],frames:=ms.frames++[((ms.calls.length:Int),(ps.map Prod.fst).zip j)]}),q_ (.str B),q_ (.tup j),q_ (.int ms.calls.length),q_ (upD ms.frames),q_ (.tup [I,pmD ps,sz,b])]) ?_ ?_
 ·unfold msD;walk_at "dl";refine⟨_,_,rfl,rfl,_,_,rfl,rfl,by show(s1.frames.map frD).length<=100000;rw[zLm,f1];omega,trivial,?_⟩
  refine wr (ps.map λp=>.tup [.str p.1,p.2]) ?_ (λd=>match d with|.tup [a,_]=>some a|_=>none) (by rw[zLm];omega) ?_ ?_
  ·intro M a0;unfold pmD;exact⟨trivial,a0⟩
  ·intro d hd;obtain⟨y,hy,rfl⟩:=zah.mp hd;unfold ρ0;walk_at "dl"
  have ef:(ps.map λp=>D.tup [.str p.1,p.2]).filterMap (λd=>match d with|.tup [a,_]=>some a|_=>none)=(ps.map Prod.fst).map D.str:=by
   rw[List.filterMap_map,List.map_map,<- List.filterMap_eq_map];rfl
  rw[ef];have lp:(ps.map Prod.fst).length=j.length:=by rw[zLm];exact hl
  have e5:(ms.frames++[((ms.calls.length:Int),(ps.map Prod.fst).zip j)]).map frD=s1.frames.map frD++[D.tup [.int ms.calls.length,.dk ((ps.map Prod.fst).map Sum.inr) j]]:=by
   rw[zMa,f1];show _++[D.tup [.int ms.calls.length,dkD ((ps.map Prod.fst).zip j)]]=_;unfold dkD;rw[<- Z3 _ _ lp,vt1 lp]
  refine⟨ps.map Prod.fst,j,⟨.inl rfl,.inr rfl⟩,lp,by omega,nd,p5,?_⟩
  rw[e5];rfl
 rintro _ rfl;refine x9 (λU=>U=[q_ (msD C fns most {s1 with calls:=ms.calls++[.tup [.str B,.tup j,upD ms.frames,.bl false,.non]],frames:=ms.frames++[((ms.calls.length:Int),(ps.map Prod.fst).zip j)],tasks:=ms.tasks++[.tup [.str "leave"]]}),q_ (.str B),q_ (.tup j),q_ (.int ms.calls.length),q_ (upD ms.frames),q_ (.tup [I,pmD ps,sz,b])]) ?_ ?_
 ·unfold msD;exact⟨_,_,rfl,rfl,_,_,rfl,rfl,by show s1.tasks.length<=100000;rw[f3];omega,rfl,rfl,⟨trivial,trivial⟩,by rw[f3];rfl⟩
 rintro _ rfl;refine⟨λU=>∃d',slot U 0=q_ d'/\Y .non d',?_,λ_ y=>y⟩;have ea:atI [I,pmD ps,sz,b] (3:Int)=some b:=wu (by decide) rfl
 unfold msD;walk_at "dl";rw[ea];exact⟨_,_,rfl,rfl,_,_,rfl,rfl,by show(ms.tasks++[D.tup [D.str "leave"]]).length<=100000;rw[zLa];simp only[zLc,zLn];omega,⟨trivial,p4,trivial⟩,_,rfl,h⟩
def M4(T:Tops mg)(O:CO K C zk)(Au:FM P w K mg base 2 C zk "enter" ["self","name","args"] (cm C))(Aj:FM P w K mg base 1 C zk "taken" ["self","many"] (V8 C))(N:FM P w K mg base 6 C zk "make" ["self","shape","thing"] (Z91 C R))(Ad:FM P w K mg base 2 C zk "own_step" ["self","kind"] (tOwn C))(F:Fun K "apply" "Run.apply" (mth 14) f fd)(hm:Meth K C "apply" f):FM P w K mg base 7 C zk "apply" ["self","expression"] (Se C R):=by
 have S:zu ["self","expression","kind","parts"] ["self","expression"] (zd (mth 14)):=by walk_at "f"
 refine su F S (F.binds λ_ _ _ _ _ _ us hl=>(by obtain⟨_,_,rfl⟩:=uw hl;rfl)) hm (by decide) λqZ A outer s H E d0 ds Y hr hl hT=>?_
 have hu:=hr.units;refine⟨_,(yh (Vi 2 (by decide) S.nd (zg hu (z9 1) zc))
   (y9 (wz (u9 (xm hu (z9 2) zf)) (y9 (xi (yk O Au (hr.e rfl) (y7 (zg hu (z9 1) zc) (gd (yk O Aj (hr.e rfl) (y7 (yu T.len (za (zg hu (z9 1) zc) zb)) x3)) x3))))) (y9 (wz (u9 (xm hu (z9 2) zf)) (yh (k9 3 (by decide) S.nd (yk O Aj (hr.e rfl) (y7 zc x3)))
     (y9 (xi (yk O N (hr.e rfl) (y7 zf (y7 (Hz (zi (za (zg hu (z9 3) zc) zb)) (zg hu (z9 3) zc)) x3)))))) (y9 (wz (u9 (xm hu (z9 2) zf)) (y9 (xi (yk O N (hr.e rfl) (y7 zf (gd (yk O Aj (hr.e rfl) (y7 zc x3)) x3))))) (y9 (wz (ba (yk O Ad (hr.e rfl) (y7 zf x3))) (yh (k9 3 (by decide) S.nd (yk O Aj (hr.e rfl) (y7 zc x3)))
       (y9 (xr (xb O ye) (yy (jr (xm hu (z9 2) zf) (x5 (zg hu (z9 3) zc) (zg hu (z9 3) zc)) (U8 (zg hu (z9 3) zc) (zg hu (z9 3) zc))))))) jd))))))))),?_⟩
 obtain⟨fns,most,ms,rs,rfl,hl1,B,h⟩:=hT;unfold msD;rcases h with⟨nm,es,us,rfl,j,I,ne,a6,pu,h⟩|⟨e1,e2,v,r,rfl,j,pv,pr,I,h⟩|⟨e1,e2,e3,v1,v2,v3,rfl,j,a5,a4,a0,h⟩|⟨kd,e1,e2,x,y,fs,n,rows,rfl,hk,hf,I,j,h⟩
 ·refine w8 [_,_,q_ (.str _),none] (λJ M=>⟨trivial,M⟩) (y8 true (λ_=>cs) (λ_=>?_) nofun);exact⟨_,rfl,trivial,_,rfl,trivial,rfl,fns,most,ms,rs,us,rfl,by rw[I],j,ne,a6,pu,B,hl1,rfl,Xy h λd Z=>⟨_,rfl,Z⟩⟩
 ·refine w8 [_,_,q_ (.str _),none] (λJ M=>⟨trivial,M⟩) (y8 false (λ_=>cs) nofun λ_=>y8 true (λ_=>cs) (λ_=>?_) nofun);refine⟨_,rfl,trivial,rfl,fns,most,ms,rs,[v,.tup r],rfl,rfl,j,nofun,Nat.le_of_ble_eq_true rfl,⟨pv,pr,trivial⟩,B,hl1,_,rfl,trivial,rfl,rfl,⟨pv,trivial⟩,pr,by rw[sizeLine_eq];show 1+r.length<=_;omega,trivial,rfl,ck h λd Z=>⟨_,rfl,Z⟩⟩
 ·refine w8 [_,_,q_ (.str _),none] (λJ M=>⟨trivial,M⟩) (y8 false (λ_=>cs) nofun λ_=>y8 false (λ_=>cs) nofun λ_=>y8 true (λ_=>cs) (λ_=>?_) nofun);exact⟨_,rfl,trivial,_,rfl,trivial,rfl,fns,most,ms,rs,[v1,v2,v3],rfl,rfl,j,nofun,Nat.le_of_ble_eq_true rfl,⟨a5,a4,a0,trivial⟩,B,hl1,rfl,ck h λd Z=>⟨_,rfl,Z⟩⟩
 have hn:kd≠"call"/\kd≠"cons"/\kd≠"node":=by rcases hk with rfl|rfl <;> decide
 refine w8 [_,_,q_ (.str _),none] (λJ M=>⟨trivial,M⟩) (y8 false (λ_=>cn hn.1) nofun λ_=>y8 false (λ_=>cn hn.2.1) nofun λ_=>y8 false (λ_=>cn hn.2.2) nofun λ_=>?_);refine⟨_,rfl,trivial,rfl,fns,most,ms,"sum",fs,n,rows,rfl,rfl,I,hf,?_⟩;by_cases q:most<=ms.steps.length
 ·have es:xa most n "sum" ms=(false,{ms with cut:=true}):=by unfold xa;rw[if_pos q]
  rw[es]at h ⊢;exact⟨λy=>(nomatch y),λ_=>⟨_,rfl,h⟩⟩
 have es:xa most n "sum" ms=(true,{ms with steps:=ms.steps++[.tup [.int n,.str "sum"]]}):=by unfold xa;rw[if_neg q]
 rw[es]at h ⊢;refine⟨λ_=>⟨_,rfl,trivial,rfl,fns,most,{ms with steps:=ms.steps++[.tup [.int n,.str "sum"]]},rs,[.int x,.int y],rfl,rfl,j,nofun,Nat.le_of_ble_eq_true rfl,⟨trivial,trivial,trivial⟩,B,hl1,?_⟩,λy=>(nomatch y)⟩;refine⟨_,_,rfl,rfl,_,_,rfl,rfl,by show rs.length<=100000;have:=congrArg List.length j;rw[zLa]at this;omega,?_⟩
 rcases hk with rfl|rfl
 ·exact cs ⟨λ_=>⟨trivial,_,rfl,h⟩,nofun⟩
 exact cs ⟨nofun,λ_=>⟨trivial,_,rfl,h⟩⟩
def Does(t:FTQ)(C:Addr)(fns:List (Str×D))(most:Int)(ds:List D)(s s1:MS):Prop:=∀Y:D->D->Prop,Y .non (msD C fns most s1)->t (msD C fns most s) ds Y
def Mv(C:Addr)(R:Str->D->Int->Prop)(fns:List (Str×D))(most:Int)(s s1:MS):Prop:=∃ts,
 (∃b,s.tasks=ts++[bdD b]/\Does (Kg C) C fns most [b] {s with tasks:=ts} s1) \/
 (∃e,s.tasks=ts++[vlD e]/\Does (tVal C) C fns most [e] {s with tasks:=ts} s1) \/
 (∃e,s.tasks=ts++[apD e]/\Does (Se C R) C fns most [e] {s with tasks:=ts} s1) \/
 (∃b,s.tasks=ts++[brD b]/\Does (Sd C) C fns most [b] {s with tasks:=ts} s1) \/
 (∃b,s.tasks=ts++[chD b]/\Does (Xz C) C fns most [b] {s with tasks:=ts} s1) \/
 (s.tasks=ts++[.tup [.str "leave"]]/\Does (Sa C) C fns most [] {s with tasks:=ts} s1)
inductive RunN(C:Addr)(R:Str->D->Int->Prop)(fns:List (Str×D))(most:Int):Nat->MS->MS->Prop
 |done {s:MS}:(s.tasks=[]\/s.cut=true)->RunN C R fns most 0 s s
 |step {s s1 s2:MS} {n:Nat}:s.cut=false->Mv C R fns most s s1->RunN C R fns most n s1 s2->RunN C R fns most (n+1) s s2
def tGo(C:Addr)(R:Str->D->Int->Prop):FTQ:=λd ds Y=>∃fns most s s1 n,d=msD C fns most s/\ds=[]/\RunN C R fns most n s s1/\Y .non (msD C fns most s1)
def X8(p:Nat->Prop)(h:∃ n,p n):∃n,p n/\∀m,p m->n<=m:=by
 obtain⟨n,B⟩:=h
 induction n using Nat.strongRecOn with
 |ind n ih =>
  by_cases q:∃m,m<n/\p m
  ·obtain⟨m,lt,j⟩:=q;exact ih m lt j
  exact⟨n,B,λm j=>Nat.le_of_not_lt λlt=>q ⟨m,lt,j⟩⟩
def fc(p:Nat->Prop):Nat:=by
 classical
 exact if h:∃n,p n then Classical.choose (X8 p h) else 0
def gz{p:Nat->Prop}(h:∃ n,p n):p (fc p)/\∀m,p m->fc p<=m:=by
 unfold fc;rw[dif_pos h];exact Classical.choose_spec (X8 p h)
def K9{tc:TQb}{U:DE}{k:Bool->DE->Prop}(b:Bool)(h:∀ k:Bool->DE->Prop,k b U->tc U k)(j:k b U):tc U k:=h k j
def goP(C:Addr)(R:Str->D->Int->Prop)(fns:List (Str×D))(most:Int)(s1:MS)(U:DE)(n:Nat):Prop:=∃s t,U=[q_ (msD C fns most s),t]/\RunN C R fns most n s s1
def tl1{ts:List D}{x y:D}(h:ts++[x]=ts++[y]):x=y:=List.head_eq_of_cons_eq (List.append_cancel_left h)
def Bv(T:Tops mg)(O:CO K C zk)(Ao:FM P w K mg base 3 C zk "begin_body" ["self","body"] (Kg C))(An:FM P w K mg base 2 C zk "begin_value" ["self","expression"] (tVal C))(a5:FM P w K mg base 7 C zk "apply" ["self","expression"] (Se C R))(a4:FM P w K mg base 3 C zk "bring" ["self","body"] (Sd C))(a6:FM P w K mg base 3 C zk "choose" ["self","body"] (Xz C))(a0:FM P w K mg base 1 C zk "leave" ["self"] (Sa C))(F:Fun K "go" "Run.go" (mth 2) f fd)(I:Meth K C "go" f):FM P w K mg base 8 C zk "go" ["self"] (tGo C R):=by
 have S:zu ["self","task"] ["self"] (zd (mth 2)):=by walk_at "f"
 refine su F S (F.binds λ_ _ _ _ _ _ us hl=>(by obtain⟨_,rfl⟩:=jl hl;rfl)) I (by decide) λqZ A outer s H E d0 ds Y hr hl hT=>?_
 have hu:=hr.units;refine⟨_,(y9 (On (u9 (EW.et (da (w6 (va O (z9 0))) (kq (v8 (w6 (va O (z9 0)))))))) (yh (xq (Yq 1 (by decide) S.nd (xb O ye)))
    (y9 (wz (u9 (xm hu (zg hu (z9 1) zc) zf)) (y9 (xi (yk O Ao (hr.e rfl) (y7 (zg hu (z9 1) zc) x3)))) (y9 (wz (u9 (xm hu (zg hu (z9 1) zc) zf)) (y9 (xi (yk O An (hr.e rfl) (y7 (zg hu (z9 1) zc) x3)))) (y9 (wz (u9 (xm hu (zg hu (z9 1) zc) zf)) (y9 (xi (yk O a5 (hr.e rfl) (y7 (zg hu (z9 1) zc) x3)))) (y9 (wz (u9 (xm hu (zg hu (z9 1) zc) zf)) (y9 (xi (yk O a4 (hr.e rfl) (y7 (zg hu (z9 1) zc) x3)))) (y9 (wz (u9 (xm hu (zg hu (z9 1) zc) zf)) (y9 (xi (yk O a6 (hr.e rfl) (y7 (zg hu (z9 1) zc) x3)))) (y9 (xi (U6 O a0 (hr.e rfl))))))))))))))))),?_⟩
 obtain⟨fns,most,ms,s1,n,rfl,rfl,hR,h⟩:=hT;refine⟨λU=>∃n,goP C R fns most s1 U n,λU=>fc (goP C R fns most s1 U),⟨n,ms,none,rfl,hR⟩,λZ hP=>?_⟩;obtain⟨I,_⟩:=gz hP;obtain⟨m,em⟩:∃m,m=fc (goP C R fns most s1 Z):=⟨_,rfl⟩;rw[<- em]at I;obtain⟨s,t,rfl,I⟩:=I;refine K9 (!s.tasks.isEmpty&&!s.cut) (λk N=>?_) ?_
 ·unfold msD at N ⊢;walk_at "dl";refine⟨λz=>?_,λz=>?_⟩
  ·rw[z]at N;exact N
  rw[z]at N;exact N
 refine⟨λq=>?_,λq=>?_⟩
 ·have B:∀(s2:MS)(t2:Option EV)(M:Nat),RunN C R fns most M s2 s1->M<m->(∃n,goP C R fns most s1 [q_ (msD C fns most s2),t2] n)/\fc (goP C R fns most s1 [q_ (msD C fns most s2),t2])<fc (goP C R fns most s1 [q_ (msD C fns most s),t]):=λs2 t2 M h2 lt=>⟨⟨M,s2,t2,rfl,h2⟩,by rw[<- em];exact Nat.lt_of_le_of_lt ((gz ⟨M,s2,t2,rfl,h2⟩).2 M ⟨s2,t2,rfl,h2⟩) lt⟩
  cases I with
  |done hd =>
   rcases hd with hd|hd
   ·rw[hd]at q;cases q
   rw[hd]at q;simp at q
  |@step s s2 s3 m hc j hr2 =>
   obtain⟨ts,j⟩:=j;obtain⟨x,ex⟩:∃x,s.tasks=ts++[x]:=by rcases j with⟨b,et,j⟩|⟨b,et,j⟩|⟨b,et,j⟩|⟨b,et,j⟩|⟨b,et,j⟩|⟨et,j⟩ <;> exact⟨_,et⟩
   refine x9 (λU=>U=[q_ (msD C fns most {s with tasks:=ts}),q_ x]) ?_ ?_
   ·unfold msD;rw[ex];refine⟨_,_,rfl,rfl,_,_,x,rfl,rfl,?_,?_⟩
    ·rw[zLa];show(ts++[x])[ts.length+1-1]?=_;rw[Nat.add_sub_cancel,List.getElem?_append_right (zaj _),Nat.sub_self];rfl
    rw[List.dropLast_concat];rfl
   rintro _ rfl;rw[ex]at j;rcases j with⟨b,et,j⟩|⟨b,et,j⟩|⟨b,et,j⟩|⟨b,et,j⟩|⟨b,et,j⟩|⟨et,j⟩ <;> cases tl1 et
   ·exact y8 true (λ_=>cs) (λ_=>⟨_,rfl,trivial,rfl,j _ (B s2 _ _ hr2 (Nat.lt_succ_self _))⟩) nofun
   ·exact y8 false (λ_=>cs) nofun λ_=>y8 true (λ_=>cs) (λ_=>⟨_,rfl,trivial,rfl,j _ (B s2 _ _ hr2 (Nat.lt_succ_self _))⟩) nofun
   ·exact y8 false (λ_=>cs) nofun λ_=>y8 false (λ_=>cs) nofun λ_=>y8 true (λ_=>cs) (λ_=>⟨_,rfl,trivial,rfl,j _ (B s2 _ _ hr2 (Nat.lt_succ_self _))⟩) nofun
   ·exact y8 false (λ_=>cs) nofun λ_=>y8 false (λ_=>cs) nofun λ_=>y8 false (λ_=>cs) nofun λ_=>y8 true (λ_=>cs) (λ_=>⟨_,rfl,trivial,rfl,j _ (B s2 _ _ hr2 (Nat.lt_succ_self _))⟩) nofun
   ·exact y8 false (λ_=>cs) nofun λ_=>y8 false (λ_=>cs) nofun λ_=>y8 false (λ_=>cs) nofun λ_=>y8 false (λ_=>cs) nofun λ_=>y8 true (λ_=>cs) (λ_=>⟨_,rfl,trivial,rfl,j _ (B s2 _ _ hr2 (Nat.lt_succ_self _))⟩) nofun
   exact y8 false (λ_=>cs) nofun λ_=>y8 false (λ_=>cs) nofun λ_=>y8 false (λ_=>cs) nofun λ_=>y8 false (λ_=>cs) nofun λ_=>y8 false (λ_=>cs) nofun λ_=>⟨_,rfl,rfl,j _ (B s2 _ _ hr2 (Nat.lt_succ_self _))⟩
 refine⟨_,rfl,?_⟩;cases I with
 |done hd=>exact h
 |@step s s2 s3 m hc j hr2 =>
  obtain⟨ts,j⟩:=j;have ne:s.tasks≠[]:=by
   rcases j with⟨b,et,j⟩|⟨b,et,j⟩|⟨b,et,j⟩|⟨b,et,j⟩|⟨b,et,j⟩|⟨et,j⟩
   all_goals
    rw[et];simp
  rw[hc]at q;cases e:s.tasks with
  |nil=>exact absurd e ne
  |cons x y=>rw[e]at q;cases q
def ms0:MS:={calls:=[],steps:=[],frames:=[],tasks:=[],ready:=[],cut:=false}
def Kf(C:Addr):FTQ:=λd ds Y=>∃fns:List (Str×D),∃most,d=.ob C [] []/\ds=[.tup (fns.map Prod.snd),.int most]/\fns.length<=100/\(fns.map Prod.fst).Nodup/\zw (fns.map Prod.snd)/\(∀p∈fns,∃r,p.2=.tup (.str p.1::r))/\Y .non (msD C fns most ms0)
def Ka(C:Addr):FTR:=λd ds Y=>∃fns most s,d=msD C fns most s/\ds=[] /\
 ((s.cut=true/\Y (.tup [.bl false,.non,.lst s.calls,.lst s.steps]))\/(s.cut=false/\∃v r,s.ready=v::r/\zj v/\Y (.tup [.bl true,v,.lst s.calls,.lst s.steps])))
def Hm(T:Tops mg)(O:CO K C zk)(F:Fun K "__init__" "Run.__init__" (mth 0) f fd)(hm:Meth K C "__init__" f):FM P w K mg base 2 C zk "__init__" ["self","program","most"] (Kf C):=by
 have S:zu ["self","program","most"] ["self","program","most"] (zd (mth 0)):=by walk_at "f"
 refine su F S (F.binds λ_ _ _ _ _ _ us hl=>(by obtain⟨_,_,_,rfl⟩:=Yx hl;rfl)) hm (by decide) λqZ A outer s H E d0 ds Y hr hl hT=>?_
 have hu:=hr.units;refine⟨_,(yh (xq (t4 O.cl (O.na _ (by decide)) ye (yy (Me T.dict (za (rz (T:=["function"]) (F:=[]) (js:=[]) (wg (z9 1)) (show y4 (zd (mth 0)) _ ["function"] [] from by walk_at "c") .nil (by decide) (by walk_at "t") (yn (by decide)) (yr 0) (λcl C fp s H=>xx) (λcl C fp s H=>(zi (za (zg hu (z9 0) zc) (za (z9 0) zb))))) zb)))))
   (yh (xq (t4 O.cl (O.na _ (by decide)) ye (yy (z9 2))))
   (yh (xq (t4 O.cl (O.na _ (by decide)) ye (yy (x8 zb))))
   (yh (xq (t4 O.cl (O.na _ (by decide)) ye (yy (x8 zb))))
   (yh (xq (t4 O.cl (O.na _ (by decide)) ye (yy (x8 zb))))
   (yh (xq (t4 O.cl (O.na _ (by decide)) ye (yy (x8 zb))))
   (yh (xq (t4 O.cl (O.na _ (by decide)) ye (yy (x8 zb))))
   (y9 (xq (t4 O.cl (O.na _ (by decide)) ye (yy u7))))))))))),?_⟩
 obtain⟨fns,most,rfl,rfl,hl1,Z,N,B,h⟩:=hT;refine x9 (λU=>U=[q_ (.ob C ["functions"] [dkD fns]),q_ (.tup (fns.map Prod.snd)),q_ (.int most)]) ?_ ?_
 ·simp only[Ky,fE2,dCB,vh,aNil];refine wr (fns.map Prod.snd) ?_ (λd=>match d with|.tup (.str z::r)=>some (.tup [.str z,.tup (.str z::r)])|_=>none) (by rw[zLm];omega) ?_ ?_
  ·intro M j;exact⟨trivial,j⟩
  ·intro d hd;obtain⟨y,hy,rfl⟩:=zah.mp hd;obtain⟨r,I⟩:=B y hy;rw[I];unfold ρ0;walk_at "dl"
  have ef:(fns.map Prod.snd).filterMap (λd=>match d with|.tup (.str z::r)=>some (D.tup [.str z,.tup (.str z::r)])|_=>none)=Rp (fns.map λp=>Sum.inr p.1) (fns.map Prod.snd):=by
   clear hl1 Z N h hl
   induction fns with
   |nil=>rfl
   |cons p fns ih =>
    obtain⟨r,I⟩:=B p zao;simp only[List.map_cons,List.filterMap_cons,I];rw[ih λq hq=>B q (zal _ hq)];rfl
  rw[ef];refine⟨_,_,rfl,by rw[zLm,zLm],?_,N,_,[],[],rfl,rfl,by simp,by simp,rfl⟩
  rw[show(fns.map λp=>(Sum.inr p.1:Key))=(fns.map Prod.fst).map Sum.inr from by rw[List.map_map];rfl]
  exact List.Pairwise.map _ (λa b h e=>h (Sum.inr.inj e)) Z
 rintro _ rfl;refine x9 (λU=>U=[q_ (.ob C ["functions","most"] [dkD fns,.int most]),q_ (.tup (fns.map Prod.snd)),q_ (.int most)]) ?_ ?_
 ·exact⟨trivial,_,_,_,rfl,rfl,by decide,by decide,rfl⟩
 rintro _ rfl;refine x9 (λU=>U=[q_ (.ob C ["functions","most","calls"] [dkD fns,.int most,.lst []]),q_ (.tup (fns.map Prod.snd)),q_ (.int most)]) ?_ ?_
 ·exact⟨rfl,rfl,trivial,_,_,_,rfl,rfl,by decide,by decide,rfl⟩
 rintro _ rfl;refine x9 (λU=>U=[q_ (.ob C ["functions","most","calls","steps"] [dkD fns,.int most,.lst [],.lst []]),q_ (.tup (fns.map Prod.snd)),q_ (.int most)]) ?_ ?_
 ·exact⟨rfl,rfl,trivial,_,_,_,rfl,rfl,by decide,by decide,rfl⟩
 rintro _ rfl;refine x9 (λU=>U=[q_ (.ob C ["functions","most","calls","steps","frames"] [dkD fns,.int most,.lst [],.lst [],.lst []]),q_ (.tup (fns.map Prod.snd)),q_ (.int most)]) ?_ ?_
 ·exact⟨rfl,rfl,trivial,_,_,_,rfl,rfl,by decide,by decide,rfl⟩
 rintro _ rfl;refine x9 (λU=>U=[q_ (.ob C ["functions","most","calls","steps","frames","tasks"] [dkD fns,.int most,.lst [],.lst [],.lst [],.lst []]),q_ (.tup (fns.map Prod.snd)),q_ (.int most)]) ?_ ?_
 ·exact⟨rfl,rfl,trivial,_,_,_,rfl,rfl,by decide,by decide,rfl⟩
 rintro _ rfl;refine x9 (λU=>U=[q_ (.ob C ["functions","most","calls","steps","frames","tasks","ready"] [dkD fns,.int most,.lst [],.lst [],.lst [],.lst [],.lst []]),q_ (.tup (fns.map Prod.snd)),q_ (.int most)]) ?_ ?_
 ·exact⟨rfl,rfl,trivial,_,_,_,rfl,rfl,by decide,by decide,rfl⟩
 rintro _ rfl;refine⟨λU=>∃d',slot U 0=q_ d'/\Y .non d',?_,λ_ y=>y⟩;exact⟨trivial,_,_,_,rfl,rfl,by decide,by decide,_,rfl,h⟩
def Nw(T:Tops mg)(O:CO K C zk)(F:Fun K "told" "Run.told" (mth 1) f fd)(B:Meth K C "told" f):FMR P w K mg base 1 C zk "told" ["self"] (Ka C):=by
 have S:zu ["self"] ["self"] (zd (mth 1)):=by walk_at "f"
 refine Dy F S (F.binds λ_ _ _ _ _ _ us hl=>(by obtain⟨_,rfl⟩:=jl hl;rfl)) B (by decide) λqZ A outer s H E M ds Y hr hl hT=>?_
 have hu:=hr.units;refine⟨_,(Kq (B8 (u9 (w6 (va O (z9 0)))) (L1 (R5 (Lr (ue (Mb u7) (ue (Mb vj) (ue (jp (xb O ye)) (ue (jp (xb O ye)) P9))))))) Fj)
    (L1 (R5 (Lr (ue (Mb u7) (ue (Mb (zg hu (va O (z9 0)) zc)) (ue (jp (xb O ye)) (ue (jp (xb O ye)) P9)))))))),?_⟩
 obtain⟨fns,most,ms,rfl,rfl,h⟩:=hT;unfold msD;walk_at "dl";rcases h with⟨j,h⟩|⟨j,v,r,I,q,h⟩
 ·exact⟨λ_=>⟨_,_,rfl,rfl,_,_,rfl,rfl,_,_,rfl,rfl,_,_,rfl,rfl,h⟩,λz=>absurd z (by rw[j];decide)⟩
 rw[I];simp only[at_0];exact⟨λz=>absurd z (by rw[j];decide),λ_=>⟨q,_,_,rfl,rfl,_,_,rfl,rfl,_,_,rfl,rfl,_,_,rfl,rfl,h⟩⟩
section
variable{fns:List (Str×D)}{most:Int}{P:MS->Prop}{n:Int}
def Fin(C:Addr)(R:Str->D->Int->Prop)(fns:List (Str×D))(most:Int)(P:MS->Prop)(s:MS):Prop:=∃n s1,RunN C R fns most n s s1/\P s1
def yc{s s1:MS}(j:s.cut=false)(m:Mv C R fns most s s1)(h:Fin C R fns most P s1):Fin C R fns most P s:=by
 obtain⟨n,s2,r,p⟩:=h;exact⟨n+1,s2,.step j m r,p⟩
def xk{s:MS}(h:s.tasks=[]\/s.cut=true)(p:P s):Fin C R fns most P s:=⟨0,s,.done h,p⟩
def stt(cl st:List D)(fs:List (Int×List (Str×D)))(ts rs:List D):MS:={calls:=cl,steps:=st,frames:=fs,tasks:=ts,ready:=rs,cut:=false}
def stp(n:Int)(k:Str):D:=.tup [.int n,.str k]
def dr(most:Int)(P:MS->Prop)(cl X:List D):Prop:=most<=X.length->∀s1:MS,s1.cut=true->s1.calls=cl->s1.steps=X->P s1
def wl{s:MS}{k:Str}(q:most<=s.steps.length):xa most n k s=(false,{s with cut:=true}):=by unfold xa;rw[if_pos q]
def wk{s:MS}{k:Str}(q:¬ most<=s.steps.length):xa most n k s=(true,{s with steps:=s.steps++[.tup [.int n,.str k]]}):=by unfold xa;rw[if_neg q]
def Sm1(cl st ts rs:List D):Prop:=cl.length+st.length+ts.length+rs.length<=9000/\zw rs
def bf{a b:List D}:zw (a++b) ↔ zw a/\zw b:=by
 rw[yd,yd,yd];simp only[zas];exact⟨λh=>⟨λd x=>h d (.inl x),λd x=>h d (.inr x)⟩,λh d x=>x.elim (h.1 d) (h.2 d)⟩
section
variable{cl st ts rs:List D}{fs:List (Int×List (Str×D))}{rows:List (Str×D)}{v e e1 e2 b1 b2:D}{z:Str}
def M8(b:Sm1 cl st ts rs)(q:zj e)(h:Fin C R fns most P (stt cl st fs (ts++[vlD e]) rs)):Fin C R fns most P (stt cl st fs (ts++[bdD (.tup [.str "give",e])]) rs) :=
 yc rfl ⟨ts,.inl ⟨_,rfl,λY j=>⟨fns,most,_,rfl,by have:=b.1;show ts.length<=10000;omega,.inl ⟨e,rfl,q,j⟩⟩⟩⟩ h
def M6(b:Sm1 cl st ts rs)(I:zj e1)(p2:zj e2)(B:zj b1)(q:zj b2)(h:Fin C R fns most P (stt cl st fs (ts++[chD (.tup [.str "less",e1,e2,b1,b2])]++[vlD e2]++[vlD e1]) rs)):Fin C R fns most P (stt cl st fs (ts++[bdD (.tup [.str "less",e1,e2,b1,b2])]) rs) :=
 yc rfl ⟨ts,.inl ⟨_,rfl,λY j=>⟨fns,most,_,rfl,by have:=b.1;show ts.length<=10000;omega,.inr (.inr (.inl ⟨e1,e2,b1,b2,rfl,I,p2,B,q,j⟩))⟩⟩⟩ (by rw[List.append_assoc (ts++_)]at h;exact h)
def Hn(b:Sm1 cl st ts rs)(B:rowG rows z=some v)(q:zj v)(h:Fin C R fns most P (stt cl st (fs++[(n,rows)]) ts (rs++[v]))):Fin C R fns most P (stt cl st (fs++[(n,rows)]) (ts++[vlD (.tup [.str "var",.str z])]) rs) :=
 yc rfl ⟨ts,.inr (.inl ⟨_,rfl,λY j=>⟨fns,most,_,rfl,by have:=b.1;show ts.length<=10000;omega,by have:=b.1;show rs.length<=10000;omega,.inr (.inl ⟨fs,n,rows,z,v,rfl,rfl,B,q,j⟩)⟩⟩)⟩ h
def Hr(b:Sm1 cl st ts rs)(h:Fin C R fns most P (stt cl st fs ts (rs++[.tup []]))):Fin C R fns most P (stt cl st fs (ts++[vlD (.tup [.str "nil"])]) rs) :=
 yc rfl ⟨ts,.inr (.inl ⟨_,rfl,λY j=>⟨fns,most,_,rfl,by have:=b.1;show ts.length<=10000;omega,by have:=b.1;show rs.length<=10000;omega,.inr (.inr (.inl ⟨rfl,j⟩))⟩⟩)⟩ h
def M9{f:Str}{es:List D}(b:Sm1 cl st ts rs)(B:es.length<=100)(q:zw es)(h:Fin C R fns most P (stt cl st fs (ts++[apD (.tup [.str "call",.str f,.tup es])]++es.reverse.map vlD) rs)):Fin C R fns most P (stt cl st fs (ts++[vlD (.tup [.str "call",.str f,.tup es])]) rs) :=
 yc rfl ⟨ts,.inr (.inl ⟨_,rfl,λY j=>⟨fns,most,_,rfl,by have:=b.1;show ts.length<=10000;omega,by have:=b.1;show rs.length<=10000;omega,.inr (.inr (.inr (.inr (.inl ⟨.str f,es,rfl,B,trivial,q,j⟩))))⟩⟩)⟩ h
def C2{j:Str}{es:List D}(b:Sm1 cl st ts rs)(B:j = "cons"\/j = "node"\/j = "add"\/j = "sub")(M:es.length<=100)(I:zw es)(h:Fin C R fns most P (stt cl st fs (ts++[apD (.tup (.str j::es))]++es.reverse.map vlD) rs)):Fin C R fns most P (stt cl st fs (ts++[vlD (.tup (.str j::es))]) rs) :=
 yc rfl ⟨ts,.inr (.inl ⟨_,rfl,λY q=>⟨fns,most,_,rfl,by have:=b.1;show ts.length<=10000;omega,by have:=b.1;show rs.length<=10000;omega,.inr (.inr (.inr (.inr (.inr ⟨j,es,rfl,B,M,I,q⟩))))⟩⟩)⟩ h
def U4{x B tn:Str}{l:List D}(b:Sm1 cl st ts rs)(I:rowG rows x=some (.tup l))(pl:zw l)(ok:∀ d∈l,okD 149 d)(M:zj b1)(p2:zj b2)(N:rows.length<=900)(Z:(rows.map Prod.fst++[B,tn]).Nodup)(hc:dr most P cl st)(h0:¬ most<=st.length->l=[]->Fin C R fns most P (stt cl (st++[stp n "open"]) (fs++[(n,rows)]) (ts++[bdD b1]) rs))(h1:¬ most<=st.length->∀ v r,l=v::r->Fin C R fns most P (stt cl (st++[stp n "open"]) (fs++[(n,rows++[(B,v),(tn,.tup r)])]) (ts++[bdD b2]) rs)) :
  Fin C R fns most P (stt cl st (fs++[(n,rows)]) (ts++[bdD (.tup [.str "list",.str x,b1,.str B,.str tn,b2])]) rs):=by
 have bb:=b.1;by_cases q:most<=st.length
 ·refine yc (s1:={calls:=cl,steps:=st,frames:=fs++[(n,rows)],tasks:=ts,ready:=rs,cut:=true}) rfl ⟨ts,.inl ⟨_,rfl,λY j=>⟨fns,most,_,rfl,by show ts.length<=10000;omega,.inr (.inr (.inr ⟨"list",x,_,fs,n,rows,.tup l,rfl,.inl rfl,rfl,by show st.length<=10000;omega,I,pl,?_⟩))⟩⟩⟩ (xk (.inr rfl) (hc q _ rfl rfl rfl))
  rw[wl q];exact j
 cases l with
 |nil =>
  refine yc rfl ⟨ts,.inl ⟨_,rfl,λY j=>⟨fns,most,_,rfl,by show ts.length<=10000;omega,.inr (.inr (.inr ⟨"list",x,_,fs,n,rows,.tup [],rfl,.inl rfl,rfl,by show st.length<=10000;omega,I,pl,?_⟩))⟩⟩⟩ (h0 q rfl)
  rw[wk q];exact⟨fns,most,_,fs,n,rows,"list",x,b1,b2,rfl,rfl,by show ts.length<=10000;omega,M,p2,N,.inl ⟨_,_,rfl,.inr rfl,j⟩⟩
 |cons v r =>
  refine yc rfl ⟨ts,.inl ⟨_,rfl,λY j=>⟨fns,most,_,rfl,by show ts.length<=10000;omega,.inr (.inr (.inr ⟨"list",x,_,fs,n,rows,.tup (v::r),rfl,.inl rfl,rfl,by show st.length<=10000;omega,I,pl,?_⟩))⟩⟩⟩ (h1 q v r rfl)
  rw[wk q];exact⟨fns,most,_,fs,n,rows,"list",x,b1,b2,rfl,rfl,by show ts.length<=10000;omega,M,p2,N,.inr (.inl ⟨B,tn,v,r,rfl,by rw[Jk (by decide)];exact ok,pl.1,pl.2,Z,j⟩)⟩
def Tb{x y:Int}(b:Sm1 cl st ts rs)(B:zj b1)(p2:zj b2)(M:dr most P cl st)(h:¬ most<=st.length->Fin C R fns most P (stt cl (st++[stp n "less"]) (fs++[(n,rows)]) (ts++[bdD (if x<y then b1 else b2)]) rs)) :
  Fin C R fns most P (stt cl st (fs++[(n,rows)]) (ts++[chD (.tup [.str "less",e1,e2,b1,b2])]) (rs++[.int x]++[.int y])):=by
 have N:=b.1;have I:rs++[D.int x]++[D.int y]=rs++[.int x,.int y]:=by simp
 by_cases q:most<=st.length
 ·refine yc (s1:={calls:=cl,steps:=st,frames:=fs++[(n,rows)],tasks:=ts,ready:=rs++[D.int x]++[D.int y],cut:=true}) rfl ⟨ts,.inr (.inr (.inr (.inr (.inl ⟨_,rfl,λY j=>?_⟩))))⟩ (xk (.inr rfl) (M q _ rfl rfl rfl));refine⟨fns,most,_,fs,n,rows,e1,e2,b1,b2,rs,x,y,rfl,rfl,rfl,I,by show st.length<=10000;omega,by show(rs++[D.int x]++[D.int y]).length<=10000;simp;omega,by show ts.length<=10000;omega,B,p2,b.2,?_⟩
  rw[wl q];exact j
 refine yc rfl ⟨ts,.inr (.inr (.inr (.inr (.inl ⟨_,rfl,λY j=>?_⟩))))⟩ (h q);refine⟨fns,most,_,fs,n,rows,e1,e2,b1,b2,rs,x,y,rfl,rfl,rfl,I,by show st.length<=10000;omega,by show(rs++[D.int x]++[D.int y]).length<=10000;simp;omega,by show ts.length<=10000;omega,B,p2,b.2,?_⟩
 rw[wk q];exact j
def U5{r:List D}{sz:Int}(b:Sm1 cl st ts rs)(I:zj v)(M:zw r)(br:r.length<=1000)(hR:R "list" (.tup (v::r)) sz)(hc:dr most P cl st)(N:100<sz->∀ s1:MS,s1.cut=true->s1.calls=cl->s1.steps=st->P s1)(h:¬ most<=st.length->¬ 100<sz->Fin C R fns most P (stt cl (st++[stp n "make"]) (fs++[(n,rows)]) ts (rs++[.tup (v::r)]))) :
  Fin C R fns most P (stt cl st (fs++[(n,rows)]) (ts++[apD (.tup [.str "cons",e1,e2])]) (rs++[v]++[.tup r])):=by
 have bb:=b.1;have er:rs++[v]++[D.tup r]=rs++[v,.tup r]:=by simp
 have B:∀s1:MS,(∀Y:D->D->Prop,Y .non (msD C fns most s1)->Y .non (msD C fns most (if 100<sz then {calls:=cl,steps:=st,frames:=fs++[(n,rows)],tasks:=ts,ready:=rs,cut:=true} else match xa most n "make" {calls:=cl,steps:=st,frames:=fs++[(n,rows)],tasks:=ts,ready:=rs,cut:=false} with
  |(true,s')=>{s' with ready:=rs++[.tup (v::r)]}
  | (false,s')=>s')))->Mv C R fns most (stt cl st (fs++[(n,rows)]) (ts++[apD (.tup [.str "cons",e1,e2])]) (rs++[v]++[.tup r])) s1:=λs1 Z=>by
  refine⟨ts,.inr (.inr (.inl ⟨_,rfl,λY j=>?_⟩))⟩;refine⟨fns,most,_,rs,rfl,by show(rs++[v]++[D.tup r]).length<=10000;simp;omega,b.2,.inr (.inl ⟨e1,e2,v,r,rfl,er,I,M,by omega,?_⟩)⟩
  exact⟨fns,most,_,fs,n,rows,"list",.tup (v::r),sz,rfl,rfl,rfl,by show st.length<=10000;omega,by show rs.length<=10000;omega,⟨I,M⟩,hR,Z Y j⟩
 by_cases z:100<sz
 ·refine yc rfl (B {calls:=cl,steps:=st,frames:=fs++[(n,rows)],tasks:=ts,ready:=rs,cut:=true} λY j=>?_) (xk (.inr rfl) (N z _ rfl rfl rfl));rw[if_pos z];exact j
 by_cases q:most<=st.length
 ·refine yc rfl (B {calls:=cl,steps:=st,frames:=fs++[(n,rows)],tasks:=ts,ready:=rs,cut:=true} λY j=>?_) (xk (.inr rfl) (hc q _ rfl rfl rfl));rw[if_neg z,wl q];exact j
 refine yc rfl (B _ λY j=>?_) (h q z);rw[if_neg z,wk q];exact j
def Xc{f:Str}{es us:List D}{M sz I:D}{ps:List (Str×D)}(b:Sm1 cl st ts rs)(hf:rowG fns f=some (.tup [M,pmD ps,sz,I]))(le:us.length=es.length)(ne:us≠[])(B:us.length<=10)(Z:zw us)(p0:zj M)(pp:zw (ps.map Prod.snd))(pz:zj sz)(pb:zj I)(lp:ps.length=us.length)(nd:(ps.map Prod.fst).Nodup)(hd:20<=fs.length->∀ s1:MS,s1.cut=true->s1.calls=cl->s1.steps=st->P s1)(hc:dr most P cl st)(h:¬ most<=st.length->¬ 20<=fs.length->Fin C R fns most P (stt (cl++[.tup [.str f,.tup us,upD fs,.bl false,.non]]) (st++[stp cl.length "call"]) (fs++[((cl.length:Int),(ps.map Prod.fst).zip us)]) (ts++[.tup [.str "leave"]]++[bdD I]) rs)) :
  Fin C R fns most P (stt cl st fs (ts++[apD (.tup [.str "call",.str f,.tup es])]) (rs++us)):=by
 have b1:=b.1;have N:∀s1:MS,(∀Y:D->D->Prop,Y .non (msD C fns most s1)->Y .non (msD C fns most (rg most f us ps I (stt cl st fs ts rs))))->Mv C R fns most (stt cl st fs (ts++[apD (.tup [.str "call",.str f,.tup es])]) (rs++us)) s1:=λs1 hs=>by
  refine⟨ts,.inr (.inr (.inl ⟨_,rfl,λY j=>?_⟩))⟩;refine⟨fns,most,_,rs,rfl,by show(rs++us).length<=10000;simp;omega,b.2,.inl ⟨f,es,us,rfl,rfl,le,ne,B,Z,?_⟩⟩
  exact⟨fns,most,_,f,us,M,ps,sz,I,rfl,rfl,hf,p0,pp,pz,pb,Z,lp,B,nd,by show st.length<=10000;omega,by show cl.length<=10000;omega,by show ts.length<=10000;omega,hs Y j⟩
 by_cases z:20<=fs.length
 ·refine yc rfl (N {calls:=cl,steps:=st,frames:=fs,tasks:=ts,ready:=rs,cut:=true} λY j=>?_) (xk (.inr rfl) (hd z _ rfl rfl rfl));unfold rg;rw[if_pos (show 20<=(stt cl st fs ts rs).frames.length from z)];exact j
 by_cases q:most<=st.length
 ·refine yc rfl (N {calls:=cl,steps:=st,frames:=fs,tasks:=ts,ready:=rs,cut:=true} λY j=>?_) (xk (.inr rfl) (hc q _ rfl rfl rfl));unfold rg;rw[if_neg (show ¬ 20<=(stt cl st fs ts rs).frames.length from z),wl q];exact j
 refine yc rfl (N _ λY j=>?_) (h q z);unfold rg;rw[if_neg (show ¬ 20<=(stt cl st fs ts rs).frames.length from z),wk q];exact j
def P1{m:Nat}{I j up:D}{q B:List D}(lc:q.length=m)(p1:zj I)(p2:zj j)(Z:zj up)(N:zj v)(h:Fin C R fns most P (stt (q++[.tup [I,j,up,.bl true,v]]++B) st fs ts (rs++[v]))) :
  Fin C R fns most P (stt (q++[.tup [I,j,up,.bl false,.non]]++B) st (fs++[((m:Int),rows)]) (ts++[.tup [.str "leave"]]) (rs++[v])) :=
 yc rfl ⟨ts,.inr (.inr (.inr (.inr (.inr ⟨rfl,λY M=>⟨fns,most,_,fs,m,rows,I,j,up,rs,v,q,B,rfl,rfl,rfl,rfl,N,rfl,lc,p1,p2,Z,M⟩⟩))))⟩ h
def M7(b:Sm1 cl st ts rs)(h:Fin C R fns most P (stt cl st fs ts (rs++[.non]))):Fin C R fns most P (stt cl st fs (ts++[vlD (.tup [.str "leaf"])]) rs) :=
 yc rfl ⟨ts,.inr (.inl ⟨_,rfl,λY j=>⟨fns,most,_,rfl,by have:=b.1;show ts.length<=10000;omega,by have:=b.1;show rs.length<=10000;omega,.inr (.inr (.inr (.inl ⟨rfl,j⟩)))⟩⟩)⟩ h
def Qy{x l m r:Str}(b:Sm1 cl st ts rs)(B:rowG rows x=some .non)(I:zj b1)(p2:zj b2)(N:rows.length<=900)(M:dr most P cl st)(h0:¬ most<=st.length->Fin C R fns most P (stt cl (st++[stp n "open"]) (fs++[(n,rows)]) (ts++[bdD b1]) rs)) :
  Fin C R fns most P (stt cl st (fs++[(n,rows)]) (ts++[bdD (.tup [.str "tree",.str x,b1,.str l,.str m,.str r,b2])]) rs):=by
 have Z:=b.1;by_cases q:most<=st.length
 ·refine yc (s1:={calls:=cl,steps:=st,frames:=fs++[(n,rows)],tasks:=ts,ready:=rs,cut:=true}) rfl ⟨ts,.inl ⟨_,rfl,λY j=>⟨fns,most,_,rfl,by show ts.length<=10000;omega,.inr (.inr (.inr ⟨"tree",x,_,fs,n,rows,.non,rfl,.inr rfl,rfl,by show st.length<=10000;omega,B,trivial,?_⟩))⟩⟩⟩ (xk (.inr rfl) (M q _ rfl rfl rfl))
  rw[wl q];exact j
 refine yc rfl ⟨ts,.inl ⟨_,rfl,λY j=>⟨fns,most,_,rfl,by show ts.length<=10000;omega,.inr (.inr (.inr ⟨"tree",x,_,fs,n,rows,.non,rfl,.inr rfl,rfl,by show st.length<=10000;omega,B,trivial,?_⟩))⟩⟩⟩ (h0 q)
 rw[wk q];exact⟨fns,most,_,fs,n,rows,"tree",x,b1,b2,rfl,rfl,by show ts.length<=10000;omega,I,p2,N,.inl ⟨_,_,rfl,.inl rfl,j⟩⟩
def Qx{x l m r:Str}{I B j:D}(b:Sm1 cl st ts rs)(N:rowG rows x=some (.tup [I,B,j]))(pl:zw [I,B,j])(ok:okD 150 (.tup [I,B,j]))(Z:zj b1)(p2:zj b2)(br:rows.length<=900)(nd:(rows.map Prod.fst++[l,m,r]).Nodup)(hc:dr most P cl st)(h1:¬ most<=st.length->Fin C R fns most P (stt cl (st++[stp n "open"]) (fs++[(n,rows++[(l,I),(m,B),(r,j)])]) (ts++[bdD b2]) rs)) :
  Fin C R fns most P (stt cl st (fs++[(n,rows)]) (ts++[bdD (.tup [.str "tree",.str x,b1,.str l,.str m,.str r,b2])]) rs):=by
 have bb:=b.1;by_cases q:most<=st.length
 ·refine yc (s1:={calls:=cl,steps:=st,frames:=fs++[(n,rows)],tasks:=ts,ready:=rs,cut:=true}) rfl ⟨ts,.inl ⟨_,rfl,λY M=>⟨fns,most,_,rfl,by show ts.length<=10000;omega,.inr (.inr (.inr ⟨"tree",x,_,fs,n,rows,.tup [I,B,j],rfl,.inr rfl,rfl,by show st.length<=10000;omega,N,pl,?_⟩))⟩⟩⟩ (xk (.inr rfl) (hc q _ rfl rfl rfl))
  rw[wl q];exact M
 refine yc rfl ⟨ts,.inl ⟨_,rfl,λY M=>⟨fns,most,_,rfl,by show ts.length<=10000;omega,.inr (.inr (.inr ⟨"tree",x,_,fs,n,rows,.tup [I,B,j],rfl,.inr rfl,rfl,by show st.length<=10000;omega,N,pl,?_⟩))⟩⟩⟩ (h1 q)
 rw[wk q];exact⟨fns,most,_,fs,n,rows,"tree",x,b1,b2,rfl,rfl,by show ts.length<=10000;omega,Z,p2,br,.inr (.inr ⟨l,m,r,I,B,j,rfl,ok,pl.1,pl.2.1,pl.2.2.1,nd,M⟩)⟩
def M5{I B j N:D}{sz:Int}(b:Sm1 cl st ts rs)(pl:zw [I,B,j])(hR:R "tree" (.tup [I,B,j]) sz)(z:¬ 100<sz)(hc:dr most P cl st)(h:¬ most<=st.length->Fin C R fns most P (stt cl (st++[stp n "make"]) (fs++[(n,rows)]) ts (rs++[.tup [I,B,j]]))) :
  Fin C R fns most P (stt cl st (fs++[(n,rows)]) (ts++[apD (.tup [.str "node",e1,e2,N])]) (rs++[I]++[B]++[j])):=by
 have bb:=b.1;have er:rs++[I]++[B]++[j]=rs++[I,B,j]:=by simp
 have Z:∀s1:MS,(∀Y:D->D->Prop,Y .non (msD C fns most s1)->Y .non (msD C fns most (if 100<sz then {calls:=cl,steps:=st,frames:=fs++[(n,rows)],tasks:=ts,ready:=rs,cut:=true} else match xa most n "make" {calls:=cl,steps:=st,frames:=fs++[(n,rows)],tasks:=ts,ready:=rs,cut:=false} with
  |(true,s')=>{s' with ready:=rs++[.tup [I,B,j]]}
  | (false,s')=>s')))->Mv C R fns most (stt cl st (fs++[(n,rows)]) (ts++[apD (.tup [.str "node",e1,e2,N])]) (rs++[I]++[B]++[j])) s1:=λs1 hs=>by
  refine⟨ts,.inr (.inr (.inl ⟨_,rfl,λY M=>?_⟩))⟩;refine⟨fns,most,_,rs,rfl,by show(rs++[I]++[B]++[j]).length<=10000;simp;omega,b.2,.inr (.inr (.inl ⟨e1,e2,N,I,B,j,rfl,er,pl.1,pl.2.1,pl.2.2.1,?_⟩))⟩
  exact⟨fns,most,_,fs,n,rows,"tree",.tup [I,B,j],sz,rfl,rfl,rfl,by show st.length<=10000;omega,by show rs.length<=10000;omega,pl,hR,hs Y M⟩
 by_cases q:most<=st.length
 ·refine yc rfl (Z {calls:=cl,steps:=st,frames:=fs++[(n,rows)],tasks:=ts,ready:=rs,cut:=true} λY M=>?_) (xk (.inr rfl) (hc q _ rfl rfl rfl));rw[if_neg z,wl q];exact M
 refine yc rfl (Z _ λY M=>?_) (h q);rw[if_neg z,wk q];exact M
end
end
inductive Tr where
 |lf:Tr
 |nd:Tr->Int->Tr->Tr
def Tr.d:Tr->D
 |.lf=>.non
 |.nd l v r=>.tup [l.d,.int v,r.d]
def Tr.nodes:Tr->Nat
 |.lf=>0
 |.nd l _ r=>1+l.nodes+r.nodes
theorem Tr.pure:∀t:Tr,zj t.d
 |.lf=>trivial
 |.nd l _ r=>⟨l.pure,trivial,r.pure,trivial⟩
def Vt(s:Str)(d:D):Prop:=(s = "num"/\∃i:Int,d=.int i)\/(s = "list"/\∃l:List Int,d=.tup (l.map D.int)/\l.length<=100)\/(s = "tree"/\∃t:Tr,d=t.d/\t.nodes<=100)
def tm(l:List Int):zw (l.map D.int):=yd.mpr λd j=>by
 obtain⟨t,_,rfl⟩:=zah.mp j;trivial
theorem Vt.pure{s:Str}{d:D}(h:Vt s d):zj d:=by
 rcases h with⟨_,i,rfl⟩|⟨_,l,rfl,_⟩|⟨_,t,rfl,_⟩
 ·trivial
 ·exact tm l
 exact t.pure
abbrev Sig:=List (Str×List Str×Str)
def sigL:Sig->Str->Option (List Str×Str)
 |[],_=>none
 |p::r,z=>if p.1=z then some p.2 else sigL r z
abbrev Env:=List (Str×Str)
def envL:Env->Str->Option Str
 |[],_=>none
 |p::r,z=>if p.1=z then some p.2 else envL r z
mutual
inductive Et(fs:Sig)(g:Env):D->Str->Nat->Prop
 |num (i:Int):Et fs g (.tup [.str "num",.int i]) "num" 1
 |var {z s:Str} (h:envL g z=some s):Et fs g (.tup [.str "var",.str z]) s 1
 |nil:Et fs g (.tup [.str "nil"]) "list" 1
 |leaf:Et fs g (.tup [.str "leaf"]) "tree" 1
 |sum {k:Str} {a b:D} {m n:Nat} (hk:k = "add"\/k = "sub") (ha:Et fs g a "num" m) (hb:Et fs g b "num" n):Et fs g (.tup [.str k,a,b]) "num" (m+(n+0)+1)
 |cons {a b:D} {m n:Nat} (ha:Et fs g a "num" m) (hb:Et fs g b "list" n):Et fs g (.tup [.str "cons",a,b]) "list" (m+(n+0)+1)
 |node {a b c:D} {m n o:Nat} (ha:Et fs g a "tree" m) (hb:Et fs g b "num" n) (hc:Et fs g c "tree" o):Et fs g (.tup [.str "node",a,b,c]) "tree" (m+(n+(o+0))+1)
 |call {f s:Str} {es:List D} {ss:List Str} {m:Nat} (hf:sigL fs f=some (ss,s)) (he:Ets fs g es ss m):Et fs g (.tup [.str "call",.str f,.tup es]) s (m+1)
inductive Ets(fs:Sig)(g:Env):List D->List Str->Nat->Prop
 |nil:Ets fs g [] [] 0
 |cons {e:D} {s:Str} {es:List D} {ss:List Str} {m n:Nat} (h:Et fs g e s m) (t:Ets fs g es ss n):Ets fs g (e::es) (s::ss) (m+n)
end
inductive Bt(fs:Sig):Env->D->Str->Prop
 |give {g:Env} {e:D} {s:Str} {n:Nat} (h:Et fs g e s n) (l:n<=85):Bt fs g (.tup [.str "give",e]) s
 |bind {g:Env} {z s1 s:Str} {e b:D} {n:Nat} (lg:g.length<=100) (h:Et fs g e s1 n) (l:n<=85) (nd:(g.map Prod.fst++[z]).Nodup) (hb:Bt fs (g++[(z,s1)]) b s):Bt fs g (.tup [.str "let",.str z,e,b]) s
 |less {g:Env} {s:Str} {a b c d:D} {m n:Nat} (ha:Et fs g a "num" m) (hb:Et fs g b "num" n) (l:m<=85) (l2:n<=85) (hc:Bt fs g c s) (hd:Bt fs g d s):Bt fs g (.tup [.str "less",a,b,c,d]) s
 |list {g:Env} {x h t s:Str} {b c:D} (lg:g.length<=100) (hx:envL g x=some "list") (hb:Bt fs g b s) (nd:(g.map Prod.fst++[h,t]).Nodup) (hc:Bt fs (g++([(h,"num"),(t,"list")]:Env)) c s):Bt fs g (.tup [.str "list",.str x,b,.str h,.str t,c]) s
 |tree {g:Env} {x l v r s:Str} {b c:D} (lg:g.length<=100) (hx:envL g x=some "tree") (hb:Bt fs g b s) (nd:(g.map Prod.fst++[l,v,r]).Nodup) (hc:Bt fs (g++([(l,"tree"),(v,"num"),(r,"tree")]:Env)) c s):Bt fs g (.tup [.str "tree",.str x,b,.str l,.str v,.str r,c]) s
def Ft1:Env->List (Str×D)->Prop
 |[],r=>r=[]
 |p::g,r=>∃v r',r=(p.1,v)::r'/\Vt p.2 v/\Ft1 g r'
def Ft1.get:∀{g:Env}{r:List (Str×D)}{z s:Str},Ft1 g r->envL g z=some s->∃v,rowG r z=some v/\Vt s v
 |p::g,_,z,s,⟨v,r',rfl,hv,q⟩,e=>by
  unfold envL at e;unfold rowG;by_cases h:p.1=z
  ·rw[if_pos h]at e ⊢;cases e;exact⟨v,rfl,hv⟩
  rw[if_neg h]at e ⊢;exact q.get e
def Ft1.names:∀{g:Env}{r:List (Str×D)},Ft1 g r->r.map Prod.fst=g.map Prod.fst
 |[],_,h=>by cases (show _=[] from h);rfl
 |p::g,_,⟨v,r',rfl,hv,q⟩=>by rw[List.map_cons,List.map_cons,q.names]
def Ft1.len{g:Env}{r:List (Str×D)}(h:Ft1 g r):r.length=g.length:=by
 have:=congrArg List.length h.names
 rwa [zLm,zLm]at this
def Ft1.add:∀{g:Env}{r:List (Str×D)}{h:Env}{q:List (Str×D)},Ft1 g r->Ft1 h q->Ft1 (g++h) (r++q)
 |[],_,_,_,a,b=>by cases (show _=[] from a);exact b
 |p::g,_,_,_,⟨v,r',rfl,hv,a⟩,b=>⟨v,r'++_,rfl,hv,a.add b⟩
abbrev lvD:D:=.tup [.str "leave"]
inductive Kt(fs:Sig):List Env->List D->List Str->Nat->Nat->Prop
 |done {s:Str}:Kt fs [] [] [s] 0 1
 |val {g:Env} {gs:List Env} {e:D} {s:Str} {ts:List D} {rs:List Str} {n k j:Nat} (h:Et fs g e s n) (q:Kt fs (g::gs) ts (s::rs) k (j+1)):Kt fs (g::gs) (vlD e::ts) rs (n+k) j
 |sum {o:Str} {a b:D} {g:Env} {gs:List Env} {ts:List D} {rs:List Str} {k j:Nat} (hk:o = "add"\/o = "sub") (q:Kt fs (g::gs) ts ("num"::rs) k (j+1)):Kt fs (g::gs) (apD (.tup [.str o,a,b])::ts) ("num"::"num"::rs) (1+k) (j+2)
 |cons {a b:D} {g:Env} {gs:List Env} {ts:List D} {rs:List Str} {k j:Nat} (q:Kt fs (g::gs) ts ("list"::rs) k (j+1)):Kt fs (g::gs) (apD (.tup [.str "cons",a,b])::ts) ("list"::"num"::rs) (1+k) (j+2)
 |node {a b c:D} {g:Env} {gs:List Env} {ts:List D} {rs:List Str} {k j:Nat} (q:Kt fs (g::gs) ts ("tree"::rs) k (j+1)):Kt fs (g::gs) (apD (.tup [.str "node",a,b,c])::ts) ("tree"::"num"::"tree"::rs) (1+k) (j+3)
 |call {f s:Str} {es:List D} {ss:List Str} {g:Env} {gs:List Env} {ts:List D} {rs:List Str} {k j:Nat} (hf:sigL fs f=some (ss,s)) (hl:es.length=ss.length) (q:Kt fs (g::gs) ts (s::rs) k (j+1)):Kt fs (g::gs) (apD (.tup [.str "call",.str f,.tup es])::ts) (ss.reverse++rs) (1+k) (j+ss.length)
 |body {g:Env} {gs:List Env} {b:D} {s:Str} {ts:List D} {rs:List Str} {k j:Nat} (h:Bt fs g b s) (q:Kt fs gs ts (s::rs) k (j+1)) (l:k+j<=170):Kt fs (g::gs) (bdD b::lvD::ts) rs 0 0
 |bring {g:Env} {gs:List Env} {z s1 s:Str} {e b:D} {ts:List D} {rs:List Str} {k j:Nat} (lg:g.length<=100) (pe:zj e) (nd:(g.map Prod.fst++[z]).Nodup) (h:Bt fs (g++[(z,s1)]) b s) (q:Kt fs gs ts (s::rs) k (j+1)) (l:k+j<=170):Kt fs (g::gs) (brD (.tup [.str "let",.str z,e,b])::lvD::ts) (s1::rs) 0 1
 |choose {g:Env} {gs:List Env} {s:Str} {a b c d:D} {ts:List D} {rs:List Str} {k j:Nat} (hc:Bt fs g c s) (hd:Bt fs g d s) (q:Kt fs gs ts (s::rs) k (j+1)) (l:k+j<=170):Kt fs (g::gs) (chD (.tup [.str "less",a,b,c,d])::lvD::ts) ("num"::"num"::rs) 0 2
 |leave {g:Env} {gs:List Env} {s:Str} {ts:List D} {rs:List Str} {k j:Nat} (q:Kt fs gs ts (s::rs) k (j+1)) (l:k+j<=170):Kt fs (g::gs) (lvD::ts) (s::rs) 0 1
theorem Kt.vals{fs:Sig}{g:Env}{q:List Env}:∀{es:List D}{ss:List Str}{ts:List D}{rs:List Str}{m k j:Nat},Ets fs g es ss m->Kt fs (g::q) ts (ss.reverse++rs) k (j+ss.length)->Kt fs (g::q) (es.map vlD++ts) rs (m+k) j
 |[],_,_,_,_,_,_,.nil,k=>by rw[Nat.zero_add];exact k
 |_::_,_,_,_,_,_,_,.cons h t,k=>by
  rw[Nat.add_assoc];exact .val h (Kt.vals t (by rw[List.reverse_cons,List.append_assoc,zLc,<- Nat.add_assoc,Nat.add_right_comm]at k;exact k))
def Et.pos{fs:Sig}{g:Env}{e:D}{s:Str}{n:Nat}(h:Et fs g e s n):1<=n:=by
 cases h <;> omega
def Kt.len{fs:Sig}{B:List Env}{ts:List D}{rs:List Str}{k j:Nat}(h:Kt fs B ts rs k j)(hl:∀ f ss s,sigL fs f=some (ss,s)->ss.length<=4):ts.length+rs.length<=k+j+2+173*B.length:=by
 induction h with
 |done=>simp only[zLc,zLn];omega
 |val h q ih =>
  have:1<=_:=Et.pos h;simp only[zLc]at ih ⊢;omega
 |call hf _ q ih =>
  simp only[zLc,zLa,List.length_reverse]at ih ⊢;omega
 |_ =>
  simp only[zLc] at *;omega
structure Rw where
 nm:Str
 as:List D
 up:Option Nat
 en:Option D
def Rw.d(r:Rw):D:=.tup [.str r.nm,.tup r.as,r.up.elim .non λn=>.int n,.bl r.en.isSome,r.en.getD .non]
structure Sx where
 cl:List Rw
 st:List (Nat×Str)
 fr:List (Nat×List (Str×D))
 ts:List D
 rs:List D
def Sx.ms(s:Sx):MS:=stt (s.cl.map Rw.d) (s.st.map λp=>stp p.1 p.2) (s.fr.reverse.map λp=>((p.1:Int),p.2)) s.ts.reverse s.rs.reverse
def ad(st:List (Nat×Str))(n:Nat)(k:Str):List (Nat×Str):=st++[(n,k)]
inductive Nx(fns:List (Str×D)):Sx->Option Str->Sx->Prop
 |num {cl st fr ts rs} (i:Int):Nx fns ⟨cl,st,fr,vlD (.tup [.str "num",.int i])::ts,rs⟩ none ⟨cl,st,fr,ts,.int i::rs⟩
 |var {cl st n r fr z ts rs} {v:D} (h:rowG r z=some v) (pv:zj v):Nx fns ⟨cl,st,(n,r)::fr,vlD (.tup [.str "var",.str z])::ts,rs⟩ none ⟨cl,st,(n,r)::fr,ts,v::rs⟩
 |nil {cl st fr ts rs}:Nx fns ⟨cl,st,fr,vlD (.tup [.str "nil"])::ts,rs⟩ none ⟨cl,st,fr,ts,.tup []::rs⟩
 |leaf {cl st fr ts rs}:Nx fns ⟨cl,st,fr,vlD (.tup [.str "leaf"])::ts,rs⟩ none ⟨cl,st,fr,ts,.non::rs⟩
 |op {cl st fr ts rs} {k:Str} {es:List D} (hk:k = "cons"\/k = "node"\/k = "add"\/k = "sub") (pe:zw es) (l:es.length<=10):Nx fns ⟨cl,st,fr,vlD (.tup (.str k::es))::ts,rs⟩ none ⟨cl,st,fr,es.map vlD++apD (.tup (.str k::es))::ts,rs⟩
 |call {cl st fr ts rs} {f:Str} {es:List D} (pe:zw es) (l:es.length<=10):Nx fns ⟨cl,st,fr,vlD (.tup [.str "call",.str f,.tup es])::ts,rs⟩ none ⟨cl,st,fr,es.map vlD++apD (.tup [.str "call",.str f,.tup es])::ts,rs⟩
 |give {cl st fr ts rs} {e:D} (pe:zj e):Nx fns ⟨cl,st,fr,bdD (.tup [.str "give",e])::ts,rs⟩ none ⟨cl,st,fr,vlD e::ts,rs⟩
 |bind {cl st fr ts rs} {z:Str} {e b:D} (pe:zj e) (pb:zj b):Nx fns ⟨cl,st,fr,bdD (.tup [.str "let",.str z,e,b])::ts,rs⟩ none ⟨cl,st,fr,vlD e::brD (.tup [.str "let",.str z,e,b])::ts,rs⟩
 |less {cl st fr ts rs} {a b c d:D} (pa:zj a) (pb:zj b) (pc:zj c) (pd:zj d):Nx fns ⟨cl,st,fr,bdD (.tup [.str "less",a,b,c,d])::ts,rs⟩ none ⟨cl,st,fr,vlD a::vlD b::chD (.tup [.str "less",a,b,c,d])::ts,rs⟩
 |leave {c1 c2 st n r fr ts v rs} {q:Rw} (hn:c1.length=n) (he:q.en=none) (pa:zw q.as) (pv:zj v):Nx fns ⟨c1++q::c2,st,(n,r)::fr,lvD::ts,v::rs⟩ none ⟨c1++{q with en:=some v}::c2,st,fr,ts,v::rs⟩
 |sum {cl st n r fr ts rs} {k:Str} {a b:D} {x y:Int} (hk:k = "add"\/k = "sub"):Nx fns ⟨cl,st,(n,r)::fr,apD (.tup [.str k,a,b])::ts,.int y::.int x::rs⟩ (some "sum") ⟨cl,ad st n "sum",(n,r)::fr,ts,.int (if k = "add" then x+y else x-y)::rs⟩
 |cons {cl st n r fr ts rs} {a b:D} {x:Int} {l:List Int} (h:l.length<100):Nx fns ⟨cl,st,(n,r)::fr,apD (.tup [.str "cons",a,b])::ts,.tup (l.map D.int)::.int x::rs⟩ (some "make") ⟨cl,ad st n "make",(n,r)::fr,ts,.tup (.int x::l.map D.int)::rs⟩
 |node {cl st n r fr ts rs} {a b c:D} {x:Int} {t u:Tr} (h:t.nodes+u.nodes<100):Nx fns ⟨cl,st,(n,r)::fr,apD (.tup [.str "node",a,b,c])::ts,u.d::.int x::t.d::rs⟩ (some "make") ⟨cl,ad st n "make",(n,r)::fr,ts,(Tr.nd t x u).d::rs⟩
 |bring {cl st n r fr ts v rs} {z:Str} {e b:D} (nd:(r.map Prod.fst++[z]).Nodup) (pe:zj e) (pb:zj b) (pv:zj v) (br:r.length<=800):Nx fns ⟨cl,st,(n,r)::fr,brD (.tup [.str "let",.str z,e,b])::ts,v::rs⟩ (some "let") ⟨cl,ad st n "let",(n,r++[(z,v)])::fr,bdD b::ts,rs⟩
 |choose {cl st n r fr ts rs} {a b c d:D} {x y:Int} (pc:zj c) (pd:zj d):Nx fns ⟨cl,st,(n,r)::fr,chD (.tup [.str "less",a,b,c,d])::ts,.int y::.int x::rs⟩ (some "less") ⟨cl,ad st n "less",(n,r)::fr,bdD (if x<y then c else d)::ts,rs⟩
 |openN {cl st n r fr ts rs} {x h t:Str} {b c:D} (hv:rowG r x=some (.tup [])) (nd:(r.map Prod.fst++[h,t]).Nodup) (pb:zj b) (pc:zj c) (br:r.length<=800):Nx fns ⟨cl,st,(n,r)::fr,bdD (.tup [.str "list",.str x,b,.str h,.str t,c])::ts,rs⟩ (some "open") ⟨cl,ad st n "open",(n,r)::fr,bdD b::ts,rs⟩
 |openC {cl st n r fr ts rs} {x h t:Str} {b c:D} {i:Int} {l:List Int} (hv:rowG r x=some (.tup (.int i::l.map D.int))) (nd:(r.map Prod.fst++[h,t]).Nodup) (pb:zj b) (pc:zj c) (br:r.length<=800):Nx fns ⟨cl,st,(n,r)::fr,bdD (.tup [.str "list",.str x,b,.str h,.str t,c])::ts,rs⟩ (some "open") ⟨cl,ad st n "open",(n,r++[(h,.int i),(t,.tup (l.map D.int))])::fr,bdD c::ts,rs⟩
 |openL {cl st n r fr ts rs} {x l v w:Str} {b c:D} (hv:rowG r x=some .non) (pb:zj b) (pc:zj c) (br:r.length<=800):Nx fns ⟨cl,st,(n,r)::fr,bdD (.tup [.str "tree",.str x,b,.str l,.str v,.str w,c])::ts,rs⟩ (some "open") ⟨cl,ad st n "open",(n,r)::fr,bdD b::ts,rs⟩
 |openT {cl st n r fr ts rs} {x l v w:Str} {b c:D} {i:Int} {t u:Tr} (hv:rowG r x=some (Tr.nd t i u).d) (hn:(Tr.nd t i u).nodes<=100) (nd:(r.map Prod.fst++[l,v,w]).Nodup) (pb:zj b) (pc:zj c) (br:r.length<=800):Nx fns ⟨cl,st,(n,r)::fr,bdD (.tup [.str "tree",.str x,b,.str l,.str v,.str w,c])::ts,rs⟩ (some "open") ⟨cl,ad st n "open",(n,r++[(l,t.d),(v,.int i),(w,u.d)])::fr,bdD c::ts,rs⟩
 |enter {cl st fr ts rs} {f:Str} {es us:List D} {n0 sz b:D} {ps:List (Str×D)} (hf:rowG fns f=some (.tup [n0,pmD ps,sz,b])) (le:us.length=es.length) (ne:us≠[]) (l10:us.length<=10) (pu:zw us) (lp:ps.length=us.length) (nd:(ps.map Prod.fst).Nodup) (h20:fr.length<20):Nx fns ⟨cl,st,fr,apD (.tup [.str "call",.str f,.tup es])::ts,us.reverse++rs⟩ (some "call") ⟨cl++[⟨f,us,fr.head?.map Prod.fst,none⟩],ad st cl.length "call",(cl.length,(ps.map Prod.fst).zip us)::fr,bdD b::lvD::ts,rs⟩
inductive Cx1(fns:List (Str×D)):Sx->Prop
 |cons {cl st n r fr ts rs} {a b:D} {x:Int} {l:List Int} (h:l.length=100):Cx1 fns ⟨cl,st,(n,r)::fr,apD (.tup [.str "cons",a,b])::ts,.tup (l.map D.int)::.int x::rs⟩
 |node {cl st n r fr ts rs} {a b c:D} {x:Int} {t u:Tr} (ht:t.nodes<=100) (hu:u.nodes<=100) (h:100<=t.nodes+u.nodes):Cx1 fns ⟨cl,st,(n,r)::fr,apD (.tup [.str "node",a,b,c])::ts,u.d::.int x::t.d::rs⟩
 |enter {cl st fr ts rs} {f:Str} {es us:List D} {n0 sz b:D} {ps:List (Str×D)} (hf:rowG fns f=some (.tup [n0,pmD ps,sz,b])) (le:us.length=es.length) (ne:us≠[]) (l10:us.length<=10) (pu:zw us) (lp:ps.length=us.length) (nd:(ps.map Prod.fst).Nodup) (pf:zj (.tup [n0,pmD ps,sz,b])) (h20:20<=fr.length):Cx1 fns ⟨cl,st,fr,apD (.tup [.str "call",.str f,.tup es])::ts,us.reverse++rs⟩
def Et.pure{fs:Sig}{g:Env}{e:D}{s:Str}{n:Nat}(h:Et fs g e s n):zj e:=Et.rec (motive_1:=λe _ _ _=>zj e) (motive_2:=λes _ _ _=>zw es) (λ_=>⟨trivial,trivial,trivial⟩) (λ_=>⟨trivial,trivial,trivial⟩) ⟨trivial,trivial⟩ ⟨trivial,trivial⟩ (λ_ _ _ a b=>⟨trivial,a,b,trivial⟩) (λ_ _ a b=>⟨trivial,a,b,trivial⟩) (λ_ _ _ a b c=>⟨trivial,a,b,c,trivial⟩) (λ_ _ i=>⟨trivial,trivial,i,trivial⟩) trivial (λ_ _ i j=>⟨i,j⟩) h
def Ets.pure{fs:Sig}{g:Env}{es:List D}{q:List Str}{n:Nat}(h:Ets fs g es q n):zw es:=Ets.rec (motive_1:=λe _ _ _=>zj e) (motive_2:=λes _ _ _=>zw es) (λ_=>⟨trivial,trivial,trivial⟩) (λ_=>⟨trivial,trivial,trivial⟩) ⟨trivial,trivial⟩ ⟨trivial,trivial⟩ (λ_ _ _ a b=>⟨trivial,a,b,trivial⟩) (λ_ _ a b=>⟨trivial,a,b,trivial⟩) (λ_ _ _ a b c=>⟨trivial,a,b,c,trivial⟩) (λ_ _ i=>⟨trivial,trivial,i,trivial⟩) trivial (λ_ _ i j=>⟨i,j⟩) h
theorem Ets.len{fs:Sig}{g:Env}:∀{es:List D}{ss:List Str}{n:Nat},Ets fs g es ss n->es.length=ss.length
 |_,_,_,.nil=>rfl
 |_,_,_,.cons _ t=>by rw[zLc,zLc,t.len]
theorem Bt.pure{fs:Sig}{g:Env}{b:D}{s:Str}(h:Bt fs g b s):zj b:=by
 induction h with
 |give h _=>exact⟨trivial,h.pure,trivial⟩
 |bind _ h _ _ _ i=>exact⟨trivial,trivial,h.pure,i,trivial⟩
 |less a b _ _ _ _ i j=>exact⟨trivial,a.pure,b.pure,i,j,trivial⟩
 |list _ _ _ _ _ i j=>exact⟨trivial,trivial,i,trivial,trivial,j,trivial⟩
 |tree _ _ _ _ _ i j=>exact⟨trivial,trivial,i,trivial,trivial,trivial,j,trivial⟩
def FrT:List Env->List (Nat×List (Str×D))->Prop
 |[],l=>l=[]
 |g::gs,l=>∃n r q,l=(n,r)::q/\Ft1 g r/\FrT gs q
def RsT:List Str->List D->Prop
 |[],l=>l=[]
 |s::ss,l=>∃v q,l=v::q/\Vt s v/\RsT ss q
theorem RsT.split:∀{a b:List Str}{l:List D},RsT (a++b) l->∃p q,l=p++q/\RsT a p/\RsT b q
 |[],_,l,h=>⟨[],l,rfl,rfl,h⟩
 |s::a,b,_,⟨v,q,rfl,hv,h⟩=>let ⟨p,q',e,h1,h2⟩:=RsT.split (a:=a) (b:=b) h;⟨v::p,q',by rw[e];rfl,⟨v,p,rfl,hv,h1⟩,h2⟩
theorem RsT.len:∀{a:List Str}{l:List D},RsT a l->l.length=a.length
 |[],_,h=>by cases (show _=[] from h);rfl
 |_::_,_,⟨_,_,rfl,_,h⟩=>by rw[zLc,zLc,h.len]
theorem RsT.app:∀{a b:List Str}{p q:List D},RsT a p->RsT b q->RsT (a++b) (p++q)
 |[],_,_,_,h,k=>by cases (show _=[] from h);exact k
 |_::_,_,_,_,⟨v,r,rfl,hv,h⟩,k=>⟨v,r++_,rfl,hv,h.app k⟩
theorem RsT.rev:∀{a:List Str}{l:List D},RsT a l->RsT a.reverse l.reverse
 |[],_,h=>by cases (show _=[] from h);rfl
 |s::a,_,⟨v,r,rfl,hv,h⟩=>by
  rw[List.reverse_cons,List.reverse_cons];exact h.rev.app ⟨v,[],rfl,hv,rfl⟩
theorem RsT.pure:∀{a:List Str}{l:List D},RsT a l->zw l
 |[],_,h=>by cases (show _=[] from h);trivial
 |_::_,_,⟨v,r,rfl,hv,h⟩=>⟨hv.pure,h.pure⟩
def Pv(fns:List (Str×D))(fs:Sig):Prop:=∀f ss s,sigL fs f=some (ss,s)->∃n0 ps sz b,rowG fns f=some (.tup [n0,pmD ps,sz,b])/\ps.length=ss.length/\1<=ss.length/\ss.length<=4/\(ps.map Prod.fst).Nodup/\zj (.tup [n0,pmD ps,sz,b])/\Bt fs ((ps.map Prod.fst).zip ss) b s
structure Ok(fs:Sig)(s:Sx):Prop where
 ex:∃gs ss k j,Kt fs gs s.ts ss k j/\k+j<=171/\FrT gs s.fr/\RsT ss s.rs
 nd:(s.fr.map Prod.fst).Nodup
 op:∀n∈s.fr.map Prod.fst,∃q:Rw,s.cl[n]?=some q/\q.en=none
 pa:∀q∈s.cl,zw q.as
 f20:s.fr.length<=20
 cs:s.cl.length<=s.st.length
theorem Qp:∀{zs:List Str}{ss:List Str}{us:List D},zs.length=ss.length->RsT ss us->Ft1 (zs.zip ss) (zs.zip us)
 |[],[],_,_,h=>by cases (show _=[] from h);rfl
 |z::zs,s::ss,_,hl,⟨v,q,rfl,hv,h⟩=>⟨v,zs.zip q,rfl,hv,Qp (Nat.succ.inj hl) h⟩
def O5{s:List Rw}{n:Nat}{q:Rw}(h:s[n]?=some q):∃a b,s=a++q::b/\a.length=n:=by
 have hl:=(zag.mp h).1;refine⟨s.take n,s.drop (n+1),?_,by rw[List.length_take];omega⟩
 rw[<- (zag.mp h).2,List.getElem_cons_drop hl,List.take_append_drop]
def ci{d:D}(h:Vt "num" d):∃i:Int,d=.int i:=by
 rcases h with⟨_,h⟩|⟨e,_⟩|⟨e,_⟩
 ·exact h
 ·exact absurd e (by decide)
 exact absurd e (by decide)
def Tp{d:D}(h:Vt "list" d):∃l:List Int,d=.tup (l.map D.int)/\l.length<=100:=by
 rcases h with⟨e,_⟩|⟨_,h⟩|⟨e,_⟩
 ·exact absurd e (by decide)
 ·exact h
 exact absurd e (by decide)
def Xv{d:D}(h:Vt "tree" d):∃t:Tr,d=t.d/\t.nodes<=100:=by
 rcases h with⟨e,_⟩|⟨e,_⟩|⟨_,h⟩
 ·exact absurd e (by decide)
 ·exact absurd e (by decide)
 exact h
def okI{fs:Sig}{s:Sx}{B:List Env}{q:List Str}{k j:Nat}(h:Kt fs B s.ts q k j)(h1:k+j<=171)(h2:FrT B s.fr)(I:RsT q s.rs):∃B q k j,Kt fs B s.ts q k j/\k+j<=171/\FrT B s.fr/\RsT q s.rs:=⟨B,q,k,j,h,h1,h2,I⟩
def nxI{fns:List (Str×D)}{fs:Sig}{s s':Sx}{l:Option Str}(h:Nx fns s l s')(o:Ok fs s'):Cx1 fns s\/∃l s',Nx fns s l s'/\Ok fs s':=.inr ⟨l,s',h,o⟩
def rsI{s:Str}{j:List Str}{v:D}{q:List D}(h:Vt s v)(k:RsT j q):RsT (s::j) (v::q):=⟨v,q,rfl,h,k⟩
def frI{g:Env}{j:List Env}{n:Nat}{r:List (Str×D)}{q:List (Nat×List (Str×D))}(h:Ft1 g r)(k:FrT j q):FrT (g::j) ((n,r)::q):=⟨n,r,q,rfl,h,k⟩
def Oy{fns:List (Str×D)}{fs:Sig}(hF:Pv fns fs){s:Sx}(h:Ok fs s)(hn:s.ts≠[]):Cx1 fns s\/∃l s',Nx fns s l s'/\Ok fs s':=by
 obtain⟨⟨gs,ss,K,J,kt,kj,fr,rs⟩,nd,op,N,B,cs⟩:=h;obtain⟨cl,st,F,ts,R⟩:=s
 dsimp only at *
 have Z:∀(n:Nat)(k:Str),cl.length<=(ad st n k).length:=λn k=>by unfold ad;rw[zLa];omega
 cases kt with
 |done=>exact absurd rfl hn
 |val he k =>
  cases he with
  |num i=>exact nxI (.num i) ⟨okI k (by omega) fr (rsI (.inl ⟨rfl,i,rfl⟩) rs),nd,op,N,B,cs⟩
  |var hv =>
   obtain⟨n,r,q,rfl,M,I⟩:=fr;obtain⟨v,e,hv⟩:=M.get hv;exact nxI (.var e hv.pure) ⟨okI k (by omega) (frI M I) (rsI hv rs),nd,op,N,B,cs⟩
  |nil=>exact nxI (.nil) ⟨okI k (by omega) fr (rsI (.inr (.inl ⟨rfl,[],rfl,by decide⟩)) rs),nd,op,N,B,cs⟩
  |leaf=>exact nxI (.leaf) ⟨okI k (by omega) fr (rsI (.inr (.inr ⟨rfl,.lf,rfl,by decide⟩)) rs),nd,op,N,B,cs⟩
  |sum hk a b=>exact nxI (.op (by rcases hk with rfl|rfl <;> simp) ⟨a.pure,b.pure,trivial⟩ (Nat.le_of_ble_eq_true rfl)) ⟨okI (Kt.vals (.cons a (.cons b .nil)) (.sum hk k)) (by omega) fr rs,nd,op,N,B,cs⟩
  |cons a b=>exact nxI (.op (.inl rfl) ⟨a.pure,b.pure,trivial⟩ (Nat.le_of_ble_eq_true rfl)) ⟨okI (Kt.vals (.cons a (.cons b .nil)) (.cons k)) (by omega) fr rs,nd,op,N,B,cs⟩
  |node a b c=>exact nxI (.op (.inr (.inl rfl)) ⟨a.pure,b.pure,c.pure,trivial⟩ (Nat.le_of_ble_eq_true rfl)) ⟨okI (Kt.vals (.cons a (.cons b (.cons c .nil))) (.node k)) (by omega) fr rs,nd,op,N,B,cs⟩
  |call M he =>
   obtain⟨_,_,_,_,_,_,_,l4,_,_,_⟩:=hF _ _ _ M;exact nxI (.call he.pure (by rw[he.len];omega)) ⟨okI (Kt.vals he (.call M he.len k)) (by omega) fr rs,nd,op,N,B,cs⟩
 |sum hk k =>
  obtain⟨n,r,q,rfl,M,I⟩:=fr;obtain⟨v,_,rfl,h1,w,Q,rfl,h2,rs⟩:=rs;obtain⟨y,rfl⟩:=ci h1;obtain⟨x,rfl⟩:=ci h2;exact nxI (.sum hk) ⟨okI k (by omega) (frI M I) (rsI (.inl ⟨rfl,_,rfl⟩) rs),nd,op,N,B,Z _ _⟩
 |cons k =>
  obtain⟨n,r,q,rfl,M,I⟩:=fr;obtain⟨v,_,rfl,h1,w,Q,rfl,h2,rs⟩:=rs;obtain⟨l,rfl,hl⟩:=Tp h1;obtain⟨x,rfl⟩:=ci h2;by_cases c:l.length<100
  ·exact nxI (.cons c) ⟨okI k (by omega) (frI M I) (rsI (.inr (.inl ⟨rfl,x::l,rfl,c⟩)) rs),nd,op,N,B,Z _ _⟩
  exact .inl (.cons (by omega))
 |node k =>
  obtain⟨n,r,q,rfl,M,I⟩:=fr;obtain⟨v,_,rfl,h1,w,_,rfl,h2,z,Q,rfl,h3,rs⟩:=rs;obtain⟨u,rfl,hu⟩:=Xv h1;obtain⟨x,rfl⟩:=ci h2;obtain⟨t,rfl,ht⟩:=Xv h3;by_cases c:t.nodes+u.nodes<100
  ·exact nxI (.node c) ⟨okI k (by omega) (frI M I) (rsI (.inr (.inr ⟨rfl,.nd t x u,rfl,by show 1+t.nodes+u.nodes<=100;omega⟩)) rs),nd,op,N,B,Z _ _⟩
  exact .inl (.node ht hu (by omega))
 |call M hl k =>
  obtain⟨p,Q,rfl,h1,h2⟩:=rs.split;have h1:=h1.rev;rw[List.reverse_reverse]at h1;obtain⟨us,rfl⟩:∃us,p=us.reverse:=⟨p.reverse,p.reverse_reverse.symm⟩;rw[List.reverse_reverse]at h1;obtain⟨n0,ps,sz,b,e,lp,l1,l4,np,pf,hb⟩:=hF _ _ _ M;have ul:=h1.len;by_cases c:F.length<20
  ·refine nxI (.enter e (by omega) (λz=>by rw[z]at ul;simp at ul;omega) (by omega) h1.pure (by omega) np c) ⟨okI (.body hb k (by omega)) (by omega) (frI (Qp (by rw[zLm];exact lp) h1) fr) h2,?_,?_,?_,c,by unfold ad;rw[zLa,zLa];exact Nat.add_le_add_right cs 1⟩
   ·show(cl.length::F.map Prod.fst).Nodup;refine List.nodup_cons.mpr ⟨λm=>?_,nd⟩;obtain⟨q,hq,_⟩:=op _ m;have:=(zag.mp hq).1;omega
   ·intro p hp;rcases zam.mp hp with rfl|hp
    ·exact⟨_,by show(cl++[_])[cl.length]?=_;rw[List.getElem?_append_right (zaj _),Nat.sub_self];rfl,rfl⟩
    obtain⟨q,hq,z⟩:=op p hp;exact⟨q,by show(cl++[_])[p]?=_;rw[List.getElem?_append_left (zag.mp hq).1];exact hq,z⟩
   intro q hq;rcases zas.mp hq with hq|hq
   ·exact N q hq
   rw[List.mem_singleton.mp hq];exact h1.pure
  exact .inl (.enter e (by omega) (λz=>by rw[z]at ul;simp at ul;omega) (by omega) h1.pure (by omega) np pf (by omega))
 |body hb k kl =>
  cases hb with
  |give he l=>exact nxI (.give he.pure) ⟨okI (.val he (.leave k kl)) (by omega) fr rs,nd,op,N,B,cs⟩
  |bind lg he l ne hb=>exact nxI (.bind he.pure hb.pure) ⟨okI (.val he (.bring lg he.pure ne hb k kl)) (by omega) fr rs,nd,op,N,B,cs⟩
  |less a b l l2 c d=>exact nxI (.less a.pure b.pure c.pure d.pure) ⟨okI (.val a (.val b (.choose c d k kl))) (by omega) fr rs,nd,op,N,B,cs⟩
  |list lg hx hb ne hc =>
   obtain⟨n,r,q,rfl,M,I⟩:=fr;obtain⟨v,e,hv⟩:=M.get hx;obtain⟨l,rfl,hl⟩:=Tp hv;cases l with
   |nil=>exact nxI (.openN e (by rw[M.names];exact ne) hb.pure hc.pure (by rw[M.len];omega)) ⟨okI (.body hb k kl) (by omega) (frI M I) rs,nd,op,N,B,Z _ _⟩
   |cons i l=>exact nxI (.openC e (by rw[M.names];exact ne) hb.pure hc.pure (by rw[M.len];omega)) ⟨okI (.body hc k kl) (by omega) (frI (M.add ⟨_,_,rfl,.inl ⟨rfl,i,rfl⟩,_,_,rfl,.inr (.inl ⟨rfl,l,rfl,by have:l.length+1<=100:=hl;omega⟩),rfl⟩) I) rs,nd,op,N,B,Z _ _⟩
  |tree lg hx hb ne hc =>
   obtain⟨n,r,q,rfl,M,I⟩:=fr;obtain⟨v,e,hv⟩:=M.get hx;obtain⟨t,rfl,ht⟩:=Xv hv;cases t with
   |lf=>exact nxI (.openL e hb.pure hc.pure (by rw[M.len];omega)) ⟨okI (.body hb k kl) (by omega) (frI M I) rs,nd,op,N,B,Z _ _⟩
   |nd t i u =>
    have a4:1+t.nodes+u.nodes<=100:=ht;exact nxI (.openT e ht (by rw[M.names];exact ne) hb.pure hc.pure (by rw[M.len];omega)) ⟨okI (.body hc k kl) (by omega) (frI (M.add ⟨_,_,rfl,.inr (.inr ⟨rfl,t,rfl,by omega⟩),_,_,rfl,.inl ⟨rfl,i,rfl⟩,_,_,rfl,.inr (.inr ⟨rfl,u,rfl,by omega⟩),rfl⟩) I) rs,nd,op,N,B,Z _ _⟩
 |bring lg pe ne hb k kl =>
  obtain⟨n,r,q,rfl,M,I⟩:=fr;obtain⟨v,Q,rfl,h1,rs⟩:=rs;exact nxI (.bring (by rw[M.names];exact ne) pe hb.pure h1.pure (by rw[M.len];omega)) ⟨okI (.body hb k kl) (by omega) (frI (M.add ⟨v,[],rfl,h1,rfl⟩) I) rs,nd,op,N,B,Z _ _⟩
 |choose hc hd k kl =>
  obtain⟨n,r,q,rfl,M,I⟩:=fr;obtain⟨v,_,rfl,h1,w,Q,rfl,h2,rs⟩:=rs;obtain⟨y,rfl⟩:=ci h1;obtain⟨x,rfl⟩:=ci h2;exact nxI (.choose hc.pure hd.pure) ⟨okI (.body (s:=_) (by split <;> assumption) k kl) (by omega) (frI M I) rs,nd,op,N,B,Z _ _⟩
 |leave k kl =>
  obtain⟨n,r,q,rfl,M,I⟩:=fr;obtain⟨v,Q,rfl,h1,rs⟩:=rs;obtain⟨w,hw,en⟩:=op n zao;obtain⟨c1,c2,rfl,hc⟩:=O5 hw;have a0:=List.nodup_cons.mp nd;refine nxI (.leave hc en (N w (by simp)) h1.pure) ⟨okI k (by omega) I (rsI h1 rs),a0.2,?_,?_,by have B:q.length+1<=20:=B;show q.length<=20;omega,by show(c1++_::c2).length<=_;rw[zLa,zLc]at cs ⊢;exact cs⟩
  ·intro p hp;obtain⟨x,hx,ex⟩:=op p (zal _ hp);have pn:p≠n:=λe=>a0.1 (e▸hp);refine⟨x,?_,ex⟩;show(c1++_::c2)[p]?=_;rw[<- hx];rcases Nat.lt_trichotomy p c1.length with z|z|z
   ·rw[List.getElem?_append_left z,List.getElem?_append_left z]
   ·omega
   rw[List.getElem?_append_right (by omega),List.getElem?_append_right (by omega)]
   obtain⟨j,hj⟩:∃j,p-c1.length=j+1:=⟨p-c1.length-1,by omega⟩
   rw[hj];rfl
  intro x hx;rcases zas.mp hx with hx|hx
  ·exact N x (by simp[hx])
  rcases zam.mp hx with rfl|hx
  ·exact N w (by simp)
  exact N x (by simp[hx])
structure Sz(s:Sx):Prop where
 ln:s.cl.length+s.st.length+s.ts.length+s.rs.length<=8000
 pr:zw s.rs
def yp{l:List D}(h:zw l):zw l.reverse:=yd.mpr λd j=>yd.mp h d (List.mem_reverse.mp j)
section
variable{fns:List (Str×D)}{most:Int}{P:MS->Prop}
def Hq{cl st ts rs:List D}{fs:List (Int×List (Str×D))}{i:Int}(b:Sm1 cl st ts rs)(h:Fin C R fns most P (stt cl st fs ts (rs++[.int i]))):Fin C R fns most P (stt cl st fs (ts++[vlD (.tup [.str "num",.int i])]) rs) :=
 yc rfl ⟨ts,.inr (.inl ⟨_,rfl,λY j=>⟨fns,most,_,rfl,by have:=b.1;show ts.length<=10000;omega,by have:=b.1;show rs.length<=10000;omega,.inl ⟨_,rfl,trivial,j⟩⟩⟩)⟩ h
def Ma{cl st ts rs:List D}{fs:List (Int×List (Str×D))}{z:Str}{e b1:D}(b:Sm1 cl st ts rs)(q:zj e)(B:zj b1)(h:Fin C R fns most P (stt cl st fs (ts++[brD (.tup [.str "let",.str z,e,b1])]++[vlD e]) rs)):Fin C R fns most P (stt cl st fs (ts++[bdD (.tup [.str "let",.str z,e,b1])]) rs) :=
 yc rfl ⟨ts,.inl ⟨_,rfl,λY j=>⟨fns,most,_,rfl,by have:=b.1;show ts.length<=10000;omega,.inr (.inl ⟨.str z,e,b1,rfl,trivial,q,B,j⟩)⟩⟩⟩ h
def Kl{s s':Sx}(b:Sz s)(h:Nx fns s none s')(k:Fin C R fns most P s'.ms):Fin C R fns most P s.ms:=by
 have bl:=b.ln;have N:=b.pr;have j:∀{x:D}{ts:List D},s.ts=x::ts->Sm1 (s.cl.map Rw.d) (s.st.map λp=>stp p.1 p.2) ts.reverse s.rs.reverse:=λe=>by
  rw[e,zLc]at bl;exact⟨by simp only[zLm,List.length_reverse];omega,yp N⟩
 cases h <;> (unfold Sx.ms at k ⊢;simp only[List.reverse_cons,List.reverse_append,zMa,List.map_cons,List.map_nil]at k ⊢)
 case num i=>exact Hq (j rfl) k
 case var hv pv=>exact Hn (j rfl) hv pv k
 case nil=>exact Hr (j rfl) k
 case leaf=>exact M7 (j rfl) k
 case op hk pe l=>exact C2 (j rfl) hk (by omega) pe (by rw[<- List.map_reverse]at k;exact k)
 case call pe l=>exact M9 (j rfl) (by omega) pe (by rw[<- List.map_reverse]at k;exact k)
 case give pe=>exact M8 (j rfl) pe k
 case bind pe pb=>exact Ma (j rfl) pe pb k
 case less pa pb pc pd=>exact M6 (j rfl) pa pb pc pd k
 case leave c1 c2 st n r fr ts v rs q hn he pa pv =>
  obtain⟨B,I,up,M⟩:=q;cases (show M=none from he);have e1:c1.map Rw.d++Rw.d ⟨B,I,up,none⟩::c2.map Rw.d=c1.map Rw.d++[.tup [.str B,.tup I,up.elim .non λn=>.int n,.bl false,.non]]++c2.map Rw.d:=by rw[List.append_assoc];rfl
  rw[e1];exact P1 (m:=n) (by rw[zLm];exact hn) trivial pa (by cases up <;> trivial) pv (by rw[List.append_assoc];exact k)
end
section
variable{fns:List (Str×D)}{most:Int}{P:MS->Prop}{cl st ts rs:List D}{fs:List (Int×List (Str×D))}{n:Int}{rows:List (Str×D)}{a b e v:D}
def Ho{k:Str}{x y:Int}(I:k = "add"\/k = "sub")(s:Sm1 cl st ts rs)(N:dr most P cl st)(h:¬ most<=st.length->Fin C R fns most P (stt cl (st++[stp n "sum"]) (fs++[(n,rows)]) ts (rs++[.int (if k = "add" then x+y else x-y)]))) :
  Fin C R fns most P (stt cl st (fs++[(n,rows)]) (ts++[apD (.tup [.str k,a,b])]) (rs++[.int x]++[.int y])):=by
 have Z:=s.1;have M:rs++[D.int x]++[D.int y]=rs++[.int x,.int y]:=by simp
 have B:(rs++[D.int x]++[D.int y]).length<=10000:=by simp;omega
 by_cases q:most<=st.length
 ·refine yc (s1:={calls:=cl,steps:=st,frames:=fs++[(n,rows)],tasks:=ts,ready:=rs++[.int x]++[.int y],cut:=true}) rfl ⟨ts,.inr (.inr (.inl ⟨_,rfl,λY j=>⟨fns,most,_,rs,rfl,B,s.2,.inr (.inr (.inr ⟨k,a,b,x,y,fs,n,rows,rfl,I,rfl,by show st.length<=10000;omega,M,?_⟩))⟩⟩))⟩ (xk (.inr rfl) (N q _ rfl rfl rfl))
  rw[wl q];exact j
 refine yc rfl ⟨ts,.inr (.inr (.inl ⟨_,rfl,λY j=>⟨fns,most,_,rs,rfl,B,s.2,.inr (.inr (.inr ⟨k,a,b,x,y,fs,n,rows,rfl,I,rfl,by show st.length<=10000;omega,M,?_⟩))⟩⟩))⟩ (h q)
 rw[wk q];exact j
def P2{z:Str}(s:Sm1 cl st ts rs)(I:zj e)(M:zj b)(B:zj v)(br:rows.length<=900)(N:(rows.map Prod.fst++[z]).Nodup)(hc:dr most P cl st)(h:¬ most<=st.length->Fin C R fns most P (stt cl (st++[stp n "let"]) (fs++[(n,rows++[(z,v)])]) (ts++[bdD b]) rs)) :
  Fin C R fns most P (stt cl st (fs++[(n,rows)]) (ts++[brD (.tup [.str "let",.str z,e,b])]) (rs++[v])):=by
 have bb:=s.1;have Z:(rs++[v]).length<=10000:=by simp;omega
 by_cases q:most<=st.length
 ·refine yc (s1:={calls:=cl,steps:=st,frames:=fs++[(n,rows)],tasks:=ts,ready:=rs++[v],cut:=true}) rfl ⟨ts,.inr (.inr (.inr (.inl ⟨_,rfl,λY j=>⟨fns,most,_,fs,n,rows,z,e,b,rs,v,rfl,rfl,rfl,rfl,by show st.length<=10000;omega,Z,by show ts.length<=10000;omega,I,M,B,s.2,br,N,?_⟩⟩)))⟩ (xk (.inr rfl) (hc q _ rfl rfl rfl))
  rw[wl q];exact j
 refine yc rfl ⟨ts,.inr (.inr (.inr (.inl ⟨_,rfl,λY j=>⟨fns,most,_,fs,n,rows,z,e,b,rs,v,rfl,rfl,rfl,rfl,by show st.length<=10000;omega,Z,by show ts.length<=10000;omega,I,M,B,s.2,br,N,?_⟩⟩)))⟩ (h q)
 rw[wk q];exact j
end
theorem Rz:∀{n:Nat}{d:D},okD n d->okD (n+1) d
 |0,d,h=>by
  cases d with
  |non=>trivial
  |bl=>trivial
  |int=>trivial
  |str=>trivial
  |_=>exact h.elim
 |n+1,d,h=>by
  cases d with
  |non=>trivial
  |bl=>trivial
  |int=>trivial
  |str=>trivial
  |tup ds=>exact λx j=>Rz (h x j)
  |lst ds=>exact λx j=>Rz (h x j)
  |_=>exact h.elim
def qi{n m:Nat}{d:D}(hl:n<=m)(h:okD n d):okD m d:=by
 induction hl with
 |refl=>exact h
 |step _ ih=>exact Rz ih
theorem Tr.dep:∀(t:Tr),okD (t.nodes+1) t.d
 |.lf=>trivial
 |.nd l _ r=>λx j=>by
  have h1:=l.dep;have h2:=r.dep;simp only[zam,List.not_mem_nil,or_false]at j;rcases j with rfl|rfl|rfl
  ·exact qi (by show l.nodes+1<=1+l.nodes+r.nodes;omega) h1
  ·rw[yo];trivial
  exact qi (by show r.nodes+1<=1+l.nodes+r.nodes;omega) h2
def Hb(l:List Int):∀d∈l.map D.int,okD 149 d:=λd j=>by
 obtain⟨i,_,rfl⟩:=zah.mp j;rw[yo];trivial
def Cs(fr:List (Nat×List (Str×D))):((fr.head?.map Prod.fst).elim .non λn=>D.int n)=upD (fr.reverse.map λp=>((p.1:Int),p.2)):=by
 cases fr with
 |nil=>rfl
 |cons p l =>
  unfold upD;rw[List.reverse_cons,zMa,List.map_cons,List.map_nil,List.getLast?_append];rfl
section
variable{fns:List (Str×D)}{most:Int}{P:MS->Prop}
def Vb{s s':Sx}{k:Str}(hl:∀ l:List Int,R "list" (.tup (l.map D.int)) l.length)(ht:∀ t:Tr,t.nodes<=201->R "tree" t.d t.nodes)(hf:∀ f d,rowG fns f=some d->zj d)(b:Sz s)(h:Nx fns s (some k) s')(B:dr most P (s.cl.map Rw.d) (s.st.map λp=>stp p.1 p.2))(g:¬ most<=s.st.length->Fin C R fns most P s'.ms):Fin C R fns most P s.ms:=by
 have bl:=b.ln;have I:=b.pr;cases h <;> (unfold Sx.ms at g ⊢;unfold ad at g;simp only[List.reverse_cons,List.reverse_append,List.reverse_reverse,zMa,List.map_cons,List.map_nil]at g ⊢;simp only[zLc,zLa,List.length_reverse]at bl)
 case sum hk =>
  exact Ho hk ⟨by simp only[zLm,List.length_reverse];omega,yp I.2.2⟩ B λq=>g (by rwa [zLm]at q)
 case cons l c =>
  exact U5 (sz:=((_::l:List Int).length:Nat)) ⟨by simp only[zLm,List.length_reverse];omega,yp I.2.2⟩ trivial (tm l) (by rw[zLm];omega) (hl (_::l)) B (λz=>absurd z (by rw[zLc];omega)) λq _=>g (by rwa [zLm]at q)
 case node n r fr ts rs a b1 c1 x t u c =>
  have e:((Tr.nd t x u).nodes:Int)=((1+t.nodes+u.nodes:Nat):Int):=rfl;exact M5 (sz:=((Tr.nd t x u).nodes:Nat)) ⟨by simp only[zLm,List.length_reverse];omega,yp I.2.2.2⟩ ⟨t.pure,trivial,u.pure,trivial⟩ (ht (.nd t x u) (by show 1+t.nodes+u.nodes<=201;omega)) (by rw[e];omega) B λq=>g (by rwa [zLm]at q)
 case bring n r fr ts v rs z e b2 nd pe j pv br =>
  exact P2 ⟨by simp only[zLm,List.length_reverse];omega,yp I.2⟩ pe j pv (by omega) nd B λq=>g (by rwa [zLm]at q)
 case choose pc pd =>
  exact Tb ⟨by simp only[zLm,List.length_reverse];omega,yp I.2.2⟩ pc pd B λq=>g (by rwa [zLm]at q)
 case openN n r fr ts rs x y t b1 c1 hv nd j pc br =>
  exact U4 ⟨by simp only[zLm,List.length_reverse];omega,yp I⟩ hv trivial (λ_ z=>(nomatch z)) j pc (by omega) nd B (λq _=>g (by rwa [zLm]at q)) (λ_ _ _ z=>nomatch z)
 case openC n r fr ts rs x y t b1 c1 i l hv nd j pc br =>
  refine U4 ⟨by simp only[zLm,List.length_reverse];omega,yp I⟩ hv ⟨trivial,tm l⟩ (Hb (i::l)) j pc (by omega) nd B (λ_ z=>nomatch z) (λq v w e=>?_)
  obtain⟨rfl,rfl⟩:=List.cons.inj e;exact g (by rwa [zLm]at q)
 case openL n r fr ts rs x l v w b1 c1 hv j pc br =>
  exact Qy ⟨by simp only[zLm,List.length_reverse];omega,yp I⟩ hv j pc (by omega) B λq=>g (by rwa [zLm]at q)
 case openT n r fr ts rs x l v w b1 c1 i t u hv hn nd j pc br =>
  exact Qx ⟨by simp only[zLm,List.length_reverse];omega,yp I⟩ hv ⟨t.pure,trivial,u.pure,trivial⟩ (qi (by omega) (Tr.nd t i u).dep) j pc (by omega) nd B λq=>g (by rwa [zLm]at q)
 case enter fr ts rs f es us n0 sz b1 ps e le ne l10 pu lp nd h20 =>
  obtain⟨p0,Z,M,j,_⟩:=hf _ _ e;have N:zw rs:=(bf.mp I).2;refine Xc ⟨by simp only[zLm,List.length_reverse];omega,yp N⟩ e le ne l10 pu p0 (yd.mpr λd hd=>?_) M j lp nd (λz=>?_) B λq _=>?_
  ·obtain⟨p,hp,rfl⟩:=zah.mp hd;exact(yd.mp Z _ (zah.mpr ⟨p,hp,rfl⟩)).2.1
  ·rw[zLm,List.length_reverse]at z;omega
  have:=g (by rwa [zLm]at q)
  rw[zLm,<- Cs];exact this
end
section
variable{fns:List (Str×D)}{most:Int}{P:MS->Prop}
def Qz{cl st ts rs:List D}{fs:List (Int×List (Str×D))}{n:Int}{rows:List (Str×D)}{e1 e2 M B q j:D}{sz:Int}(b:Sm1 cl st ts rs)(pl:zw [B,q,j])(Z:R "tree" (.tup [B,q,j]) sz)(z:100<sz)(N:∀ s1:MS,s1.cut=true->s1.calls=cl->s1.steps=st->P s1) :
  Fin C R fns most P (stt cl st (fs++[(n,rows)]) (ts++[apD (.tup [.str "node",e1,e2,M])]) (rs++[B]++[q]++[j])):=by
 have bb:=b.1;have er:rs++[B]++[q]++[j]=rs++[B,q,j]:=by simp
 refine yc (s1:={calls:=cl,steps:=st,frames:=fs++[(n,rows)],tasks:=ts,ready:=rs,cut:=true}) rfl ⟨ts,.inr (.inr (.inl ⟨_,rfl,λY I=>⟨fns,most,_,rs,rfl,by show(rs++[B]++[q]++[j]).length<=10000;simp;omega,b.2,.inr (.inr (.inl ⟨e1,e2,M,B,q,j,rfl,er,pl.1,pl.2.1,pl.2.2.1,fns,most,_,fs,n,rows,"tree",.tup [B,q,j],sz,rfl,rfl,rfl,by show st.length<=10000;omega,by show rs.length<=10000;omega,pl,Z,?_⟩))⟩⟩))⟩ (xk (.inr rfl) (N _ rfl rfl rfl))
 rw[if_pos z];exact I
def Kk{s:Sx}(hl:∀ l:List Int,R "list" (.tup (l.map D.int)) l.length)(ht:∀ t:Tr,t.nodes<=201->R "tree" t.d t.nodes)(b:Sz s)(h:Cx1 fns s)(k:∀ s1:MS,s1.cut=true->s1.calls=s.cl.map Rw.d->s1.steps=s.st.map (λp=>stp p.1 p.2)->P s1):Fin C R fns most P s.ms:=by
 have bl:=b.ln;have j:=b.pr;have q:dr most P (s.cl.map Rw.d) (s.st.map λp=>stp p.1 p.2):=λ_=>k;cases h <;> (unfold Sx.ms;simp only[List.reverse_cons,List.reverse_append,List.reverse_reverse,zMa,List.map_cons,List.map_nil];simp only[zLc,zLa,List.length_reverse]at bl)
 case cons l c =>
  exact U5 (sz:=((_::l:List Int).length:Nat)) ⟨by simp only[zLm,List.length_reverse];omega,yp j.2.2⟩ trivial (tm l) (by rw[zLm];omega) (hl (_::l)) q (λ_=>k) λ_ z=>absurd (show(100:Int)<((_::l:List Int).length:Nat) by rw[zLc];omega) z
 case node n r fr ts rs a b1 c1 x t u h1 h2 c =>
  have e:((Tr.nd t x u).nodes:Int)=((1+t.nodes+u.nodes:Nat):Int):=rfl;exact Qz (sz:=((Tr.nd t x u).nodes:Nat)) ⟨by simp only[zLm,List.length_reverse];omega,yp j.2.2.2⟩ ⟨t.pure,trivial,u.pure,trivial⟩ (ht (.nd t x u) (by show 1+t.nodes+u.nodes<=201;omega)) (by rw[e];omega) k
 case enter fr ts rs f es us n0 sz b1 ps e le ne l10 pu lp nd pf h20 =>
  obtain⟨Z,M,B,N,_⟩:=pf;have I:zw rs:=(bf.mp j).2;refine Xc ⟨by simp only[zLm,List.length_reverse];omega,yp I⟩ e le ne l10 pu Z (yd.mpr λd hd=>?_) B N lp nd (λ_=>k) q λ_ z=>absurd (show 20<=(fr.reverse.map λp=>((p.1:Int),p.2)).length by rw[zLm,List.length_reverse];exact h20) z
  obtain⟨p,hp,rfl⟩:=zah.mp hd;exact(yd.mp M _ (zah.mpr ⟨p,hp,rfl⟩)).2.1
end
inductive Rn(fns:List (Str×D))(fs:Sig)(m:Nat):Sx->Sx->Bool->Prop
 |done {s:Sx} (o:Ok fs s) (h:s.ts=[]):Rn fns fs m s s false
 |cutB {s:Sx} (o:Ok fs s) (h:Cx1 fns s):Rn fns fs m s s true
 |cutM {s s':Sx} {k:Str} (o:Ok fs s) (h:Nx fns s (some k) s') (l:m<=s.st.length):Rn fns fs m s s true
 |adm {s s' t:Sx} {b:Bool} (o:Ok fs s) (h:Nx fns s none s') (r:Rn fns fs m s' t b):Rn fns fs m s t b
 |stp {s s' t:Sx} {k:Str} {b:Bool} (o:Ok fs s) (h:Nx fns s (some k) s') (l:s.st.length<m) (r:Rn fns fs m s' t b):Rn fns fs m s t b
def Nx.len{fns:List (Str×D)}{s s':Sx}{l:Option Str}(h:Nx fns s l s'):s'.st.length=s.st.length+(if l.isSome then 1 else 0):=by
 cases h <;> first|rfl|(show(ad _ _ _).length=_;unfold ad;rw[zLa];rfl)
def wtT(d:D):Nat:=match d with
 |.tup [.str k,x]=>if k = "value" then 2*sizeOf x else if k = "body" then 2*sizeOf x+1 else 1
 |_=>1
def wtS:List D->Nat
 |[]=>0
 |t::ts=>wtT t+wtS ts
def ju(e:D):wtT (vlD e)=2*sizeOf e:=rfl
def K6(e:D):wtT (bdD e)=2*sizeOf e+1:=by
 unfold bdD wtT
 dsimp only
 rw[if_neg (by decide),if_pos rfl]
def Gi(e:D):wtT (apD e)=1:=by
 unfold apD wtT
 dsimp only
 rw[if_neg (by decide),if_neg (by decide)]
def Cr(e:D):wtT (brD e)=1:=by
 unfold brD wtT
 dsimp only
 rw[if_neg (by decide),if_neg (by decide)]
def Cq(e:D):wtT (chD e)=1:=by
 unfold chD wtT
 dsimp only
 rw[if_neg (by decide),if_neg (by decide)]
def To(es:List D)(ts:List D):wtS (es.map vlD++ts)+2<=2*sizeOf es+wtS ts:=by
 induction es with
 |nil=>show wtS ts+2<=2*1+_;omega
 |cons e es ih =>
  show wtT (vlD e)+wtS (es.map vlD++ts)+2<=2*(1+sizeOf e+sizeOf es)+_;rw[ju];omega
def Nx.down{fns:List (Str×D)}{s s':Sx}(h:Nx fns s none s'):wtS s'.ts<wtS s.ts:=by
 cases h
 case num=>show _<wtT _+_;rw[ju];simp;omega
 case var=>show _<wtT _+_;rw[ju];simp;omega
 case nil=>show _<wtT _+_;rw[ju];simp;omega
 case leaf=>show _<wtT _+_;rw[ju];simp;omega
 case op ts rs k es _ _ _ =>
  have:=To es (apD (.tup (.str k::es))::ts);show wtS (es.map vlD++apD (.tup (.str k::es))::ts)<wtT _+wtS ts;have e:wtS (apD (.tup (.str k::es))::ts)=1+wtS ts:=by show wtT _+_=_;rw[Gi]
  rw[ju];simp;omega
 case call ts rs f es _ _ =>
  have:=To es (apD (.tup [.str "call",.str f,.tup es])::ts);show wtS (es.map vlD++apD (.tup [.str "call",.str f,.tup es])::ts)<wtT _+wtS ts;have e:wtS (apD (.tup [.str "call",.str f,.tup es])::ts)=1+wtS ts:=by show wtT _+_=_;rw[Gi]
  rw[ju];simp;omega
 case give=>show wtT _+_<wtT _+_;rw[ju,K6];simp;omega
 case bind=>show wtT _+(wtT _+_)<wtT _+_;rw[ju,K6,Cr];simp;omega
 case less=>show wtT _+(wtT _+(wtT _+_))<wtT _+_;rw[ju,ju,K6,Cq];simp;omega
 case leave c1 c2 st n r fr ts v rs q _ _ _ _=>show wtS ts<1+wtS ts;omega
theorem Sq{fns:List (Str×D)}{fs:Sig}(j:Pv fns fs)(m:Nat):∀(s:Sx),Ok fs s->∃t c,Rn fns fs m s t c
 |s,o=>by
  by_cases hn:s.ts=[]
  ·exact⟨s,false,.done o hn⟩
  rcases Oy j o hn with h|⟨l,s',h,o'⟩
  ·exact⟨s,true,.cutB o h⟩
  cases l with
  |none =>
   have:=h.down;have hl:=h.len;obtain⟨t,c,r⟩:=Sq j m s' o';exact⟨t,c,.adm o h r⟩
  |some k =>
   by_cases q:m<=s.st.length
   ·exact⟨s,true,.cutM o h q⟩
   have hl:=h.len;obtain⟨t,c,r⟩:=Sq j m s' o';exact⟨t,c,.stp o h (by omega) r⟩
termination_by s=>(m-s.st.length,wtS s.ts)
decreasing_by
 ·rw[hl];exact Prod.Lex.right _ this
 have e:s'.st.length=s.st.length+1:=hl;exact Prod.Lex.left _ _ (by omega)
def Rn.cut{fns:List (Str×D)}{fs:Sig}{m f:Nat}{s t:Sx}{b:Bool}(r:Rn fns fs m s t b)(M:f<=m)(B:s.st.length<=f) :
  (t.st.length<=f/\Rn fns fs f s t b)\/∃u j k,Rn fns fs f s u true/\u.st.length=f/\Nx fns u (some k) j/\Ok fs u/\f<m/\Rn fns fs m j t b:=by
 induction r with
 |done o h=>exact .inl ⟨B,.done o h⟩
 |cutB o h=>exact .inl ⟨B,.cutB o h⟩
 |cutM o h l=>exact .inl ⟨B,.cutM o h (by omega)⟩
 |adm o h r ih =>
  have hl:=h.len;rcases ih (by rw[hl];exact B) with⟨a,b⟩|⟨u,j,k,a,b⟩
  ·exact .inl ⟨a,.adm o h b⟩
  exact .inr ⟨u,j,k,.adm o h a,b⟩
 |stp o h l r ih =>
  have hl:=h.len;rename_i s1 s2 t1 I b1;have e:s2.st.length=s1.st.length+1:=hl;rcases Nat.lt_or_ge s1.st.length f with q|q
  ·rcases ih (by omega) with⟨a,b⟩|⟨u,j,k,a,b⟩
   ·exact .inl ⟨a,.stp o h q b⟩
   exact .inr ⟨u,j,k,.stp o h q a,b⟩
  exact .inr ⟨s1,s2,I,.cutM o h q,by omega,h,o,by omega,r⟩
theorem FrT.len:∀{gs:List Env}{l:List (Nat×List (Str×D))},FrT gs l->l.length=gs.length
 |[],_,h=>by cases (show _=[] from h);rfl
 |_::_,_,⟨_,_,_,rfl,_,h⟩=>by rw[zLc,zLc,h.len]
def N6{fns:List (Str×D)}{fs:Sig}(I:Pv fns fs){s:Sx}(o:Ok fs s)(h:s.st.length<=1000):Sz s:=by
 obtain⟨N,q,k,j,B,M,fr,rs⟩:=o.ex;have a:=B.len λf q s h=>(I f q s h).elim λ_ h=>h.elim λ_ h=>h.elim λ_ h=>h.elim λ_ h=>h.2.2.2.1;have b:=fr.len;have c:=rs.len;have d:=o.f20;have e:=o.cs;exact⟨by omega,rs.pure⟩
section
variable{fns:List (Str×D)}{P:MS->Prop}
def Fk{fs:Sig}{m:Nat}(hl:∀ l:List Int,R "list" (.tup (l.map D.int)) l.length)(B:∀ t:Tr,t.nodes<=201->R "tree" t.d t.nodes)(q:Pv fns fs)(M:∀ f d,rowG fns f=some d->zj d)(Z:m<=1000){s t:Sx}{b:Bool}(r:Rn fns fs m s t b)(N:s.st.length<=m)(I:b=false->P t.ms)(j:b=true->∀ s1:MS,s1.cut=true->s1.calls=t.cl.map Rw.d->s1.steps=t.st.map (λp=>stp p.1 p.2)->P s1):Fin C R fns (m:Int) P s.ms:=by
 induction r with
 |done o h =>
  refine xk (.inl ?_) (I rfl);unfold Sx.ms;rw[h];rfl
 |cutB o h=>exact Kk hl B (N6 q o (by omega)) h (j rfl)
 |cutM o h l=>exact Vb hl B M (N6 q o (by omega)) h (λ_=>j rfl) λz=>absurd (by omega) z
 |adm o h r ih=>exact Kl (N6 q o (by omega)) h (ih (by have:=h.len;rw[this];exact N) I j)
 |stp o h l r ih =>
  have e:=h.len;refine Vb hl B M (N6 q o (by omega)) h (λz=>absurd z ?_) λ_=>ih (by rw[e];exact l) I j
  rw[zLm];omega
end
def UpC(cl:List Rw):List Nat->Prop
 |[]=>True
 |n::l=>(∃q:Rw,cl[n]?=some q/\q.up=l.head?)/\UpC cl l
theorem UpC.mono{a b:List Rw}(h:∀ (n:Nat) (q:Rw),a[n]?=some q->∃ q':Rw,b[n]?=some q'/\q'.up=q.up):∀{l:List Nat},UpC a l->UpC b l
 |[],_=>trivial
 |n::l,⟨⟨q,e,u⟩,t⟩=>let ⟨q',e',u'⟩:=h n q e;⟨⟨q',e',u'.trans u⟩,t.mono h⟩
def tj(p:Nat×Str):Bool:=p.2==("call" : Str)
structure In2(s:Sx):Prop where
 up:UpC s.cl (s.fr.map Prod.fst)
 cv:∀i q,s.cl[i]?=some q->i∉s.fr.map Prod.fst->q.en.isSome=true
 ct:s.cl.length=(s.st.filter tj).length
def Zg{B I:List Rw}{q:Rw}{v:D}{i:Nat}{x:Rw}(h:(B++q::I)[i]?=some x):(B++{q with en:=some v}::I)[i]?=some (if i=B.length then {q with en:=some v} else x)/\(i=B.length->x=q):=by
 rcases Nat.lt_trichotomy i B.length with z|z|z
 ·rw[List.getElem?_append_left z]at h ⊢;rw[if_neg (by omega)]
  exact⟨h,λe=>by omega⟩
 ·subst z;rw[List.getElem?_append_right (zaj _),Nat.sub_self]at h ⊢;rw[if_pos rfl];exact⟨rfl,λ_=>(Option.some.inj h).symm⟩
 rw[List.getElem?_append_right (by omega)]at h ⊢
 obtain⟨j,M⟩:∃j,i-B.length=j+1:=⟨i-B.length-1,by omega⟩
 rw[M]at h ⊢;rw[if_neg (by omega)]
 exact⟨h,λe=>by omega⟩
def A6{st:List (Nat×Str)}{n:Nat}{k:Str}(h:k≠"call"):((ad st n k).filter tj).length=(st.filter tj).length:=by
 unfold ad;rw[List.filter_append];have:tj (n,k)=false:=by
  unfold tj;rw[beq_eq_false_iff_ne];exact h
 simp[this]
def Nx.in2{fns:List (Str×D)}{s s':Sx}{l:Option Str}(h:Nx fns s l s')(Z:(s.fr.map Prod.fst).Nodup)(N:∀ n∈s.fr.map Prod.fst,∃ q:Rw,s.cl[n]?=some q/\q.en=none)(i:In2 s):In2 s':=by
 obtain⟨up,M,B⟩:=i;cases h
 case leave c1 c2 st n r fr ts v rs q hn he pa pv =>
  dsimp only at *
  refine⟨?_,λi x e m=>?_,?_⟩
  ·refine UpC.mono (λn q e=>?_) up.2;have:=(Zg (v:=v) e);refine⟨_,this.1,?_⟩;split
   ·rename_i z;rw[this.2 z]
   rfl
  ·dsimp only at e m
   by_cases z:i=c1.length
   ·subst z;have:(c1++{q with en:=some v}::c2)[c1.length]?=some {q with en:=some v}:=by
     rw[List.getElem?_append_right (zaj _),Nat.sub_self];rfl
    rw[this]at e;cases e;rfl
   have I:i<(c1++q::c2).length:=by
    have:=(zag.mp e).1;rw[zLa,zLc]at this ⊢;exact this
   have g:=Zg (v:=v) (zaf I);rw[if_neg z]at g;rw[g.1]at e;cases e;refine M i _ (zaf I) λj=>?_;rcases zam.mp j with rfl|j
   ·exact z hn.symm
   exact m j
  rw[zLa,zLc]at B ⊢;exact B
 case enter cl st fr ts rs f es us n0 sz b ps _ _ _ _ _ _ _ _ =>
  dsimp only at *
  refine⟨⟨⟨⟨f,us,fr.head?.map Prod.fst,none⟩,?_,?_⟩,UpC.mono (λn q e=>⟨q,?_,rfl⟩) up⟩,λi x e m=>?_,?_⟩
  ·rw[List.getElem?_append_right (zaj _),Nat.sub_self];rfl
  ·show fr.head?.map Prod.fst=(fr.map Prod.fst).head?;rw[List.head?_map]
  ·rw[List.getElem?_append_left (zag.mp e).1];exact e
  ·dsimp only at e m
   have I:=(zag.mp e).1;rw[zLa,List.length_singleton]at I;have m1:i≠cl.length:=λz=>m (by rw[z];exact zao)
   rw[List.getElem?_append_left (by omega)]at e
   exact M i x e λj=>m (zal _ j)
  unfold ad;rw[zLa,List.filter_append,zLa,B];rfl
 all_goals first
  |exact⟨up,M,B⟩
  |exact⟨up,M,by rw[A6 (by decide)];exact B⟩
inductive Ch(cl:List Rw):Nat->Nat->Prop
 |refl {n:Nat}:Ch cl n n
 |up {n p i:Nat} {q:Rw} (e:cl[n]?=some q) (u:q.up=some p) (h:Ch cl p i):Ch cl n i
def A7{cl:List Rw}{n i:Nat}(h:Ch cl n i):∀{l:List Nat},UpC cl (n::l)->i∈n::l:=by
 induction h with
 |refl=>exact λ_=>zao
 |up e u h ih =>
  intro l ⟨⟨q,B,j⟩,t⟩;rw[e]at B;cases B;rw[u]at j;cases l with
  |nil=>cases j
  |cons m l =>
   cases (Option.some.inj j)
   exact zal _ (ih t)
theorem Ds{cl:List Rw}{i:Nat}:∀{l:List Nat}{n:Nat},UpC cl (n::l)->i∈n::l->Ch cl n i
 |[],n,_,m=>by
  rcases zam.mp m with rfl|m
  ·exact .refl
  cases m
 |p::l,n,⟨⟨q,e,u⟩,t⟩,m=>by
  rcases zam.mp m with rfl|m
  ·exact .refl
  exact .up e u (Ds t m)
abbrev acts(s:Sx):List Nat:=s.fr.map Prod.fst
def Nx.lab{fns:List (Str×D)}{s s':Sx}{k:Str}(h:Nx fns s (some k) s'):∃n l,acts s'=n::l/\s'.st=s.st++[(n,k)]:=by
 cases h <;> exact⟨_,_,rfl,rfl⟩
def Nx.adm{fns:List (Str×D)}{s s':Sx}(h:Nx fns s none s'):s'.st=s.st:=by
 cases h <;> rfl
def Nx.act{fns:List (Str×D)}{s s':Sx}{l:Option Str}{i:Nat}(h:Nx fns s l s')(m:i∉acts s)(hl:i<s.cl.length):i∉acts s':=by
 cases h
 case leave=>exact λz=>m (zal _ z)
 case enter =>
  intro z;rcases zam.mp z with rfl|z
  ·exact Nat.lt_irrefl _ hl
  exact m z
 all_goals exact m
def Nx.same{fns:List (Str×D)}{s s':Sx}{l:Option Str}{i:Nat}{q:Rw}(h:Nx fns s l s')(e:s.cl[i]?=some q):∃q':Rw,s'.cl[i]?=some q'/\q'.nm=q.nm/\q'.as=q.as/\q'.up=q.up:=by
 cases h
 case leave c1 c2 st n r fr ts v rs x _ _ _ _ =>
  have g:=Zg (v:=v) e;refine⟨_,g.1,?_⟩;split
  ·rename_i z;rw[g.2 z];exact⟨rfl,rfl,rfl⟩
  exact⟨rfl,rfl,rfl⟩
 case enter=>exact⟨q,by show(_++_)[i]?=_;rw[List.getElem?_append_left (zag.mp e).1];exact e,rfl,rfl,rfl⟩
 all_goals exact⟨q,e,rfl,rfl,rfl⟩
def Nx.keep{fns:List (Str×D)}{s s':Sx}{l:Option Str}{i:Nat}{q:Rw}(h:Nx fns s l s')(e:s.cl[i]?=some q)(m:i∉acts s):s'.cl[i]?=some q:=by
 cases h
 case leave c1 c2 st n r fr ts v rs x hn _ _ _ =>
  have g:=Zg (v:=v) e;rw[if_neg (λz=>m (by rw[z,hn];exact zao))]at g
  exact g.1
 case enter=>exact(by show(_++_)[i]?=_;rw[List.getElem?_append_left (zag.mp e).1];exact e)
 all_goals exact e
structure Ac(s t:Sx)(more:List (Nat×Str)):Prop where
 st:t.st=s.st++more
 same:∀(i:Nat)(q:Rw),s.cl[i]?=some q->∃q':Rw,t.cl[i]?=some q'/\q'.nm=q.nm/\q'.as=q.as/\q'.up=q.up
 gone:∀(i:Nat)(q:Rw),s.cl[i]?=some q->i∉acts s->t.cl[i]?=some q/\∀p∈more,¬ Ch t.cl p.1 i
def Rn.later{fns:List (Str×D)}{fs:Sig}{m:Nat}{s t:Sx}{b:Bool}(r:Rn fns fs m s t b)(h:In2 s):∃more,Ac s t more/\In2 t:=by
 induction r with
 |done o e=>exact⟨[],⟨(List.append_nil _).symm,λi q e=>⟨q,e,rfl,rfl,rfl⟩,λi q e _=>⟨e,λ_ z=>(nomatch z)⟩⟩,h⟩
 |cutB o e=>exact⟨[],⟨(List.append_nil _).symm,λi q e=>⟨q,e,rfl,rfl,rfl⟩,λi q e _=>⟨e,λ_ z=>(nomatch z)⟩⟩,h⟩
 |cutM o e l=>exact⟨[],⟨(List.append_nil _).symm,λi q e=>⟨q,e,rfl,rfl,rfl⟩,λi q e _=>⟨e,λ_ z=>(nomatch z)⟩⟩,h⟩
 |adm o n r ih =>
  obtain⟨more,L,g⟩:=ih (n.in2 o.nd o.op h);refine⟨more,⟨by rw[L.st,n.adm],λi q e=>?_,λi q e m=>L.gone i q (n.keep e m) (n.act m (zag.mp e).1)⟩,g⟩
  obtain⟨B,N,a,b,c⟩:=n.same e;obtain⟨I,e2,a2,b2,Z⟩:=L.same i B N;exact⟨I,e2,a2.trans a,b2.trans b,Z.trans c⟩
 |stp o n l r ih =>
  have h':=n.in2 o.nd o.op h;obtain⟨more,L,g⟩:=ih h';obtain⟨x,l',ea,es⟩:=n.lab;refine⟨(x,_)::more,⟨by rw[L.st,es,List.append_assoc];rfl,λi q e=>?_,λi q e m=>?_⟩,g⟩
  ·obtain⟨B,N,a,b,c⟩:=n.same e;obtain⟨I,e2,a2,b2,Z⟩:=L.same i B N;exact⟨I,e2,a2.trans a,b2.trans b,Z.trans c⟩
  have m':=n.act m (zag.mp e).1;obtain⟨k1,k2⟩:=L.gone i q (n.keep e m) m';refine⟨k1,λp M=>?_⟩;rcases zam.mp M with rfl|M
  ·intro c;have u:=h'.up;rw[show List.map Prod.fst _=x::l' from ea]at u;have u:=UpC.mono (λj q e=>(L.same j q e).elim λB z=>⟨B,z.1,z.2.2.2⟩) u;exact m' (by rw[ea];exact A7 c u)
  exact k2 p M
def Rn.ok{fns:List (Str×D)}{fs:Sig}{m:Nat}{s t:Sx}{b:Bool}(r:Rn fns fs m s t b):Ok fs s:=by
 cases r <;> assumption
def Rn.end_ok{fns:List (Str×D)}{fs:Sig}{m:Nat}{s t:Sx}{b:Bool}(r:Rn fns fs m s t b):Ok fs t/\(b=false->t.ts=[]):=by
 induction r with
 |done o h=>exact⟨o,λ_=>h⟩
 |cutB o h=>exact⟨o,λz=>(nomatch z)⟩
 |cutM o h l=>exact⟨o,λz=>(nomatch z)⟩
 |adm o h r ih=>exact ih
 |stp o h l r ih=>exact ih
def Rn.few{fns:List (Str×D)}{fs:Sig}{m:Nat}{s t:Sx}{b:Bool}(r:Rn fns fs m s t b)(j:s.st.length<=m):t.st.length<=m:=by
 induction r with
 |done o h=>exact j
 |cutB o h=>exact j
 |cutM o h l=>exact j
 |adm o h r ih=>exact ih (by rw[h.adm];exact j)
 |stp o h l r ih=>exact ih (by rw[h.len];exact l)
def Nx.stay{fns:List (Str×D)}{s s':Sx}{k:Str}{i:Nat}(h:Nx fns s (some k) s')(m:i∈acts s):i∈acts s':=by
 cases h
 case enter=>exact zal _ m
 all_goals exact m
def Nx.new{fns:List (Str×D)}{s s':Sx}{l:Option Str}{i:Nat}{q:Rw}(h:Nx fns s l s')(e:s'.cl[i]?=some q)(hl:s.cl.length<=i):i=s.cl.length/\q.up=(acts s).head?/\s.ts≠[]:=by
 have j:=(zag.mp e).1;cases h
 case leave =>
  dsimp only at j hl
  rw[zLa,zLc]at j hl;omega
 case enter cl st fr ts rs f es us n0 sz b ps _ _ _ _ _ _ _ _ =>
  dsimp only at j hl e
  rw[zLa,List.length_singleton]at j;have:i=cl.length:=by omega
  subst this;rw[List.getElem?_append_right (zaj _),Nat.sub_self]at e;cases e;exact⟨rfl,(List.head?_map ..).symm,λz=>(nomatch z)⟩
 all_goals (dsimp only at j hl;omega)
def Kt.fr{fs:Sig}{q:List Env}{ts:List D}{rs:List Str}{k j:Nat}(h:Kt fs q ts rs k j):ts=[]\/∃g gs',q=g::gs':=by
 cases h <;> first|exact .inl rfl|exact .inr ⟨_,_,rfl⟩
structure In3(s:Sx):Prop where
 up:∀(i:Nat)(q:Rw),s.cl[i]?=some q->(i=0/\q.up=none)\/∃p,p<i/\q.up=some p
 sl:∀p∈s.st,p.1<s.cl.length
 ne:s.cl≠[]
def Nx.in3{fns:List (Str×D)}{fs:Sig}{s s':Sx}{l:Option Str}(h:Nx fns s l s')(o:Ok fs s)(o':Ok fs s')(i:In3 s):In3 s':=by
 have le:s.cl.length<=s'.cl.length:=Nat.not_lt.mp λz=>by
  obtain⟨q,e,_⟩:=h.same (zaf z);exact Nat.lt_irrefl _ (zag.mp e).1
 have pos:0<s.cl.length:=List.length_pos_iff.mpr i.ne;refine⟨λj x e=>?_,λp B=>?_,λz=>by rw[z]at le;exact absurd (Nat.lt_of_lt_of_le pos le) (Nat.lt_irrefl _)⟩
 ·rcases Nat.lt_or_ge j s.cl.length with z|z
  ·obtain⟨q',N,_,_,u⟩:=h.same (zaf z);rw[e]at N;cases N;rw[u];exact i.up j _ (zaf z)
  obtain⟨rfl,u,Z⟩:=h.new e z;obtain⟨gs,ss,k,j,kt,_,fr,_⟩:=o.ex;rcases kt.fr with y|⟨g,gs',rfl⟩
  ·exact absurd y Z
  obtain⟨n,r,q,ef,_⟩:=fr;have I:acts s=n::q.map Prod.fst:=by unfold acts;rw[ef];rfl
  obtain⟨y,M,_⟩:=o.op n (by show n∈acts s;rw[I];exact zao)
  exact .inr ⟨n,(zag.mp M).1,by rw[u,I];rfl⟩
 cases l with
 |none =>
  rw[h.adm]at B;exact Nat.lt_of_lt_of_le (i.sl p B) le
 |some k =>
  obtain⟨n,l,I,es⟩:=h.lab;rw[es]at B;rcases zas.mp B with B|B
  ·exact Nat.lt_of_lt_of_le (i.sl p B) le
  rw[List.mem_singleton.mp B];obtain⟨y,M,_⟩:=o'.op n (by show n∈acts s';rw[I];exact zao)
  exact(zag.mp M).1
theorem Rn.in3{fns:List (Str×D)}{fs:Sig}{m:Nat}{s t:Sx}{b:Bool}(r:Rn fns fs m s t b)(i:In3 s):In3 t:=by
 induction r with
 |done o h=>exact i
 |cutB o h=>exact i
 |cutM o h l=>exact i
 |adm o h r ih=>exact ih (h.in3 o r.ok i)
 |stp o h l r ih=>exact ih (h.in3 o r.ok i)
def Ch.mono{a b:List Rw}(h:∀ (n:Nat) (q:Rw),a[n]?=some q->∃ j:Rw,b[n]?=some j/\j.up=q.up){n i:Nat}(c:Ch a n i):Ch b n i:=by
 induction c with
 |refl=>exact .refl
 |up e u _ ih =>
  obtain⟨j,I,B⟩:=h _ _ e;exact .up I (B.trans u) ih
def Zs(t:Sx)(f i:Nat):Prop:=∃(j:Nat)(p:Nat×Str),f<=j/\t.st[j]?=some p/\Ch t.cl p.1 i
structure Cut(u t:Sx):Prop where
 st:u.st=t.st.take u.st.length
 lt:u.st.length<t.st.length
 ct:u.cl.length=((t.st.take u.st.length).filter tj).length
 rw:∀(i:Nat)(q:Rw),u.cl[i]?=some q->∃q':Rw,t.cl[i]?=some q'/\q'.nm=q.nm/\q'.as=q.as/\q'.up=q.up/\(q'.en=none\/Zs t u.st.length i->q.en=none)/\(¬ (q'.en=none\/Zs t u.st.length i)->q.en=q'.en)
def Mi{fns:List (Str×D)}{fs:Sig}{m:Nat}{u N t:Sx}{b:Bool}{k:Str}(h:Nx fns u (some k) N)(o:Ok fs u)(l:u.st.length<m)(r:Rn fns fs m N t b)(i2:In2 u):Cut u t:=by
 obtain⟨more,L,_⟩:=(Rn.stp o h l r).later i2;have h':=h.in2 o.nd o.op i2;obtain⟨B,L',_⟩:=r.later h';obtain⟨n,l',Z,es⟩:=h.lab;have I:u.st=t.st.take u.st.length:=by rw[L.st,List.take_left]
 have et:t.st=u.st++((n,k)::B):=by rw[L'.st,es,List.append_assoc];rfl
 refine⟨I,by rw[et,zLa,zLc];omega,by rw[<- I];exact i2.ct,λi q e=>?_⟩
 obtain⟨M,e',a,b,c⟩:=L.same i q e;refine⟨M,e',a,b,c,?_⟩;by_cases ia:i∈acts u
 ·obtain⟨x,ex,en⟩:=o.op i ia;rw[e]at ex;cases ex;refine⟨λ_=>en,λz=>absurd (.inr ⟨u.st.length,(n,k),zaj _,?_,?_⟩) z⟩
  ·rw[et,List.getElem?_append_right (zaj _),Nat.sub_self];rfl
  have up:=h'.up;rw[show List.map Prod.fst _=n::l' from Z]at up;exact Ch.mono (λj q e=>(L'.same j q e).elim λM z=>⟨M,z.1,z.2.2.2⟩) (Ds up (by rw[<- Z];exact h.stay ia))
 obtain⟨g1,g2⟩:=L.gone i q e ia;rw[e']at g1;cases g1;refine⟨λz=>?_,λ_=>rfl⟩;rcases z with z|⟨j,p,fj,ej,cj⟩
 ·exact z
 refine absurd cj (g2 p ?_);rw[L.st,List.getElem?_append_right fj]at ej;exact zan ej
variable{Fz:D->D->Prop}
def RT:Str->D->Int->Prop:=λj d n=>(j = "list"/\∃l:List Int,d=.tup (l.map D.int)/\n=l.length)\/(j = "tree"/\∃t:Tr,d=t.d/\n=t.nodes/\t.nodes<=201)
def Kr{fns:List (Str×D)}{j:Str}{i:Nat}{d:D}(h:∀ p∈fns.take i,p.1≠j)(e:fns[i]?=some (j,d)):rowG fns j=some d:=by
 induction fns generalizing i with
 |nil=>simp at e
 |cons p fns ih =>
  cases i with
  |zero =>
   simp only[List.getElem?_cons_zero,Option.some.injEq]at e;subst e;unfold rowG;simp
  |succ i =>
   have:=h p (by simp)
   have:=ih (i:=i) (λq B=>h q (by simp[B])) (by simpa using e)
   unfold rowG
   simp_all
def Oi{fns:List (Str×D)}{nm:Str}{d:D}(e:rowG fns nm=some d):∃p∈fns,p.1=nm:=by
 induction fns with
 |nil=>cases e
 |cons p fns ih =>
  unfold rowG at e;split at e
  ·rename_i q;exact⟨p,by simp,by simp_all⟩
  obtain⟨q,j,e2⟩:=ih e;exact⟨q,by simp[j],e2⟩
def Mt:FT:=λds Y=>∃fns:List (Str×D),∃nm fn,ds=[.tup (fns.map Prod.snd),.str nm]/\fns.length<=100/\(∀p∈fns,∃r,p.2=.tup (.str p.1::r))/\rowG fns nm=some fn/\zj fn/\Y (dv fn)
def Mu(Fz:D->D->Prop):FT:=λds Y=>∃s d,ds=[s,d]/\Fz s d/\Y (dv (.bl true))
def Mw(Fz:D->D->Prop):FT:=λds Y=>∃n0 ps sz b as,ds=[.tup [n0,pmD ps,sz,b],.lst as]/\ps.length=as.length/\ps.length<=100/\(∀p∈(ps.map Prod.snd).zip as,Fz p.1 p.2)/\Y (dv .non)
def FzT:D->D->Prop:=λs d=>(s=.str "num"/\∃i:Int,d=.int i)\/(s=.str "list"/\∃l:List Int,d=.tup (l.map D.int)/\l.length<=1000)\/(s=.str "tree"/\∃t:Tr,d=t.d/\t.nodes<=201)
def Mr:FT:=g1 λd Y=>∃t:Tr,d=t.d/\t.nodes<=201/\Y (dv (.bl true))
def S9:FT:=g1 λd Y=>∃t:Tr,d=t.d/\t.nodes<=201/\Y (dv (.int t.nodes))
def szD:D->Nat
 |.tup [l,_,r]=>1+szD l+szD r
 |_=>1
def W1(d:D):1<=szD d:=by
 unfold szD;split <;> omega
def sumZ(ds:List D):Nat:=(ds.map szD).sum
def se(ds es:List D):sumZ (ds++es)=sumZ ds+sumZ es:=by
 unfold sumZ;simp
theorem Zo:∀(ds:List D),ds.length<=sumZ ds
 |[]=>Nat.zero_le _
 |d::ds=>by
  have:=Zo ds;have:=W1 d;unfold sumZ at *;simp;omega
theorem Tr.sz:∀t:Tr,szD t.d=2*t.nodes+1
 |.lf=>by simp[Tr.d,Tr.nodes,szD]
 |.nd l v r=>by
  have h1:=l.sz;have h2:=r.sz;simp only[Tr.d,Tr.nodes,szD,h1,h2];omega
def Ke:FT:=λds Y=>∃n,ds=[.int n]/\Y (dv (.bl true))
def c7(T:Tops mg)(F:Fun K "function_of" "function_of" (top 6) f fd)(m:mg "function_of" = some (.ref f)):FD P w K mg base 1 "function_of" ["program","name"] Mt:=by
 have S:zu ["program","name","function"] ["program","name"] (zd (top 6)):=by walk_at "f"
 walk_at "b";refine⟨_,(ze (sv (wg (z9 0)) (zn (i:=2) S.nd rfl (by walk_at "o")) (yr 2) (zy (wb (xm hu (zg hu (z9 2) zc) (z9 1)) (zy (yg (z9 2))) yx)))
   (zy Zi)),?_⟩
 obtain⟨fns,nm,fn,rfl,hl1,hn,hf,pf,h⟩:=hT;show sFor _ _ _ _ _;refine uf (fns.map Prod.snd) ?_ (λi U=>(∃t,U=[q_ (.tup (fns.map Prod.snd)),q_ (.str nm),t])/\∀p∈fns.take i,p.1≠nm) ⟨⟨none,rfl⟩,by simp⟩ ?_ ?_
 ·intro M N;exact⟨trivial,N⟩
 ·rintro i d _ I ⟨⟨t,rfl⟩,B⟩;rw[zai]at I;cases ep:fns[i]? with
  |none=>rw[ep]at I;cases I
  |some p =>
   rw[ep]at I;cases I;have Z:p∈fns:=zan ep;obtain⟨r,er⟩:=hn p Z;have tk:fns.take (i+1)=fns.take i++[p]:=by rw[List.take_add_one,ep];rfl
   obtain⟨z,d⟩:=p;simp only at er;subst er;walk_at "dl";refine⟨λe=>?_,λe=>⟨⟨_,rfl⟩,?_⟩⟩
   ·subst e;have e2:=Kr B ep;rw[e2]at hf;cases hf;exact⟨pf.2,h⟩
   rw[tk];intro q j;rcases zas.mp j with j|j
   ·exact B q j
   rw[List.mem_singleton.mp j];exact e
 rintro _ ⟨⟨t,rfl⟩,B⟩;obtain⟨p,Z,e⟩:=Oi hf;rw[zLm,List.take_length]at B;exact B p Z e
def Y2(T:Tops mg)(I:FD P w K mg base 3 "fits" ["shape","thing"] (Mu Fz))(F:Fun K "check_args" "check_args" (top 16) f fd)(m:mg "check_args" = some (.ref f)):FD P w K mg base 4 "check_args" ["function","args"] (Mw Fz):=by
 have S:zu ["function","args","shapes"] ["function","args"] (zd (top 16)):=by walk_at "f"
 walk_at "b";refine⟨_,(ze (si (T:=["param","shape"]) (F:=[]) (js:=[]) 2 S.nd (wg (zg hu (z9 0) zc)) (show y4 (zd (top 16)) _ _ _ from by walk_at "c") .nil (by decide) (by walk_at "t") (fu (wn x6 (rn x6 ud) (yn (by decide)) (wn x6 ud (yn (by decide)) d6))) (tu 0 1) (λcl C fp s H=>xx) (λcl C fp s H=>(z9 1)))
   (ze (wb (Wx hu (yu T.len (za (z9 1) zb)) (yu T.len (za (z9 2) zb))) (zy Zi) yx)
   (zy (ut 2 (wb (v8 (w6 (Pf T.all (za (rz (T:=["shape","arg"]) (F:=[]) (js:=[]) (C8 T.zip (za (z9 2) (za (z9 1) zb))) (show y4 (zd (top 16)) _ _ _ from by walk_at "c") .nil (by decide) (by walk_at "t") (fu (wn x6 (rn x6 ud) (yn (by decide)) (wn x6 ud (yn (by decide)) d6))) (tu 0 1) (λcl C fp s H=>xx) (λcl C fp s H=>(ya I (hr.e rfl) (za (z9 0) (za (z9 1) zb))))) zb)))) (zy Zi) yx))))),?_⟩
 obtain⟨n0,ps,sz,b,N,rfl,hl1,a0,hz,h⟩:=hT;walk_at "dl";refine wr (ps.map λp=>.tup [.str p.1,p.2]) ?_ (λd=>match d with|.tup [_,a]=>some a|_=>none) (by rw[zLm];omega) ?_ ?_
 ·intro M j;unfold pmD;exact⟨trivial,j⟩
 ·intro d B;obtain⟨y,hy,rfl⟩:=zah.mp B;exact⟨λ_=>⟨trivial,rfl⟩,nofun⟩
 have ef:(ps.map λp=>D.tup [.str p.1,p.2]).filterMap (λd=>match d with|.tup [_,a]=>some a|_=>none)=ps.map Prod.snd:=by
  rw[List.filterMap_map,<- List.filterMap_eq_map];rfl
 rw[ef];have Z:N.length=(ps.map Prod.snd).length:=by rw[zLm];exact hl1.symm
 refine⟨trivial,λq=>absurd (congrArg Int.ofNat Z) q,λ_=>?_⟩;refine wr (zipD (ps.map Prod.snd) N) ?_ (λ_=>some (.bl true)) ?_ ?_ ?_
 ·intro M j;walk_at "dl";exact j
 ·unfold zipD;rw[List.length_zipWith];omega
 ·intro d B;unfold zipD at B;have ez:∀(xs ys:List D),List.zipWith (λx y=>D.tup [x,y]) xs ys=(xs.zip ys).map λq=>D.tup [q.1,q.2]:=λxs=>by
   induction xs with
   |nil=>intro ys;simp
   |cons x xs ih=>intro ys;cases ys with
    |nil=>simp
    |cons y ys=>simp[ih]
  rw[ez]at B;obtain⟨q,hq,rfl⟩:=zah.mp B;exact⟨λ_=>⟨rfl,_,_,rfl,hz q hq,trivial,rfl⟩,nofun⟩
 have e3:∀l:List D,l.filterMap (λ_=>some (D.bl true))=(List.replicate l.length true).map D.bl:=λl=>by
  induction l with
  |nil=>rfl
  |cons x l ih=>simp only[List.filterMap_cons,zLc,List.replicate_succ,List.map_cons,ih]
 rw[e3];show match blsD _ with|some bs=>_|none=>False
 rw[Yd];refine⟨λz=>?_,λ_=>h⟩;rw[show(List.replicate _ true).all id=true from by simp]at z
 cases z
def Wv(T:Tops mg)(F:Fun K "is_whole" "is_whole" (top 5) f fd)(m:mg "is_whole" = some (.ref f)):FD P w K mg base 1 "is_whole" ["thing"] Ke:=by
 have S:zu ["thing"] ["thing"] (zd (top 5)):=by walk_at "f"
 walk_at "b";refine⟨_,(zy (yg (Ub (x4 T.isinstance (za (z9 0) (za (qu T.int dn) zb))) (U9 (Lw (x4 T.isinstance (za (z9 0) (za (qu T.bool sr) zb)))))))),?_⟩;obtain⟨n,rfl,h⟩:=hT;exact⟨λ_=>⟨trivial,h⟩,nofun⟩
def Vo{l i:Nat}{ds:List D}{d:D}{u:TDS}{U:DE}{Z:DZ}(h:slot U l=Q_ (.lst (ds++[d])))(k:u (setS (setS U l (dO (.lst ds))) i (dv d)) Z):sSeq (sPop l i) u U Z:=by
 unfold sSeq sPop;rw[h]
 dsimp only [dO]
 rw[Vp];exact k
def Td(T:Tops mg)(Ap:FD P w K mg base 1 "is_whole" ["thing"] Ke)(F:Fun K "is_tree" "is_tree" (top 9) f fd)(m:mg "is_tree" = some (.ref f)):FD P w K mg base 2 "is_tree" ["thing"] Mr:=by
 have S:zu ["thing","waiting","part"] ["thing"] (zd (top 9)):=by walk_at "f"
 walk_at "b";refine⟨_,(ze (y3 1 S.nd (x8 (za (z9 0) zb)))
   (ze (Zh (w6 (z9 1)) (ze (Mz 1 2 S.nd)
    (ze (wb (C3 (z9 2) vj) (zy W2) yx)
    (ze (wb (EW.et (uo (v8 (w6 (x4 T.isinstance (za (z9 2) (za (qu T.tuple wv) zb))))) (uo (Wx hu (yu T.len (za (z9 2) zb)) zc) (um (v8 (w6 (ya Ap (hr.e rfl) (za (zg hu (z9 2) zc) zb)))))))) (zy (yg u7)) yx)
    (zy (Ym 1 (za (zg hu (z9 2) zc) (za (zg hu (z9 2) zc) zb))))))))
   (zy (yg u7)))),?_⟩
 obtain⟨d0,rfl,t,rfl,hn,h⟩:=Ww hT;refine⟨rfl,rfl,trivial,λU=>∃(ts:List Tr)(a2:Option EV),U=[q_ t.d,Q_ (.lst (ts.map Tr.d)),a2]/\sumZ (ts.map Tr.d)<=500,λU=>match U with
  |[_,some ⟨_,.lst ds⟩,_]=>sumZ ds
  | _=>0,⟨[t],none,rfl,by simp[sumZ,Tr.sz];omega⟩,?_⟩
 rintro U ⟨ts,a2,rfl,B⟩;refine Mo (ds:=ts.map Tr.d) rfl ⟨λz=>?_,λz=>?_⟩
 ·rcases List.eq_nil_or_concat ts with rfl|⟨ts,q,rfl⟩
  ·cases z
  rw[List.concat_eq_append,zMa]at B ⊢;rw[se]at B;have hl:=Zo (ts.map Tr.d);have j:sumZ (ts.map Tr.d++[q].map Tr.d)=sumZ (ts.map Tr.d)+szD q.d:=by rw[se];simp[sumZ]
  have Z:sumZ ([q].map Tr.d)=szD q.d:=by simp[sumZ]
  have I:=W1 q.d;cases q with
  |lf =>
   refine Vo (ds:=ts.map Tr.d) rfl ⟨λ_=>⟨⟨ts,_,rfl,by omega⟩,?_⟩,nofun⟩
   exact Nat.lt_of_lt_of_eq (Nat.lt_add_of_pos_right I) j.symm
  |nd l v r =>
   have N:szD (Tr.nd l v r).d=1+szD l.d+szD r.d:=by simp[Tr.d,szD]
   rw[N]at j Z;have M:sumZ (ts.map Tr.d++[l.d,r.d])=sumZ (ts.map Tr.d)+szD l.d+szD r.d:=by rw[se];simp[sumZ];omega
   refine Vo (ds:=ts.map Tr.d) rfl ⟨nofun,λ_=>⟨nofun,λ_=>⟨of_eq_true (yo ..),of_eq_true (yo ..),nofun,λ_=>⟨rfl,v,rfl,nofun,λ_=>⟨rfl,rfl,by simp at hl ⊢;omega,⟨ts++[l,r],q_ (.tup [l.d,.int v,r.d]),by rw[zMa];rfl,by simp only[zMa,List.map_cons,List.map_nil];omega⟩,?_⟩⟩⟩⟩⟩
   refine(show sumZ (ts.map Tr.d++[l.d,r.d])<sumZ (ts.map Tr.d++[Tr.nd l v r].map Tr.d) from ?_);rw[M,j];omega
 have e0:ts=[]:=by cases ts with|nil=>rfl|cons=>cases z
 subst e0;exact⟨trivial,h⟩
def Wp(T:Tops mg)(F:Fun K "nodes_of" "nodes_of" (top 11) f fd)(m:mg "nodes_of" = some (.ref f)):FD P w K mg base 1 "nodes_of" ["tree"] S9:=by
 have S:zu ["tree","many","waiting","part"] ["tree"] (zd (top 11)):=by walk_at "f"
 walk_at "b";refine⟨_,(ze (y3 1 S.nd zc)
   (ze (y3 2 S.nd (x8 (za (z9 0) zb)))
   (ze (Zh (w6 (z9 2)) (ze (Mz 2 3 S.nd)
    (zy (wb (Y3 (z9 3) vj) (ze (Fb 1 S.nd zc)
     (zy (Ym 2 (za (zg hu (z9 3) zc) (za (zg hu (z9 3) zc) zb))))) yx))))
   (zy (yg (z9 1)))))),?_⟩
 obtain⟨d0,rfl,t,rfl,hn,h⟩:=Ww hT;refine⟨trivial,rfl,rfl,trivial,λU=>∃(ts:List Tr)(a3:Option EV)(k:Nat),U=[q_ t.d,q_ (.int (k:Nat)),Q_ (.lst (ts.map Tr.d)),a3]/\k+(ts.map Tr.nodes).sum=t.nodes/\sumZ (ts.map Tr.d)<=500,λU=>match U with
  |[_,_,some ⟨_,.lst ds⟩,_]=>sumZ ds
  | _=>0,⟨[t],none,0,rfl,by simp,by simp[sumZ,Tr.sz];omega⟩,?_⟩
 rintro U ⟨ts,a2,k,rfl,j,I⟩;refine Mo (ds:=ts.map Tr.d) rfl ⟨λz=>?_,λz=>?_⟩
 ·rcases List.eq_nil_or_concat ts with rfl|⟨ts,q,rfl⟩
  ·cases z
  rw[List.concat_eq_append,zMa]at I ⊢;rw[List.concat_eq_append,zMa,List.sum_append]at j;rw[se]at I;have hl:=Zo (ts.map Tr.d);have B:sumZ (ts.map Tr.d++[q].map Tr.d)=sumZ (ts.map Tr.d)+szD q.d:=by rw[se];simp[sumZ]
  have e4:sumZ ([q].map Tr.d)=szD q.d:=by simp[sumZ]
  have M:=W1 q.d;cases q with
  |lf =>
   refine Vo (ds:=ts.map Tr.d) rfl ⟨nofun,λ_=>⟨⟨ts,_,k,rfl,by simpa [Tr.nodes] using j,by omega⟩,?_⟩⟩
   exact Nat.lt_of_lt_of_eq (Nat.lt_add_of_pos_right M) B.symm
  |nd l v r =>
   have Z:szD (Tr.nd l v r).d=1+szD l.d+szD r.d:=by simp[Tr.d,szD]
   rw[Z]at B e4;have N:sumZ (ts.map Tr.d++[l.d,r.d])=sumZ (ts.map Tr.d)+szD l.d+szD r.d:=by rw[se];simp[sumZ];omega
   refine Vo (ds:=ts.map Tr.d) rfl ⟨λ_=>⟨rfl,rfl,by simp at hl ⊢;omega,⟨ts++[l,r],q_ (.tup [l.d,.int v,r.d]),k+1,by rw[zMa];rfl,by simp[Tr.nodes]at j ⊢;omega,by simp only[zMa,List.map_cons,List.map_nil];omega⟩,?_⟩,nofun⟩
   refine(show sumZ (ts.map Tr.d++[l.d,r.d])<sumZ (ts.map Tr.d++[Tr.nd l v r].map Tr.d) from ?_);rw[N,B];omega
 have e0:ts=[]:=by cases ts with|nil=>rfl|cons=>cases z
 subst e0;have:k=t.nodes:=by simpa using j
 subst this;exact⟨trivial,h⟩
def Ht(T:Tops mg)(B:FD P w K mg base 1 "is_whole" ["thing"] Ke)(j:FD P w K mg base 2 "is_tree" ["thing"] Mr)(F:Fun K "fits" "fits" (top 8) f fd)(m:mg "fits" = some (.ref f)):FD P w K mg base 3 "fits" ["shape","thing"] (Mu FzT):=by
 have S:zu ["shape","thing"] ["shape","thing"] (zd (top 8)):=by walk_at "f"
 walk_at "b";refine⟨_,(ze (wb (xm hu (z9 0) zf) (zy (yg (ya B (hr.e rfl) (za (z9 1) zb)))) yx)
   (ze (wb (xm hu (z9 0) zf) (zy (yg (Ub (x4 T.isinstance (za (z9 1) (za (qu T.tuple wv) zb))) (U9 (Pf T.all (za (rz (T:=["number"]) (F:=[]) (js:=[]) (wg (z9 1)) (show y4 (zd (top 8)) _ _ _ from by walk_at "c") .nil (by decide) (by walk_at "t") (yn (by decide)) (yr 0) (λcl C fp s H=>xx) (λcl C fp s H=>(ya B (hr.e rfl) (za (z9 0) zb)))) zb)))))) yx)
   (zy (yg (ya j (hr.e rfl) (za (z9 1) zb)))))),?_⟩
 obtain⟨s,d,rfl,⟨rfl,i,rfl⟩|⟨rfl,l,rfl,N⟩|⟨rfl,t,rfl,I⟩,h⟩:=hT
 ·exact cs ⟨λ_=>⟨rfl,_,rfl,trivial,h⟩,nofun⟩
 rotate_left
 ·exact cs ⟨nofun,λ_=>cs ⟨nofun,λ_=>⟨rfl,t,rfl,I,trivial,h⟩⟩⟩
 refine cs ⟨nofun,λ_=>cs ⟨λ_=>?_,nofun⟩⟩;walk_at "dl";refine wr (l.map D.int) ?_ (λ_=>some (.bl true)) (by rw[zLm];omega) ?_ ?_
 ·intro M q;exact⟨trivial,q⟩
 ·intro d Z;obtain⟨y,hy,rfl⟩:=zah.mp Z;exact⟨λ_=>⟨rfl,y,rfl,trivial,rfl⟩,nofun⟩
 have e3:∀l:List D,l.filterMap (λ_=>some (D.bl true))=(List.replicate l.length true).map D.bl:=λl=>by
  induction l with
  |nil=>rfl
  |cons x l ih=>simp only[List.filterMap_cons,zLc,List.replicate_succ,List.map_cons,ih]
 rw[e3];show match blsD _ with|some bs=>Y (dv (.bl (bs.all id)))|none=>False
 rw[Yd]
 dsimp only
 rw[show(List.replicate _ true).all id=true from by simp]
 exact h
def Tc(T:Tops mg)(j:FD P w K mg base 1 "nodes_of" ["tree"] S9)(F:Fun K "size_of" "size_of" (top 10) f fd)(m:mg "size_of" = some (.ref f)):FD P w K mg base 5 "size_of" ["shape","value"] (S7 RT):=by
 have S:zu ["shape","value"] ["shape","value"] (zd (top 10)):=by walk_at "f"
 walk_at "b";refine⟨_,(ze (wb (xm hu (z9 0) zf) (zy (yg zc)) yx)
   (ze (wb (xm hu (z9 0) zf) (zy (yg (yu T.len (za (z9 1) zb)))) yx)
   (zy (yg (ya j (hr.e rfl) (za (z9 1) zb)))))),?_⟩
 unfold S7 g2 at hT;split at hT
 ·obtain⟨B,v,n,rfl,rfl,⟨rfl,l,rfl,rfl⟩|⟨rfl,t,rfl,rfl,q⟩,h⟩:=hT
  ·exact cs ⟨nofun,λ_=>cs ⟨λ_=>⟨trivial,by rw[zLm];exact h⟩,nofun⟩⟩
  exact cs ⟨nofun,λ_=>cs ⟨nofun,λ_=>⟨rfl,t,rfl,q,trivial,h⟩⟩⟩
 exact hT.elim
def Ab(Y:EV->Prop)(s1:MS):Prop:=(s1.cut=true/\Y ⟨.new,.tup [.bl false,.non,.lst s1.calls,.lst s1.steps]⟩)\/(s1.cut=false/\∃v r,s1.ready=v::r/\zj v/\Y ⟨.new,.tup [.bl true,v,.lst s1.calls,.lst s1.steps]⟩)
def V7(C:Addr)(R:Str->D->Int->Prop)(Fz:D->D->Prop):FT:=λds Y=>∃fns:List (Str×D),∃nm as most n0 ps sz b,ds=[.tup (fns.map Prod.snd),.str nm,.lst as,.int most]/\fns.length<=100/\(fns.map Prod.fst).Nodup/\zw (fns.map Prod.snd)/\(∀p∈fns,∃r,p.2=.tup (.str p.1::r)) /\
 rowG fns nm=some (.tup [n0,pmD ps,sz,b])/\zj n0/\zw (ps.map Prod.snd)/\zj sz/\zj b/\zw as/\ps.length=as.length/\as.length<=10/\(ps.map Prod.fst).Nodup/\(∀p∈(ps.map Prod.snd).zip as,Fz p.1 p.2) /\
 Fin C R fns most (Ab Y) (rg most nm as ps b ms0)
def Ml:Stmt->List Expr
 |.Assign _ (.Call _ as _ _) _=>as
 |_=>[]
def Nv{v:Value}(T:Tops mg)(O:CO K C zk)(M:FD P w K mg base 4 "check_args" ["function","args"] (Mw Fz))(Z:FD P w K mg base 1 "function_of" ["program","name"] Mt)(I:FM P w K mg base 2 C zk "__init__" ["self","program","most"] (Kf C))(Au:FM P w K mg base 2 C zk "enter" ["self","name","args"] (cm C))(q:FM P w K mg base 8 C zk "go" ["self"] (tGo C R))(B:FMR P w K mg base 1 C zk "told" ["self"] (Ka C))(mk:W.makesIn K C=true)(kC:W.keepIn K (.ref C)=true)(mR:mg "Run" = some (.ref C))(F:FunV K "trace" "trace" (top 15) f v fd):FnOk P w K mg base CX0 10 f fd ["program","name","args","most"] (spD K 4 (V7 C R Fz)):=by
 have S:zu ["program","name","args","most","run"] ["program","name","args","most"] (zd (top 15)):=by walk_at "f"
 obtain⟨fI,a9,okI,bI,hI⟩:=I.ex;obtain⟨fT,a8,a4,bT,a7⟩:=B.ex;refine Dw (N:=["program","name","args","most","run"]) (C:=C) (ns:=zk) (m:="told") (l:=4) (nI:=3) (nM:=1) (TI:=Kf C) (TM:=Ka C) (as1:=Ml ((yt (top 15)).getD 1 (.Pass ⟨0,0,0,0⟩))) (λlen hb=>F.ok S len hb) (by decide) rfl rfl λqZ A outer s H E ds Y hr hl hT=>?_
 have hu:=hr.units;refine⟨_,_,_,_,(Kn (ya M (hr.e rfl) (za (ya Z (hr.e rfl) (za (z9 0) (za (z9 1) zb))) (za (z9 2) zb)))),(za (z9 0) (za (z9 3) zb)),?_,(xi (yk O Au (hr.e rfl) (y7 (z9 1) (y7 (wq T.tuple (za (z9 2) zb)) x3)))),(xi (U6 O q (hr.e rfl))),?_,?_⟩
 ·intro t ht;exact Yr (Jc ⟨mk,hI.at_,hI.fn,kC⟩ okI (hr.e rfl) rfl mR bI .nil W7 ht) (zn (i:=4) S.nd rfl (by walk_at "o")) rfl rfl rfl
 ·exact bh (Vq (uu rfl (by walk_at "o") (by decide) (by decide)) O.cl a7 a4 (hr.e rfl) bT .nil W7 rfl)
 obtain⟨fns,nm,as,most,n0,ps,sz,b,rfl,hl1,nd,pf,hn,hf,p1,p2,p3,p4,p5,j,a6,a5,hz,n,s1,hR,h⟩:=hT;have a0:zj (pmD ps):=yd.mpr λx hx=>by
  obtain⟨y,hy,rfl⟩:=zah.mp hx;exact⟨trivial,yd.mp p2 _ (zah.mpr ⟨y,hy,rfl⟩),trivial⟩
 refine⟨rfl,fns,nm,_,rfl,hl1,hn,hf,⟨p1,a0,p3,p4,trivial⟩,rfl,n0,ps,sz,b,as,rfl,j,by omega,hz,?_⟩
 refine⟨zaj 5,nofun,rfl,fns,most,rfl,rfl,hl1,nd,pf,hn,rfl,?_⟩;refine⟨_,rfl,trivial,trivial,rfl,fns,most,ms0,nm,as,n0,ps,sz,b,rfl,rfl,hf,p1,p2,p3,p4,p5,j,a6,a5,Nat.zero_le _,Nat.zero_le _,Nat.zero_le _,?_⟩;exact⟨_,rfl,rfl,fns,most,_,s1,n,rfl,rfl,hR,_,rfl,fns,most,s1,rfl,rfl,h⟩
def ve{t u:TDS}{U:DE}{Z:DZ}(h:t U {Z with nx:=λj=>u j Z}):sSeq t u U Z:=h
def X9{i:Nat}{d:D}{U:DE}{M:DE->Prop}(h:M (setS U i (dv d))):gN i d U M:=h
def uy{tc:TDb}{t1 t2:TDS}{U:DE}{Z:DZ}(b:Bool)(h:∀ M:Bool->Prop,M b->tc U M)(h1:b=true->t1 U Z)(h2:b=false->t2 U Z):sIf tc t1 t2 U Z:=h _ ⟨h1,h2⟩
def jz{tc:TDb}{t1 t2:TDS}{U:DE}{Z:DZ}{Q:Prop}(h:∀ M:Bool->Prop,(∀ b,(b=true->Q)->M b)->tc U M)(h1:Q->t1 U Z)(h2:t2 U Z):sIf tc t1 t2 U Z:=h _ λb q=>⟨λz=>h1 (q z),λ_=>h2⟩
def ra{i:Nat}{t:TDS}{U:DE}{Z:DZ}(h:t (frzS U i) Z):sFrz i t U Z:=h
def qb{i:Nat}{te:TD}{U:DE}{Z:DZ}(h:te U λr=>(match r.k with|.own=>False|_=>True)/\Z.nx (setS U i r.sto)):sSet i te U Z:=h
def ne_2:(2:Int)≠0:=by decide
def ne_3:(3:Int)≠0:=by decide
def ne_5:(5:Int)≠0:=by decide
def Bi:(23:Int)≠0:=by decide
def ne_6:(6:Int)≠0:=by decide
def fdl{i j:Int}(h:j≠0:=by decide)(h1:j.natAbs<=1000000000000:=by decide):FdOk i j:=of_eq_true (Lp h h1)
def xu{ds:List D}{i:Int}{d:D}{Y:EV->Prop}(h:atI ds i=some d)(k:Y (dv d)):sIxx (.lst ds) (.int i) Y:=by
 unfold sIxx sIx1
 dsimp only
 rw[h];exact k
def sy{ds:List D}{i:Int}{d:D}{Y:EV->Prop}(h:atI ds i=some d)(k:Y (dv d)):sIxx (.tup ds) (.int i) Y:=by
 unfold sIxx sIx1
 dsimp only
 rw[h];exact k
def Dg{ns:List Int}{i n:Int}{Y:EV->Prop}(h:atI ns i=some n)(k:Y (dv (.int n))):sIxx (.scr ns) (.int i) Y:=by
 unfold sIxx sIx1
 dsimp only
 rw[h];exact k
def IsSh(z:Str):Prop:=z = "num"\/z = "list"\/z = "tree"
def letC(w:Int):Nat:=(("abcdfghjkmnopqrstuvwxyz" : Str).cps.toList).getD w.toNat 0
def one(c:Nat):Str:=⟨#[c]⟩
def T1(j:List Int)(a:Nat)(k:Nat):Str:=Str.join "" ((j.set a ((j.getD a 0+(k:Int)).fmod 23)).map λw=>one (letC w))
theorem U0:∀cs:List Nat,(Str.join "" (cs.map one)).cps.toList=cs
 |[]=>rfl
 |[c]=>rfl
 |c::c2::cs=>by
  have j:=U0 (c2::cs);have e:Str.join "" ((c::c2::cs).map one)=one c++("" : Str)++Str.join "" ((c2::cs).map one):=rfl;rw[e];show((#[c]++#[])++(Str.join "" ((c2::cs).map one)).cps:Array Nat).toList=_;rw[Array.toList_append,j];rfl
def Nh:∀i j:_root_.Fin 23,letC (i.val:Int)=letC (j.val:Int)->i=j:=by decide +kernel
def W8(j:List Int)(a:Nat)(ha:a<j.length)(m:Nat)(hm:m<=20):((List.range m).map (T1 j a)).Nodup:=by
 refine List.pairwise_map.mpr (List.Pairwise.imp_of_mem ?_ List.nodup_range);intro k I M B ne e;refine ne ?_;have M:=List.mem_range.mp M;have B:=List.mem_range.mp B;have ee:∀k,(T1 j a k).cps.toList=(j.set a ((j.getD a 0+(k:Int)).fmod 23)).map letC:=λk=>by
  unfold T1;rw[show((j.set a ((j.getD a 0+(k:Int)).fmod 23)).map λw=>one (letC w))=((j.set a ((j.getD a 0+(k:Int)).fmod 23)).map letC).map one from by rw[List.map_map];rfl]
  exact U0 _
 have e2:=congrArg (λs:Str=>s.cps.toList[a]?) e;simp only[ee,zai,List.getElem?_set_self ha,Option.map_some,Option.some.injEq]at e2;have m1:=gn (j.getD a 0+(k:Int)) 23 (by decide)
 have Z:=gn (j.getD a 0+(I:Int)) 23 (by decide)
 have q:=Nh ⟨((j.getD a 0+(k:Int)).fmod 23).toNat,by omega⟩ ⟨((j.getD a 0+(I:Int)).fmod 23).toNat,by omega⟩ (by
  simp only;rw[Int.toNat_of_nonneg m1.1,Int.toNat_of_nonneg Z.1];exact e2)
 have N:(j.getD a 0+(k:Int)).fmod 23=(j.getD a 0+(I:Int)).fmod 23:=by
  have:=congrArg _root_.Fin.val q;simp only at this;omega
 rw[Int.fmod_eq_emod_of_nonneg _ (by decide),Int.fmod_eq_emod_of_nonneg _ (by decide)]at N
 omega
def Kb:FT:=λds Y=>∃c,ds=[.int c]/\∀n,Y (dv (.int n))
def Ms:FT:=λds Y=>∃c:Int,∃m:Nat,ds=[.int c,.int m]/\m<=20/\∀zs:List Str,zs.length=m->zs.Nodup->Y (df (.lst (zs.map D.str)))
def O91:FT:=g2 λd e Y=>∃(ns:List Int)(k:Nat),d=.scr ns/\e=.int k/\∀c:Int,Y (dv (.int c))
def Tx:FT:=g1 λd Y=>∃(ns:List Int)(ds:List D),d=.sx (.lst (ns.map D.int)::ds)/\∀c:Int,0<=c->Y (dv (.int c))
def vm{a b:TDb}{U:DE}{M:Bool->Prop}(q:∀ M:Bool->Prop,M false->a U M)(j:∀ M:Bool->Prop,M false->b U M)(h:M false):bOr a b U M:=q _ ⟨λz=>(by cases z),λ_=>j _ h⟩
def Tg{j:D->D->(EV->Prop)->Prop}{ta tb:TD}{U:DE}{Y:EV->Prop}(x y:EV)(h1:∀ M:EV->Prop,M x->ta U M)(h2:∀ M:EV->Prop,M y->tb U M)(h:j x.d y.d Y):d2 j ta tb U Y:=h1 _ (h2 _ h)
def Mc(x:Int):eqD (.int x) (.int x)=true:=by rw[Y6];exact beq_self_eq_true _
def Xf(T:Tops mg)(F:Fun K "_law_names" "_law_names" (top 21) f fd)(m:mg "_law_names" = some (.ref f)):FD P w K mg base 1 "_law_names" ["_law_cell","_law_many"] Ms:=by
 have S:zu ["_law_cell","_law_many","_law_letters","_law_word","_law_at","_law_names_here","_law_k","_law_turned"] ["_law_cell","_law_many"] (zd (top 21)):=by walk_at "f"
 walk_at "b";refine⟨_,(ze (zp (y3 2 S.nd zf))
   (ze (zp (y3 0 S.nd (yz (z9 0) (bu zc zc))))
   (ze (zp (si (T:=["_law_k"]) (F:=["_law_cell"]) (js:=[0]) 3 S.nd (wo T.range (za (x5 zc (yz (z9 0) zc)) zb)) (show y4 (zd (top 21)) _ _ _ from by walk_at "c") (.cons rfl .nil) (by decide) (by walk_at "t") (yn (by decide)) (yr 0) (λcl C fp s H=>xx) (λcl C fp s H=>(yz (x5 (rq (z9 1) (x5 (z9 0) zc)) (bv (z9 0) (z9 0))) zc))))
   (ze (zp (y3 4 S.nd (yz (rq (z9 0) zc) (yu T.len (za (z9 3) zb)))))
   (ze (zp (y3 5 S.nd (x8 zb)))
   (ze (zp (sv (wo T.range (za (z9 1) zb)) (zn (i:=6) S.nd rfl (by walk_at "o")) (yr 6) (ze (y3 7 S.nd (Y8 T.list (za (z9 3) zb)))
    (ze (Sk 7 hu (z9 4) (yz (x5 (zg hu (z9 3) (z9 4)) (z9 6)) zc))
    (zy (ut 7 (wy 5 (Md zf (rz (T:=["_law_part"]) (F:=["_law_letters"]) (js:=[2]) (wg (z9 7)) (show y4 (zd (top 21)) _ _ _ from by walk_at "c") (.cons rfl .nil) (by decide) (by walk_at "t") (yn (by decide)) (yr 0) (λcl C fp s H=>xx) (λcl C fp s H=>(zg hu (z9 1) (z9 0))))))))))))
   (zy (yg (z9 5))))))))),?_⟩
 obtain⟨c0,m,rfl,hl1,h⟩:=hT;have f9:∀(x:Int)(y:Int),y≠0->y.natAbs<=100->FdOk x y:=λx y a b=>of_eq_true (Lp a (by omega))
 refine z_g [q_ (.int c0),q_ (.int m),q_ (.str "abcdfghjkmnopqrstuvwxyz"),none,none,none,none,none] ?_ ?_
 ·exact⟨trivial,rfl⟩
 have cb:=gn c0 (10 ^ 9) (by decide)
 obtain⟨c,ec⟩:∃c,c0.fmod (10 ^ 9)=c:=⟨_,rfl⟩;rw[ec]at cb;refine z_g [q_ (.int c),q_ (.int m),q_ (.str "abcdfghjkmnopqrstuvwxyz"),none,none,none,none,none] ?_ ?_
 ·walk_at "dl";rw[ec]
 have c8:=gn c 8 (by decide)
 refine zh (λU=>∃j:List Int,(∀w∈j,0<=w/\w<23)/\1<=j.length/\j.length<=8/\U=[q_ (.int c),q_ (.int m),q_ (.str "abcdfghjkmnopqrstuvwxyz"),Q_ (.lst (j.map D.int)),none,none,none,none]) ?_ ?_
 ·refine wr (rngD 0 (1+c.fmod 8).toNat) (λM B=>?_) (λd=>match d with|.int k=>some (.int ((c.fdiv (k+1)+k*k).fmod 23))|_=>none) (by rw[vz];omega) ?_ ?_
  ·exact⟨λz=>(nomatch z),by omega,by omega,B⟩
  ·intro d Z;obtain⟨i,hi⟩:=List.getElem?_of_mem Z;obtain⟨a0,rfl⟩:=ur hi;rw[Int.zero_add];exact⟨λ_=>⟨fdOk (m:=64) (by omega) (K1 (by omega)),IntMulOk.of_left (K1 (m:=64) (by omega)),Bi,trivial,rfl⟩,nofun⟩
  refine⟨trivial,(List.range (1+c.fmod 8).toNat).map λk:Nat=>(c.fdiv ((k:Int)+1)+(k:Int)*k).fmod 23,λw hw=>?_,by rw[zLm,List.length_range];omega,by rw[zLm,List.length_range];omega,?_⟩
  ·obtain⟨k,_,rfl⟩:=zah.mp hw;exact gn _ 23 (by decide)
  have e4:∀n,(rngD 0 n).filterMap (λd=>match d with|.int k=>some (D.int ((c.fdiv (k+1)+k*k).fmod 23))|_=>none)=((List.range n).map λk:Nat=>(c.fdiv ((k:Int)+1)+(k:Int)*k).fmod 23).map D.int:=λn=>by
   unfold rngD;rw[List.filterMap_map,List.map_map,<- List.filterMap_eq_map]
   congr 1
   funext k
   simp
  rw[e4];rfl
 rintro _ ⟨j,hw,l1,l2,rfl⟩;have ab:=gn (c.fdiv 8) j.length (by omega)
 obtain⟨at_,ea⟩:∃at_:Nat,(c.fdiv 8).fmod j.length=at_:=⟨((c.fdiv 8).fmod j.length).toNat,by omega⟩
 rw[ea]at ab;refine z_g [q_ (.int c),q_ (.int m),q_ (.str "abcdfghjkmnopqrstuvwxyz"),Q_ (.lst (j.map D.int)),q_ (.int at_),none,none,none] ?_ ?_
 ·exact⟨f9 _ _ (by decide) (by decide),by rw[zLm];omega,trivial,by rw[zLm];show[_,_,_,_,q_ (.int ((c.fdiv 8).fmod j.length)),_,_,_]=_;rw[ea]⟩
 refine z_g [q_ (.int c),q_ (.int m),q_ (.str "abcdfghjkmnopqrstuvwxyz"),Q_ (.lst (j.map D.int)),q_ (.int at_),Q_ (.lst []),none,none] ?_ ?_
 ·exact⟨rfl,rfl,trivial,rfl⟩
 refine zh (λU=>∃a b,U=[q_ (.int c),q_ (.int m),q_ (.str "abcdfghjkmnopqrstuvwxyz"),Q_ (.lst (j.map D.int)),q_ (.int at_),Q_ (.lst (((List.range m).map (T1 j at_)).map D.str)),a,b]) ?_ ?_
 ·refine uf (rngD 0 m) (λM B=>?_) (λi U=>∃a b,U=[q_ (.int c),q_ (.int m),q_ (.str "abcdfghjkmnopqrstuvwxyz"),Q_ (.lst (j.map D.int)),q_ (.int at_),Q_ (.lst (((List.range i).map (T1 j at_)).map D.str)),a,b]) ⟨none,none,rfl⟩ ?_ ?_
  ·exact⟨by omega,by omega,B⟩
  ·rintro i d _ Z ⟨a,b,rfl⟩;obtain⟨hi,rfl⟩:=ur Z;have lt:at_<j.length:=by omega
   have e1:atI j (at_:Int)=some (j.getD at_ 0):=wu (by omega) (by simp[lt])
   have e2:ixN j.length (at_:Int)=some at_:=by
    unfold ixN;rw[if_pos (by omega),if_pos (by omega)]
    simp
   have N:(("abcdfghjkmnopqrstuvwxyz" : Str).cps.toList).length=23:=by decide +kernel
   have sz:("abcdfghjkmnopqrstuvwxyz" : Str).length<=sizeLine:=by rw[sizeLine_eq];decide +kernel
   walk_at "dl";simp only[e1,e2,Option.map_some];simp only[Lx,dC];have es:(j.map D.int).set at_ (.int ((j.getD at_ 0+(i:Int)).fmod 23))=(j.set at_ ((j.getD at_ 0+(i:Int)).fmod 23)).map D.int:=by rw[List.map_set]
   rw[es];have hv:∀w∈j.set at_ ((j.getD at_ 0+(i:Int)).fmod 23),0<=w/\w<23:=λw I=>by
    rcases List.mem_or_eq_of_mem_set I with q|q
    ·exact hw w q
    rw[q];exact gn _ 23 (by decide)
   have lv:(j.set at_ ((j.getD at_ 0+(i:Int)).fmod 23)).length<=8:=by rw[List.length_set];exact l2
   have en:T1 j at_ i=Str.join "" ((j.set at_ ((j.getD at_ 0+(i:Int)).fmod 23)).map λw=>one (letC w)):=rfl;generalize j.set at_ ((j.getD at_ 0+(i:Int)).fmod 23)=vs at hv lv en;refine wr (vs.map D.int) (λM B=>?_) (λd=>match d with|.int w=>some (.str (one (letC w)))|_=>none) (by rw[zLm];omega) ?_ ?_
   ·exact⟨trivial,B⟩
   ·intro d Z;obtain⟨w,I,rfl⟩:=zah.mp Z;obtain⟨w0,w1⟩:=hv w I;have e5:atI ("abcdfghjkmnopqrstuvwxyz" : Str).cps.toList w=some (letC w):=wu w0 (by
     unfold letC;rw[List.getD_eq_getElem?_getD,zaf (by rw[N];omega)]
     rfl)
    refine⟨λ_=>?_,nofun⟩;unfold ρ0;walk_at "dl";rw[e5];exact⟨sz,rfl⟩
   have e6:(vs.map D.int).filterMap (λd=>match d with|.int w=>some (D.str (one (letC w)))|_=>none)=(vs.map λw=>one (letC w)).map D.str:=by
    rw[List.filterMap_map,List.map_map,<- List.filterMap_eq_map];rfl
   rw[e6];refine⟨_,rfl,?_,trivial,by simp;omega,q_ (.int i),q_ (.lst (vs.map D.int)),?_⟩
   ·have sm:∀us:List Int,((us.map λw=>one (letC w)).map λt=>t.length+(Str.ofString "").length).sum=us.length:=λus=>by
     induction us with
     |nil=>rfl
     |cons u us ih=>simp only[List.map_cons,List.sum_cons,ih,zLc];show 1+0+us.length=_;omega
    rw[sm,sizeLine_eq];omega
   rw[List.range_succ,zMa,zMa,List.map_cons,List.map_nil,List.map_cons,List.map_nil,en]
  rintro _ ⟨a,b,rfl⟩;rw[vz];exact⟨a,b,rfl⟩
 rintro _ ⟨a,b,rfl⟩;exact⟨yd.mpr λx hx=>by obtain⟨z,_,rfl⟩:=zah.mp hx;trivial,h _ (by simp) (W8 j at_ (by omega) m hl1)⟩
def Y1(T:Tops mg)(F:Fun K "_law_number" "_law_number" (top 20) f fd)(m:mg "_law_number" = some (.ref f)):FD P w K mg base 1 "_law_number" ["_law_cell"] Kb:=by
 have S:zu ["_law_cell"] ["_law_cell"] (zd (top 20)):=by walk_at "f"
 walk_at "b";refine⟨_,(zy (yg (x5 (U8 (yz (z9 0) (U8 (bv zc (bu zc zc)) zc)) (bu zc zc)) zc))),?_⟩;obtain⟨c,rfl,h⟩:=hT;exact⟨⟨by decide,by decide,by decide⟩,IntMulOk.of_left (by decide),(show(2*10 ^ 60-1:Int)≠0 by decide),⟨by decide,by decide,by decide⟩,trivial,h _⟩
def c6(T:Tops mg)(F:Fun K "_law_cell_at" "_law_cell_at" (top 19) f fd)(m:mg "_law_cell_at" = some (.ref f)):FD P w K mg base 1 "_law_cell_at" pE O91:=by
 have S:zu ["_law_script","_law_k"] pE (zd (top 19)):=by walk_at "f"
 walk_at "b";refine⟨_,(ze (wb (Te (z9 1) (yu T.len (za (z9 0) zb))) (zy (yg (zg hu (z9 0) (z9 1)))) yx)
   (zy (yg zc))),?_⟩
 obtain⟨a,b,rfl,ns,k,rfl,rfl,h⟩:=P6 hT;refine ve (uy (decide ((k:Int)<ns.length)) (λM j=>j) (λz=>?_) (λ_=>⟨trivial,h 0⟩));have q:k<ns.length:=by have:=of_decide_eq_true z;omega
 have e:atI ns (k:Int)=some ns[k]:=wu (by omega) (by simp[q])
 exact Dg e ⟨trivial,h _⟩
def Wr(T:Tops mg)(F:Fun K "_law_take" "_law_take" (top 25) f fd)(m:mg "_law_take" = some (.ref f)):FD P w K mg base 1 "_law_take" pC Tx:=by
 have S:zu ["_law_state"] pC (zd (top 25)):=by walk_at "f"
 walk_at "b";refine⟨_,(Ki 0 T.len),?_⟩;obtain⟨a,rfl,ns,ds,rfl,h⟩:=Ww hT;exact⟨ns,ds,rfl,λc j=>⟨trivial,h c j⟩⟩
def prD(p:Str×Str):D:=.tup [.str p.1,.str p.2]
structure Hd where
 nm:Str
 ps:List (Str×Str)
 sh:Str
 sz:List Int
def hdL(h:Hd):List D:=[.str h.nm,.tup (h.ps.map prD),.tup [.str h.sh,.tup (h.sz.map D.int)]]
def hdD(h:Hd):D:=.tup (hdL h)
def fnD(h:Hd)(b:D):D:=.tup [.str h.nm,.tup (h.ps.map prD),.tup [.str h.sh,.tup (h.sz.map D.int)],b]
abbrev vr(z:Str):D:=.tup [.str "var",.str z]
abbrev gv(e:D):D:=.tup [.str "give",e]
abbrev cl(f:Str)(es:List D):D:=.tup [.str "call",.str f,.tup es]
def putH(f n x:Str):Hd:=⟨f,[(n,"num"),(x,"list")],"list",[1,0,1]⟩
def putB(f n x h t:Str):D:=.tup [.str "list",.str x,gv (.tup [.str "cons",vr n,.tup [.str "nil"]]),.str h,.str t,.tup [.str "less",vr n,vr h,gv (.tup [.str "cons",vr n,vr x]),gv (.tup [.str "cons",vr h,cl f [vr n,vr t]])]]
def plaH(f n x:Str):Hd:=⟨f,[(n,"num"),(x,"tree")],"tree",[1,0,1]⟩
def plaB(f n x l v r:Str):D:=.tup [.str "tree",.str x,gv (.tup [.str "node",.tup [.str "leaf"],vr n,.tup [.str "leaf"]]),.str l,.str v,.str r,.tup [.str "less",vr n,vr v,gv (.tup [.str "node",cl f [vr n,vr l],vr v,vr r]),gv (.tup [.str "node",vr l,vr v,cl f [vr n,vr r]])]]
def tPut:FT:=g2 λa b Y=>∃f n x h t r,a=.str f/\b=.lst ((n::x::h::t::r).map D.str)/\Y (dv (fnD (putH f n x) (putB f n x h t)))
def tPla:FT:=g2 λa b Y=>∃f n x l v w r,a=.str f/\b=.lst ((n::x::l::v::w::r).map D.str)/\Y (dv (fnD (plaH f n x) (plaB f n x l v w)))
def Ot(f n x h t:Str):zj (fnD (putH f n x) (putB f n x h t)):=by
 simp only[fnD,putB,putH,zj,zw,List.map_cons,List.map_nil,prD,and_self]
def Ou(f n x l v w:Str):zj (fnD (plaH f n x) (plaB f n x l v w)):=by
 simp only[fnD,plaB,plaH,zj,zw,List.map_cons,List.map_nil,prD,and_self]
def Lz{α:Type}(f:α->D)(xs:List α)(n:Nat)(h:n<=xs.length):ZZ.cutD (xs.map f) none (some (n:Int))=(xs.take n).map f:=by
 rw[dh,<- List.map_take]
def HOk1(zs:List Str)(h:Hd):Prop:=∃ks:List Str,h.ps=zs.zip ks/\1<=ks.length/\ks.length<=3/\(∀k∈ks,IsSh k)/\IsSh h.sh/\h.sz.length<=4
def HI(f:Str)(zs:List Str)(c:Int)(n:Nat)(ks:List Str)(sz:List Int)(a b:Option EV)(U:DE):Prop:=ks.length=n/\n<=3/\(∀k∈ks,IsSh k)/\sz.length=n+1/\U=[q_ (.str f),q_ (.lst (zs.map D.str)),q_ (.int c),Q_ (.lst ((zs.zip ks).map prD)),Q_ (.lst (sz.map D.int)),a,b,none]
def N7(c:Int):c.fmod 3=0\/c.fmod 3=1\/c.fmod 3=2:=by
 have:=Int.fmod_nonneg_of_pos c (show(0:Int)<3 by decide)
 have:=Int.fmod_lt_of_pos c (show(0:Int)<3 by decide)
 omega
def pk3(c:Int):∃s,IsSh s/\atI [D.str "num",.str "list",.str "tree"] (c.fmod 3)=some (.str s):=by
 rcases N7 c with z|z|z <;> rw[z]
 ·exact⟨"num",.inl rfl,rfl⟩
 ·exact⟨"list",.inr (.inl rfl),rfl⟩
 exact⟨"tree",.inr (.inr rfl),rfl⟩
def at3{P:Int->Prop}{i:Nat}(h:i<3){x y z:Int}(h1:P x)(h2:P y)(j:P z):∃m,P m/\atI [D.int x,.int y,.int z] (i:Int)=some (.int m):=by
 rcases(by omega:i=0\/i=1\/i=2) with rfl|rfl|rfl
 ·exact⟨x,h1,rfl⟩
 ·exact⟨y,h2,rfl⟩
 exact⟨z,j,rfl⟩
theorem V3{s:Str}:∀{ks zs:List Str}(h:ks.length<zs.length),zs.zip (ks++[s])=zs.zip ks++[(zs[ks.length],s)]
 |[],z::zs,h=>by rw[List.nil_append,List.zip_nil_right,List.zip_cons_cons,List.zip_nil_right];rfl
 |k::ks,z::zs,h=>by
  rw[List.cons_append,List.zip_cons_cons,List.zip_cons_cons,V3 (Nat.lt_of_succ_lt_succ h)];rfl
theorem fm0:∀l:List Int,(l.map D.int).filterMap (λ_=>some (D.int 0))=(List.replicate l.length (0:Int)).map D.int
 |[]=>rfl
 |a::l=>by rw[List.map_cons,List.filterMap_cons,fm0 l];rfl
def gf(h:Hd):zj (hdD h):=⟨trivial,yd.mpr λd j=>by
 obtain⟨p,_,rfl⟩:=zah.mp j;exact⟨trivial,trivial,trivial⟩,⟨trivial,tm _,trivial⟩,trivial⟩
def vz1(n:Nat):(rngD 0 n).length=n:=by unfold rngD;rw[zLm,List.length_range]
def Gv:FT:=g3 λa b c Y=>∃(f:Str)(zs:List Str)(k:Int),a=.str f/\b=.lst (zs.map D.str)/\3<=zs.length/\c=.int k/\∀h:Hd,h.nm=f->HOk1 zs h->Y (dv (hdD h))
def dy(T:Tops mg)(F:Fun K "_law_putting" "_law_putting" (top 22) f fd)(m:mg "_law_putting" = some (.ref f)):FD P w K mg base 1 "_law_putting" pB tPut:=by
 have S:zu ["_law_f","_law_names_here","_law_n","_law_x","_law_h","_law_t","_law_one","_law_ahead","_law_behind","_law_body_here"] pB (zd (top 22)):=by walk_at "f"
 walk_at "b";refine⟨_,(ze (zp (Sj (yj (z9 1) xg (yi zc)) (Rf (K0:=K) (n:=4) (by rfl) (by rfl) (yb (zn (i:=2) S.nd rfl (by walk_at "o")) (yb (zn (i:=3) S.nd rfl (by walk_at "o")) (yb (zn (i:=4) S.nd rfl (by walk_at "o")) (yb (zn (i:=5) S.nd rfl (by walk_at "o")) vf))))) (Hg 2 3 4 5)))
   (ze (y3 6 S.nd (zi (za zf (za (zi (za zf (za (zi (za zf (za (z9 2) zb))) (za (zi (za zf zb)) zb)))) zb))))
   (ze (y3 7 S.nd (zi (za zf (za (zi (za zf (za (zi (za zf (za (z9 2) zb))) (za (zi (za zf (za (z9 3) zb))) zb)))) zb))))
   (ze (y3 8 S.nd (zi (za zf (za (zi (za zf (za (zi (za zf (za (z9 4) zb))) (za (zi (za zf (za (z9 0) (za (zi (za (zi (za zf (za (z9 2) zb))) (za (zi (za zf (za (z9 5) zb))) zb))) zb)))) zb)))) zb))))
   (ze (y3 9 S.nd (zi (za zf (za (z9 3) (za (z9 6) (za (z9 4) (za (z9 5) (za (zi (za zf (za (zi (za zf (za (z9 2) zb))) (za (zi (za zf (za (z9 4) zb))) (za (z9 7) (za (z9 8) zb)))))) zb))))))))
   (zy (yg (zi (za (z9 0) (za (zi (za (zi (za (z9 2) (za zf zb))) (za (zi (za (z9 3) (za zf zb))) zb))) (za (zi (za zf (za (zi (za zc (za zc (za zc zb)))) zb))) (za (z9 9) zb)))))))))))),?_⟩
 obtain⟨a,b,rfl,f,n,x,h,t,r,rfl,rfl,j⟩:=P6 hT;have e:ZZ.cutD (D.str n::D.str x::D.str h::D.str t::r.map D.str) none (some 4)=[.str n,.str x,.str h,.str t]:=Lz D.str (n::x::h::t::r) 4 (by show 4<=r.length+4;omega)
 refine z_g [q_ (.str f),q_ (.lst ((n::x::h::t::r).map D.str)),q_ (.str n),q_ (.str x),q_ (.str h),q_ (.str t),none,none,none,none] ?_ ?_
 ·walk_at "dl";rw[e];exact rfl
 exact⟨rfl,rfl,rfl,rfl,rfl,rfl,rfl,rfl,trivial,rfl,rfl,rfl,rfl,rfl,rfl,rfl,rfl,trivial,rfl,rfl,rfl,rfl,rfl,rfl,rfl,rfl,rfl,rfl,rfl,rfl,rfl,rfl,trivial,rfl,rfl,rfl,rfl,rfl,rfl,rfl,rfl,trivial,rfl,rfl,rfl,rfl,rfl,rfl,rfl,rfl,rfl,rfl,rfl,rfl,Ot _ _ _ _ _,j⟩
def d9(T:Tops mg)(F:Fun K "_law_planting" "_law_planting" (top 23) f fd)(m:mg "_law_planting" = some (.ref f)):FD P w K mg base 1 "_law_planting" pB tPla:=by
 have S:zu ["_law_f","_law_names_here","_law_n","_law_x","_law_l","_law_v","_law_r","_law_one","_law_left","_law_other","_law_body_here"] pB (zd (top 23)):=by walk_at "f"
 walk_at "b";refine⟨_,(ze (zp (Sj (yj (z9 1) xg (yi zc)) (Rf (K0:=K) (n:=5) (by rfl) (by rfl) (yb (zn (i:=2) S.nd rfl (by walk_at "o")) (yb (zn (i:=3) S.nd rfl (by walk_at "o")) (yb (zn (i:=4) S.nd rfl (by walk_at "o")) (yb (zn (i:=5) S.nd rfl (by walk_at "o")) (yb (zn (i:=6) S.nd rfl (by walk_at "o")) vf)))))) (Hf 2 3 4 5 6)))
   (ze (y3 7 S.nd (zi (za zf (za (zi (za zf (za (zi (za zf zb)) (za (zi (za zf (za (z9 2) zb))) (za (zi (za zf zb)) zb))))) zb))))
   (ze (y3 8 S.nd (zi (za zf (za (zi (za zf (za (zi (za zf (za (z9 0) (za (zi (za (zi (za zf (za (z9 2) zb))) (za (zi (za zf (za (z9 4) zb))) zb))) zb)))) (za (zi (za zf (za (z9 5) zb))) (za (zi (za zf (za (z9 6) zb))) zb))))) zb))))
   (ze (y3 9 S.nd (zi (za zf (za (zi (za zf (za (zi (za zf (za (z9 4) zb))) (za (zi (za zf (za (z9 5) zb))) (za (zi (za zf (za (z9 0) (za (zi (za (zi (za zf (za (z9 2) zb))) (za (zi (za zf (za (z9 6) zb))) zb))) zb)))) zb))))) zb))))
   (ze (y3 10 S.nd (zi (za zf (za (z9 3) (za (z9 7) (za (z9 4) (za (z9 5) (za (z9 6) (za (zi (za zf (za (zi (za zf (za (z9 2) zb))) (za (zi (za zf (za (z9 5) zb))) (za (z9 8) (za (z9 9) zb)))))) zb)))))))))
   (zy (yg (zi (za (z9 0) (za (zi (za (zi (za (z9 2) (za zf zb))) (za (zi (za (z9 3) (za zf zb))) zb))) (za (zi (za zf (za (zi (za zc (za zc (za zc zb)))) zb))) (za (z9 10) zb)))))))))))),?_⟩
 obtain⟨a,b,rfl,f,n,x,l,v,w,r,rfl,rfl,j⟩:=P6 hT;have e:ZZ.cutD (D.str n::D.str x::D.str l::D.str v::D.str w::r.map D.str) none (some 5)=[.str n,.str x,.str l,.str v,.str w]:=Lz D.str (n::x::l::v::w::r) 5 (by show 5<=r.length+5;omega)
 refine z_g [q_ (.str f),q_ (.lst ((n::x::l::v::w::r).map D.str)),q_ (.str n),q_ (.str x),q_ (.str l),q_ (.str v),q_ (.str w),none,none,none,none] ?_ ?_
 ·walk_at "dl";rw[e]
 exact⟨rfl,rfl,rfl,rfl,rfl,rfl,rfl,rfl,rfl,rfl,trivial,rfl,rfl,rfl,rfl,rfl,rfl,rfl,rfl,rfl,rfl,rfl,rfl,rfl,rfl,rfl,rfl,trivial,rfl,rfl,rfl,rfl,rfl,rfl,rfl,rfl,rfl,rfl,rfl,rfl,rfl,rfl,rfl,rfl,trivial,rfl,rfl,rfl,rfl,rfl,rfl,rfl,rfl,trivial,rfl,rfl,rfl,rfl,rfl,rfl,rfl,rfl,rfl,rfl,rfl,rfl,Ou _ _ _ _ _ _,j⟩
def Ws(T:Tops mg)(F:Fun K "_law_head" "_law_head" (top 24) f fd)(m:mg "_law_head" = some (.ref f)):FD P w K mg base 1 "_law_head" pF Gv:=by
 have S:zu ["_law_name","_law_names_here","_law_cell","_law_params","_law_size","_law_k","_law_shape","_law_gives"] pF (zd (top 24)):=by walk_at "f"
 walk_at "b";refine⟨_,(ze (zp (y3 2 S.nd (yz (z9 2) (bu zc zc))))
   (ze (zp (y3 3 S.nd (x8 zb)))
   (ze (zp (y3 4 S.nd (x8 (za (yz (rq (z9 2) zc) zc) zb))))
   (ze (zp (sv (wo T.range (za (x5 zc (yz (rq (z9 2) zc) zc)) zb)) (zn (i:=5) S.nd rfl (by walk_at "o")) (yr 5) (ze (y3 6 S.nd (zg hu (x8 (za zf (za zf (za zf zb)))) (yz (rq (z9 2) (zg hu (x8 (za zc (za zc (za zc zb)))) (z9 5))) zc)))
    (ze (wy 3 (zi (za (zg hu (z9 1) (z9 5)) (za (z9 6) zb))))
    (zy (wy 4 (bv (Wy T.int (za (By hu (z9 6) zf) zb)) (yz (rq (z9 2) (zg hu (x8 (za zc (za zc (za zc zb)))) (z9 5))) zc))))))))
   (ze (zp (y3 7 S.nd (zg hu (x8 (za zf (za zf (za zf zb)))) (yz (z9 2) zc))))
   (ze (zp (wb (xm hu (z9 7) zf) (zy (ut 4 (si (T:=["_law_part"]) (F:=[]) (js:=[]) 4 S.nd (wg (z9 4)) (show y4 (zd (top 24)) _ _ _ from by walk_at "c") .nil (by decide) (by walk_at "t") (yn (by decide)) (yr 0) (λcl C fp s H=>xx) (λcl C fp s H=>zc)))) yx))
   (zy (yg (zi (za (z9 0) (za (wq T.tuple (za (z9 3) zb)) (za (zi (za (z9 7) (za (wq T.tuple (za (z9 4) zb)) zb))) zb)))))))))))),?_⟩
 obtain⟨a,b,c,rfl,f,zs,k,rfl,rfl,lz,rfl,h⟩:=Bw hT;refine zh (λU=>∃c:Int,U=[q_ (.str f),q_ (.lst (zs.map D.str)),q_ (.int c),none,none,none,none,none]) ⟨⟨by decide,by decide,by decide⟩,(show(10 ^ 9:Int)≠0 by decide),trivial,_,rfl⟩ ?_
 rintro _ ⟨c,rfl⟩;refine zh (λU=>U=[q_ (.str f),q_ (.lst (zs.map D.str)),q_ (.int c),Q_ (.lst []),none,none,none,none]) ⟨rfl,rfl,trivial,rfl⟩ ?_;rintro _ rfl;refine zh (λU=>U=[q_ (.str f),q_ (.lst (zs.map D.str)),q_ (.int c),Q_ (.lst []),Q_ (.lst [.int ((c.fdiv 81).fmod 4)]),none,none,none]) ⟨fdl,(show(4:Int)≠0 by decide),rfl,rfl,trivial,rfl⟩ ?_
 rintro _ rfl;refine zh (λU=>∃ks sz a b,1<=ks.length/\HI f zs c ks.length ks sz a b U) ?_ ?_
 ·obtain⟨n,n1,n3,en⟩:∃n:Nat,1<=n/\n<=3/\(1+(c.fdiv 7).fmod 3:Int)=n:=by
   rcases N7 (c.fdiv 7) with z|z|z <;> rw[z]
   ·exact⟨1,by decide,by decide,rfl⟩
   ·exact⟨2,by decide,by decide,rfl⟩
   exact⟨3,by decide,by decide,rfl⟩
  refine uf (rngD 0 n) (λM j=>?_) (λi U=>∃ks sz a b,HI f zs c i ks sz a b U) ⟨[],[(c.fdiv 81).fmod 4],_,_,rfl,by decide,(λ_ h=>nomatch h),rfl,by rw[List.zip_nil_right];rfl⟩ ?_ ?_
  ·exact⟨fdl,ne_3,(show -(2 ^ 62)<=(1+(c.fdiv 7).fmod 3:Int) by omega),(show(1+(c.fdiv 7).fmod 3:Int)<2 ^ 62 by omega),(show M (rngD 0 (1+(c.fdiv 7).fmod 3:Int).toNat) by rw[en];exact j)⟩
  ·rintro i d _ hd ⟨ks,sz,a,b,rfl,k3,B,sl,rfl⟩;obtain⟨hi,rfl⟩:=ur hd;have N:ks.length<3:=by omega
   obtain⟨m,fm,em⟩:=at3 (P:=λm=>∀c,FdOk c m) N (x:=3) (y:=9) (z:=27) (λc=>fdl) (λc=>fdl) (λc=>fdl);obtain⟨m2,Z,a0⟩:=at3 (P:=λm=>∀c,FdOk c m) N (x:=324) (y:=972) (z:=2916) (λc=>fdl) (λc=>fdl) (λc=>fdl);obtain⟨s,hs,es⟩:=pk3 (c.fdiv m);rw[Int.zero_add];refine X9 (ve ⟨rfl,rfl,rfl,rfl,?_⟩)
   dsimp only [dTup,vh,aNil,d2,uh,dC,slot,setS,dv,EV.sto]
   refine xu em ⟨fm c,ne_3,?_⟩
   dsimp only [dTup,vh,aNil,d2,uh,dC,slot,setS,dv,EV.sto]
   refine xu es ⟨trivial,?_⟩;refine ve (uz rfl ?_);have iz:ks.length<zs.length:=by omega
   have ez:atI (zs.map D.str) (ks.length:Int)=some (.str zs[ks.length]):=wu (by omega) (by rw[zai,Int.toNat_natCast,zaf iz];rfl)
   dsimp only [dTup,vh,aNil,d2,uh,dC,slot,setS,dv,EV.sto]
   refine xu ez ⟨rfl,rfl,trivial,?_,?_⟩
   ·rw[zLm];have:=List.length_zip (l₁:=zs) (l₂:=ks);omega
   refine uz rfl ⟨of_eq_true ym,of_eq_true ym,rfl,rfl,?_⟩
   dsimp only [dTup,vh,aNil,d2,uh,dC,slot,setS,dv,EV.sto]
   refine xu a0 ⟨Z c,ne_3,IntMulOk.of_left (by show intBits (if (!eqD (.str s) (.str "num"))=true then(1:Int) else 0)<=64;split <;> decide),trivial,by rw[zLm];omega,ks++[s],sz++[(if (!eqD (.str s) (.str "num"))=true then 1 else 0)*(c.fdiv m2).fmod 3],q_ (.int ks.length),q_ (.str s),by rw[zLa];rfl,N,λk I=>?_,by rw[zLa,sl];rfl,?_⟩
   ·rcases zas.mp I with I|I
    ·exact B k I
    rw[List.mem_singleton.mp I];exact hs
   rw[V3 iz,zMa,zMa];rfl
  rintro _ ⟨ks,sz,a,b,e,q⟩;rw[vz1]at e q;rw[<- e]at q;exact⟨ks,sz,a,b,by omega,rfl,q⟩
 rintro _ ⟨ks,sz,a,b,k1,_,k3,B,sl,rfl⟩;obtain⟨g,hg,eg⟩:=pk3 c;refine zh (λU=>U=[q_ (.str f),q_ (.lst (zs.map D.str)),q_ (.int c),Q_ (.lst ((zs.zip ks).map prD)),Q_ (.lst (sz.map D.int)),a,b,q_ (.str g)]) ⟨rfl,rfl,ne_3,xu eg ⟨trivial,rfl⟩⟩ ?_;rintro _ rfl;refine zh (λU=>∃sz:List Int,sz.length<=4/\U=[q_ (.str f),q_ (.lst (zs.map D.str)),q_ (.int c),Q_ (.lst ((zs.zip ks).map prD)),Q_ (.lst (sz.map D.int)),a,b,q_ (.str g)]) ?_ ?_
 ·refine jz (Q:=True) (λM j=>⟨of_eq_true ym,of_eq_true ym,j _ λ_=>trivial⟩) (λ_=>?_) ⟨sz,by omega,rfl⟩
  refine ra (qb ?_);refine wr (sz.map D.int) (λM j=>?_) (λ_=>some (.int 0)) (by rw[zLm];omega) (λd hd=>?_) ?_
  ·exact⟨trivial,j⟩
  ·exact⟨λ_=>⟨trivial,rfl⟩,λz=>nomatch z⟩
  exact⟨trivial,List.replicate sz.length 0,by rw[List.length_replicate];omega,by rw[fm0];rfl⟩
 rintro _ ⟨sz,s4,rfl⟩;exact⟨rfl,rfl,rfl,rfl,gf ⟨f,zs.zip ks,g,sz⟩,h ⟨f,zs.zip ks,g,sz⟩ rfl ⟨ks,rfl,k1,k3,B,hg,s4⟩⟩
def sg1(j:List Hd):Sig:=j.map λh=>(h.nm,h.ps.map Prod.snd,h.sh)
theorem Oa:∀{hs:List Hd}{h:Hd},(hs.map Hd.nm).Nodup->h∈hs->sigL (sg1 hs) h.nm=some (h.ps.map Prod.snd,h.sh)
 |g::hs,h,j,m=>by
  have j:=List.nodup_cons.mp j;show(if g.nm=h.nm then _ else sigL (sg1 hs) h.nm)=_
  rcases zam.mp m with rfl|m
  ·exact if_pos rfl
  rw[if_neg λe=>j.1 (by rw[e];exact zah.mpr ⟨h,m,rfl⟩)]
  exact Oa j.2 m
theorem Pa{z s:Str}:∀{env:Env},(env.map Prod.fst).Nodup->(z,s)∈env->envL env z=some s
 |p::r,j,m=>by
  have j:=List.nodup_cons.mp j;show(if p.1=z then _ else envL r z)=_
  rcases zam.mp m with rfl|m
  ·exact if_pos rfl
  rw[if_neg λe=>j.1 (by rw[e];exact zah.mpr ⟨_,m,rfl⟩)]
  exact Pa j.2 m
structure HsOk(hs:List Hd):Prop where
 nd:(hs.map Hd.nm).Nodup
 ok:∀h∈hs,1<=h.ps.length/\h.ps.length<=3/\(∀p∈h.ps,IsSh p.2)/\IsSh h.sh
 ln:hs.length<=100
def stD(cs:List Int)(zs:List Str)(j:List Hd):D:=.sx [.lst (cs.map D.int),.lst (zs.map D.str),.lst (j.map hdD)]
def bnd:Nat->Nat
 |0=>1
 |n+1=>3*bnd n+1
def tEx:Nat->FT
 |0=>λ_ _=>False
 |n+1=>λds Y=>∃(cs:List Int)(zs:List Str)(hs:List Hd)(env:Env)(s:Str),ds=[stD cs zs hs,.lst (env.map prD),.int (3-n),.str s]/\HsOk hs/\(env.map Prod.fst).Nodup/\env.length<=100/\n<=3/\IsSh s/\∀e k,Et (sg1 hs) env e s k->k<=bnd n->Y (dv e)
def eqs{a b:Str}(h:eqD (.str a) (.str b)=true):a=b:=by
 rw[Y5]at h;exact eq_of_beq h
def eqn{a b:Str}(h:eqD (.str a) (.str b)=false):a≠b:=λe=>by
 rw[Y5,e]at h;exact absurd (beq_self_eq_true b) (by rw[h];decide)
def gi{α:Type}{f:α->D}{xs:List α}(h:xs≠[])(c:Int):((xs.map f).length:Int)≠0/\∃x∈xs,atI (xs.map f) (c.fmod (xs.map f).length)=some (f x):=by
 have hl:0<xs.length:=List.length_pos_iff.mpr h;have e:((xs.map f).length:Int)=xs.length:=by rw[zLm]
 rw[e];have j:=Int.fmod_nonneg_of_pos c (show(0:Int)<xs.length by omega)
 have q:=Int.fmod_lt_of_pos c (show(0:Int)<xs.length by omega)
 have hi:(c.fmod (xs.length:Int)).toNat<xs.length:=by omega
 refine⟨by omega,xs[(c.fmod (xs.length:Int)).toNat],List.getElem_mem hi,wu j ?_⟩
 rw[zai,zaf hi];rfl
def MO(s o:Str)(ks:List Str):Prop:=(s = "num"/\(o = "add"\/o = "sub")/\ks=[("num" : Str),"num"])\/(s = "list"/\o = "cons"/\ks=[("num" : Str),"list"])\/(s = "tree"/\o = "node"/\ks=[("tree" : Str),"num","tree"])
theorem Ets.snoc{fs:Sig}{g:Env}{e:D}{s:Str}{n:Nat}(h:Et fs g e s n):∀{es:List D}{ss:List Str}{m:Nat},Ets fs g es ss m->Ets fs g (es++[e]) (ss++[s]) (m+n)
 |_,_,_,.nil=>by rw[Nat.zero_add];exact .cons h .nil
 |_,_,_,.cons a t=>by rw[Nat.add_assoc];exact .cons a (t.snoc h)
def Bj{fs:Sig}{g:Env}{s o:Str}{ks:List Str}{es:List D}{m:Nat}(h:MO s o ks)(j:Ets fs g es ks m):Et fs g (.tup (.str o::es)) s (m+1):=by
 rcases h with⟨rfl,ho,rfl⟩|⟨rfl,rfl,rfl⟩|⟨rfl,rfl,rfl⟩
 ·obtain⟨⟩|⟨a,⟨⟩|⟨b,⟨⟩⟩⟩:=j
  exact .sum ho a b
 ·obtain⟨⟩|⟨a,⟨⟩|⟨b,⟨⟩⟩⟩:=j
  exact .cons a b
 obtain⟨⟩|⟨a,⟨⟩|⟨b,⟨⟩|⟨c,⟨⟩⟩⟩⟩:=j
 exact .node a b c
def Ew(c:Int):c.fmod 2=0\/c.fmod 2=1:=by
 have:=Int.fmod_nonneg_of_pos c (show(0:Int)<2 by decide)
 have:=Int.fmod_lt_of_pos c (show(0:Int)<2 by decide)
 omega
def MK(s:Str)(ks:List Str):Prop:=(s = "num"/\ks=[("num" : Str),"num"])\/(s = "list"/\ks=[("num" : Str),"list"])\/(s = "tree"/\ks=[("tree" : Str),"num","tree"])
def Vx{s o:Str}{ks:List Str}(h:MO s o ks):2<=ks.length/\ks.length<=3/\∀k∈ks,IsSh k:=by
 rcases h with⟨_,_,rfl⟩|⟨_,_,rfl⟩|⟨_,_,rfl⟩
 ·exact⟨by decide,by decide,λk j=>by rcases zam.mp j with rfl|j;exact .inl rfl;rw[List.mem_singleton.mp j];exact .inl rfl⟩
 ·exact⟨by decide,by decide,λk j=>by rcases zam.mp j with rfl|j;exact .inl rfl;rw[List.mem_singleton.mp j];exact .inr (.inl rfl)⟩
 exact⟨by decide,by decide,λk j=>by rcases zam.mp j with rfl|j;exact .inr (.inr rfl);rcases zam.mp j with rfl|j;exact .inl rfl;rw[List.mem_singleton.mp j];exact .inr (.inr rfl)⟩
def at2(c:Int):∃o:Str,(o = "add"\/o = "sub")/\atI [D.str "add",.str "sub"] (c.fmod 2)=some (.str o):=by
 rcases Ew c with z|z <;> rw[z]
 ·exact⟨"add",.inl rfl,rfl⟩
 exact⟨"sub",.inr rfl,rfl⟩
def Yc:∀n,1<=bnd n
 |0=>zaj _
 |n+1=>Nat.le_add_left ..
def Z8{t:TD}{U:DE}{Y:EV->Prop}(h:t U λr=>sTupC [r.d] Y):dCB sTupC (vh t aNil) U Y:=h
def EP2(q:List Hd)(env:Env)(m:Nat)(j:List Str)(i:Nat)(es:List D):Prop:=∃k,Ets (sg1 q) env es (j.take i) k/\k<=i*bnd m
def EP2.add{B:List Hd}{env:Env}{m i:Nat}{j:List Str}{es:List D}{e:D}{s:Str}{k:Nat}(h:EP2 B env m j i es)(q:j[i]?=some s)(I:Et (sg1 B) env e s k)(M:k<=bnd m):EP2 B env m j (i+1) (es++[e]):=by
 obtain⟨n,a,b⟩:=h;refine⟨n+k,?_,by rw[Nat.succ_mul];omega⟩
 rw[List.take_add_one,q];exact a.snoc I
def EP2.all{q:List Hd}{env:Env}{m:Nat}{j:List Str}{es:List D}(h:EP2 q env m j j.length es)(l:j.length<=3):∃k,Ets (sg1 q) env es j k/\k+1<=bnd (m+1):=by
 obtain⟨n,a,b⟩:=h;rw[List.take_length]at a;exact⟨n,a,Nat.succ_le_succ (zak b (Nat.mul_le_mul_right _ l))⟩
def SW(env:Env)(s:Str)(es:List D):Prop:=∃ws:List Str,es=ws.map D.str/\∀z∈ws,envL env z=some s
def SH(j:List Hd)(s:Str)(es:List D):Prop:=∃ks:List Hd,es=ks.map hdD/\∀h∈ks,h∈j/\h.sh=s
def kn{n:Nat}(T:Tops mg)(Aq:FD P w K mg base 1 "_law_take" pC Tx)(Ag:FD P w K mg base (n+2) "_law_expression" pA (tEx n))(F:Fun K "_law_expression" "_law_expression" (top 26) f fd)(m:mg "_law_expression" = some (.ref f)):FD P w K mg base (n+3) "_law_expression" pA (tEx (n+1)):=by
 have S:zu ["_law_state","_law_scope","_law_deep","_law_shape","_law_cell","_law_way","_law_some","_law_heads","_law_head_here","_law_kinds","_law_word"] pA (zd (top 26)):=by walk_at "f"
 walk_at "b";refine⟨_,(ze (zp (y3 4 S.nd (ya Aq hr.d (za (z9 0) zb))))
   (ze (zp (y3 5 S.nd (yz (z9 4) zc)))
   (ze (zp (y3 4 S.nd (rq (z9 4) zc)))
   (ze (zp (vv (T:=["_law_name","_law_kind"]) (F:=["_law_shape"]) (js:=[3]) 6 S.nd (wg (z9 1)) (show y4 (zd (top 26)) _ _ _ from by walk_at "c") (.cons rfl .nil) (by decide) (by walk_at "t") (fu (wn x6 (rn x6 ud) (yn (by decide)) (wn x6 ud (yn (by decide)) d6))) (tu 0 1) (λcl C fp s H=>(Y7 (xm hu (z9 1) (z9 2)))) (λcl C fp s H=>(z9 0))))
   (ze (zp (vv (T:=["_law_head_here"]) (F:=["_law_shape"]) (js:=[3]) 7 S.nd (wg (Lu 0 3)) (show y4 (zd (top 26)) _ _ _ from by walk_at "c") (.cons rfl .nil) (by decide) (by walk_at "t") (yn (by decide)) (yr 0) (λcl C fp s H=>(Y7 (xm hu (zg hu (zg hu (z9 0) zc) zc) (z9 1)))) (λcl C fp s H=>(z9 0))))
   (ze (zp (wb (EW.et (da (Te (z9 2) zc) (da (xm hu (z9 5) zc) (kq (P7 (yu T.len (za (z9 7) zb)) zc))))) (ze (zp (y3 8 S.nd (zg hu (z9 7) (yz (z9 4) (yu T.len (za (z9 7) zb))))))
    (zy (yg (zi (za zf (za (zg hu (z9 8) zc) (za (wq T.tuple (za (qw (T:=["_law_name","_law_kind"]) (F:=["_law_state","_law_scope","_law_deep"]) (js:=[0,1,2]) (wg (zg hu (z9 8) zc)) (show y4 (zd (top 26)) _ _ _ from by walk_at "c") (.cons rfl (.cons rfl (.cons rfl .nil))) (by decide) (by walk_at "t") (fu (wn x6 (rn x6 ud) (yn (by decide)) (wn x6 ud (yn (by decide)) d6))) (tu 0 1) (λcl C fp s H=>xx) (λcl C fp s H=>(ya Ag hr.d (za (z9 2) (za (z9 3) (za (x5 (z9 4) zc) (za (z9 1) zb))))))) zb)) zb))))))) yx))
   (ze (zp (wb (EW.et (da (Te (z9 2) zc) (kq (C4 hu (z9 5) (zi (za zc (za zc zb))))))) (ze (zp (y3 9 S.nd (Lv hu zf (x8 (za zf (za zf zb))) zf (x8 (za zf (za zf zb))) zf (x8 (za zf (za zf (za zf zb)))) (z9 3))))
    (ze (zp (y3 10 S.nd (Lv hu zf (zg hu (x8 (za zf (za zf zb))) (yz (z9 4) zc)) zf zf zf zf (z9 3))))
    (zy (ut 9 (yg (x5 (zi (za (z9 10) zb)) (wq T.tuple (za (qw (T:=["_law_kind"]) (F:=["_law_state","_law_scope","_law_deep"]) (js:=[0,1,2]) (wg (z9 9)) (show y4 (zd (top 26)) _ _ _ from by walk_at "c") (.cons rfl (.cons rfl (.cons rfl .nil))) (by decide) (by walk_at "t") (yn (by decide)) (yr 0) (λcl C fp s H=>xx) (λcl C fp s H=>(ya Ag hr.d (za (z9 1) (za (z9 2) (za (x5 (z9 3) zc) (za (z9 0) zb))))))) zb)))))))) yx))
   (ze (zp (wb (EW.et (da (Wx hu (z9 5) zc) (kq (P7 (yu T.len (za (z9 6) zb)) zc)))) (zy (yg (zi (za zf (za (zg hu (z9 6) (yz (z9 4) (yu T.len (za (z9 6) zb)))) zb))))) yx))
   (ze (zp (wb (xm hu (z9 3) zf) (zy (yg (zi (za zf (za (bv (rq (z9 4) zc) (U8 zc (bv zc (yz (z9 4) zc)))) zb))))) yx))
   (zy (yg (zg hu (x8 (za (zi (za zf zb)) (za (zi (za zf zb)) zb))) (Wy T.int (za (Cc hu (z9 3) zf) zb)))))))))))))),?_⟩
 obtain⟨cs,zs,B,env,s,rfl,oh,nd,le,n3,a5,h⟩:=hT;refine zh (λU=>∃c:Int,U=[q_ (stD cs zs B),q_ (.lst (env.map prD)),q_ (.int (3-n)),q_ (.str s),q_ (.int c),none,none,none,none,none,none]) ⟨rfl,cs,_,rfl,λc c0=>⟨trivial,c,rfl⟩⟩ ?_;rintro _ ⟨c,rfl⟩;refine zh (λU=>∃w c:Int,U=[q_ (stD cs zs B),q_ (.lst (env.map prD)),q_ (.int (3-n)),q_ (.str s),q_ (.int c),q_ (.int w),none,none,none,none,none]) ⟨ne_5,trivial,_,c,rfl⟩ ?_;rintro _ ⟨w,c,rfl⟩;refine zh (λU=>∃w c:Int,U=[q_ (stD cs zs B),q_ (.lst (env.map prD)),q_ (.int (3-n)),q_ (.str s),q_ (.int c),q_ (.int w),none,none,none,none,none]) ⟨fdl,trivial,w,_,rfl⟩ ?_;rintro _ ⟨w,c,rfl⟩;refine zh (λU=>∃I:List Str,(∀z∈I,envL env z=some s)/\U=[q_ (stD cs zs B),q_ (.lst (env.map prD)),q_ (.int (3-n)),q_ (.str s),q_ (.int c),q_ (.int w),Q_ (.lst (I.map D.str)),none,none,none,none]) ?_ ?_
 ·refine wc (env.map prD) (λM j=>⟨trivial,j⟩) (λi es=>SW env s es) (by rw[zLm];omega) ⟨[],rfl,λ_ h=>nomatch h⟩ ?_ ?_
  ·rintro i d es hd hl ⟨I,rfl,hw⟩;obtain⟨p,hp,rfl⟩:=zah.mp (zan hd);refine⟨of_eq_true ym,of_eq_true ym,λz=>⟨trivial,I++[p.1],by rw[zMa];rfl,λy Z=>?_⟩,λ_=>⟨I,rfl,hw⟩⟩
   rcases zas.mp Z with Z|Z
   ·exact hw y Z
   rw[List.mem_singleton.mp Z];exact Pa nd (eqs z▸hp)
  rintro _ ⟨I,rfl,hw⟩;exact⟨trivial,I,hw,rfl⟩
 rintro _ ⟨I,hw,rfl⟩;refine zh (λU=>∃ks:List Hd,(∀h∈ks,h∈B/\h.sh=s)/\U=[q_ (stD cs zs B),q_ (.lst (env.map prD)),q_ (.int (3-n)),q_ (.str s),q_ (.int c),q_ (.int w),Q_ (.lst (I.map D.str)),Q_ (.lst (ks.map hdD)),none,none,none]) ?_ ?_
 ·refine wc (B.map hdD) (λM j=>⟨trivial,j⟩) (λi es=>SH B s es) (by rw[zLm];have:=oh.ln;omega) ⟨[],rfl,λ_ h=>nomatch h⟩ ?_ ?_
  ·rintro i d es hd hl ⟨ks,rfl,hw⟩;obtain⟨p,hp,rfl⟩:=zah.mp (zan hd);refine⟨of_eq_true ym,of_eq_true ym,λz=>⟨trivial,ks++[p],by rw[zMa];rfl,λy Z=>?_⟩,λ_=>⟨ks,rfl,hw⟩⟩
   rcases zas.mp Z with Z|Z
   ·exact hw y Z
   rw[List.mem_singleton.mp Z];exact⟨hp,eqs z⟩
  rintro _ ⟨ks,rfl,hw⟩;exact⟨trivial,ks,hw,rfl⟩
 rintro _ ⟨ks,hk,rfl⟩;refine z_g [q_ (stD cs zs B),q_ (.lst (env.map prD)),q_ (.int (3-n)),q_ (.str s),q_ (.int c),q_ (.int w),Q_ (.lst (I.map D.str)),Q_ (.lst (ks.map hdD)),none,none,none] ?_ ?_
 ·refine jz (Q:=1<=n/\ks≠[]) (λM j=>⟨λz=>⟨of_eq_true (yo ..),of_eq_true (yo ..),λ_=>j _ λy=>⟨by have:=of_decide_eq_true z;omega,λe=>by rw[e]at y;exact absurd y (by decide)⟩,λ_=>j false λy=>nomatch y⟩,λ_=>j false λy=>nomatch y⟩) (λq=>?_) rfl
  obtain⟨m,rfl⟩:∃m,n=m+1:=⟨n-1,by omega⟩
  obtain⟨l0,x,hx,ex⟩:=gi (f:=hdD) q.2 c;refine zh (λU=>U=[q_ (stD cs zs B),q_ (.lst (env.map prD)),q_ (.int (3-(m+1:Nat))),q_ (.str s),q_ (.int c),q_ (.int w),Q_ (.lst (I.map D.str)),Q_ (.lst (ks.map hdD)),q_ (hdD x),none,none]) ⟨l0,xu ex ⟨trivial,rfl⟩⟩ ?_;rintro _ rfl;obtain⟨x1,x2⟩:=hk x hx;have ox:=oh.ok x x1;have e1:(3:Int)-((m+1:Nat):Int)+1=3-m:=by omega
  dsimp only [sRet,dTup,vh,d2,dC,uh,slot,dv]
  refine sy (ds:=hdL x) rfl ?_;refine(show dCB sTupC _ _ _ from Z8 (wc (x.ps.map prD) (λM j=>⟨trivial,j⟩) (λi es=>EP2 B env m (x.ps.map Prod.snd) i es) (by rw[zLm];omega) ⟨0,.nil,Nat.zero_le _⟩ ?_ ?_))
  ·rintro i d es hd hl N;rw[zai]at hd;obtain⟨p,hp,rfl⟩:=zar.mp hd;exact⟨λ_=>⟨rfl,cs,zs,B,env,p.2,congrArg (λt=>[stD cs zs B,D.lst (env.map prD),D.int t,D.str p.2]) e1,oh,nd,le,by omega,ox.2.2.1 p (zan hp),λe k' a4 a0=>⟨trivial,N.add (by rw[zai,hp];rfl) a4 a0⟩⟩,λz=>nomatch z⟩
  intro es N;rw[show(x.ps.map prD).length=(x.ps.map Prod.snd).length by rw[zLm,zLm]]at N
  obtain⟨k,N,hk⟩:=N.all (by rw[zLm];omega)
  exact⟨rfl,rfl,⟨trivial,trivial,N.pure,trivial⟩,h _ _ (x2▸.call (Oa oh.nd x1) N) hk⟩
 refine z_g [q_ (stD cs zs B),q_ (.lst (env.map prD)),q_ (.int (3-n)),q_ (.str s),q_ (.int c),q_ (.int w),Q_ (.lst (I.map D.str)),Q_ (.lst (ks.map hdD)),none,none,none] ?_ ?_
 ·refine jz (Q:=1<=n) (λM j=>⟨λz=>⟨rfl,rfl,rfl,rfl,j _ λ_=>by have:=of_decide_eq_true z;omega⟩,λ_=>j false λy=>nomatch y⟩) (λq=>?_) rfl
  obtain⟨m,rfl⟩:∃m,n=m+1:=⟨n-1,by omega⟩
  refine zh (λU=>∃ls,MK s ls/\U=[q_ (stD cs zs B),q_ (.lst (env.map prD)),q_ (.int (3-(m+1:Nat))),q_ (.str s),q_ (.int c),q_ (.int w),Q_ (.lst (I.map D.str)),Q_ (.lst (ks.map hdD)),none,Q_ (.lst (ls.map D.str)),none]) ⟨rfl,rfl,rfl,rfl,rfl,rfl,"num","list","tree",rfl,rfl,rfl,by decide,by decide,by decide,.inr ⟨["num","num"],rfl⟩,.inr ⟨["num","list"],rfl⟩,.inr ⟨["tree","num","tree"],rfl⟩,s,rfl,?_⟩ ?_
  ·rcases a5 with e|e|e
   ·exact .inl ⟨e,trivial,["num","num"],.inl ⟨e,rfl⟩,rfl⟩
   ·exact .inr (.inl ⟨e,trivial,["num","list"],.inr (.inl ⟨e,rfl⟩),rfl⟩)
   exact .inr (.inr ⟨e,trivial,["tree","num","tree"],.inr (.inr ⟨e,rfl⟩),rfl⟩)
  rintro _ ⟨ls,mk,rfl⟩;obtain⟨o2,ho,ea⟩:=at2 c;refine zh (λU=>∃o,MO s o ls/\U=[q_ (stD cs zs B),q_ (.lst (env.map prD)),q_ (.int (3-(m+1:Nat))),q_ (.str s),q_ (.int c),q_ (.int w),Q_ (.lst (I.map D.str)),Q_ (.lst (ks.map hdD)),none,Q_ (.lst (ls.map D.str)),q_ (.str o)]) ⟨rfl,rfl,ne_2,xu ea ⟨"num","list","tree",rfl,rfl,rfl,by decide,by decide,by decide,.inl ⟨_,rfl⟩,.inl ⟨_,rfl⟩,.inl ⟨_,rfl⟩,s,rfl,?_⟩⟩ ?_
  ·rcases mk with⟨e,rfl⟩|⟨e,rfl⟩|⟨e,rfl⟩
   ·exact .inl ⟨e,trivial,o2,.inl ⟨e,ho,rfl⟩,rfl⟩
   ·exact .inr (.inl ⟨e,trivial,"cons",.inr (.inl ⟨e,rfl,rfl⟩),rfl⟩)
   exact .inr (.inr ⟨e,trivial,"node",.inr (.inr ⟨e,rfl,rfl⟩),rfl⟩)
  rintro _ ⟨o,mo,rfl⟩;obtain⟨m2,m3,a6⟩:=Vx mo;have e1:(3:Int)-((m+1:Nat):Int)+1=3-m:=by omega
  refine ra ⟨rfl,rfl,(show dCB sTupC _ _ _ from Z8 (wc (ls.map D.str) (λM j=>⟨trivial,j⟩) (λi es=>EP2 B env m ls i es) (by rw[zLm];omega) ⟨0,.nil,Nat.zero_le _⟩ ?_ ?_))⟩
  ·rintro i d es hd hl N;rw[zai]at hd;obtain⟨p,hp,rfl⟩:=zar.mp hd;exact⟨λ_=>⟨rfl,cs,zs,B,env,p,congrArg (λt=>[stD cs zs B,D.lst (env.map prD),D.int t,D.str p]) e1,oh,nd,le,by omega,a6 p (zan hp),λe k' a4 a0=>⟨trivial,N.add hp a4 a0⟩⟩,λz=>nomatch z⟩
  intro es N;rw[zLm]at N;obtain⟨k,N,hk⟩:=N.all m3;have el:=N.len;exact⟨List.cons_ne_nil _ _,λz=>(by rw[z]at el;exact absurd el (by rw[zLn];omega)),wm (Nat.ble_eq.mpr (by show 1+es.length<=1000;omega)),⟨trivial,N.pure⟩,h _ _ (Bj mo N) hk⟩
 refine z_g [q_ (stD cs zs B),q_ (.lst (env.map prD)),q_ (.int (3-n)),q_ (.str s),q_ (.int c),q_ (.int w),Q_ (.lst (I.map D.str)),Q_ (.lst (ks.map hdD)),none,none,none] ?_ ?_
 ·refine jz (Q:=I≠[]) (λM j=>⟨of_eq_true (yo ..),of_eq_true (yo ..),λ_=>j _ λy e=>by rw[e]at y;exact absurd y (by decide),λ_=>j false λy=>nomatch y⟩) (λq=>?_) rfl
  obtain⟨l0,x,hx,ex⟩:=gi (f:=D.str) q c;refine⟨l0,?_⟩
  dsimp only [dTup,vh,aNil,d2,uh,dC,slot,setS,dv,EV.sto]
  exact xu ex ⟨rfl,rfl,⟨trivial,trivial,trivial⟩,h _ 1 (.var (hw x hx)) (Yc n)⟩
 refine zh (λU=>s≠"num"/\U=[q_ (stD cs zs B),q_ (.lst (env.map prD)),q_ (.int (3-n)),q_ (.str s),q_ (.int c),q_ (.int w),Q_ (.lst (I.map D.str)),Q_ (.lst (ks.map hdD)),none,none,none]) ?_ ?_
 ·refine uy (eqD (.str s) (.str "num")) (λM j=>⟨of_eq_true ym,of_eq_true ym,j⟩) (λz=>?_) (λz=>⟨eqn z,rfl⟩);have e:=eqs z;subst e;exact⟨fdl,ne_2,IntMulOk.of_left (by decide),IntMulOk.of_right (by show intBits (1-2*c.fmod 2)<=64;rcases Ew c with e|e <;> rw[e] <;> decide),rfl,rfl,⟨trivial,trivial,trivial⟩,h _ 1 (.num _) (Yc n)⟩
 rintro _ ⟨ns,rfl⟩;rcases a5 with e|e|e
 ·exact absurd e ns
 ·subst e;exact⟨rfl,rfl,rfl,rfl,rfl,rfl,of_eq_true ym,of_eq_true ym,⟨trivial,trivial⟩,h _ 1 .nil (Yc n)⟩
 subst e;exact⟨rfl,rfl,rfl,rfl,rfl,rfl,of_eq_true ym,of_eq_true ym,⟨trivial,trivial⟩,h _ 1 .leaf (Yc n)⟩
theorem P4(T:Tops mg)(j:FD P w K mg base 1 "_law_take" pC Tx)(F:Fun K "_law_expression" "_law_expression" (top 26) f fd)(m:mg "_law_expression" = some (.ref f)):∀n:Nat,FD P w K mg base (n+2) "_law_expression" pA (tEx n)
 |0=>by
  have S:zu ["_law_state","_law_scope","_law_deep","_law_shape","_law_cell","_law_way","_law_some","_law_heads","_law_head_here","_law_kinds","_law_word"] pA (zd (top 26)):=by walk_at "f"
  exact u6 F S (F.binds λ_ _ _ _ _ _ us hl=>(by obtain⟨_,_,_,_,rfl⟩:=Ni hl;rfl)) m λqZ A outer s H E ds Y hr hl hT=>hT.elim
 |n+1=>kn T j (P4 T j F m n) F m
theorem Xs:∀(zs ks:List Str),ks.length<=zs.length->(zs.zip ks).map Prod.fst=zs.take ks.length
 |_,[],_=>by rw[List.zip_nil_right];rfl
 |z::zs,k::ks,h=>by rw[List.zip_cons_cons,List.map_cons,Xs zs ks (Nat.le_of_succ_le_succ h)];rfl
def jt{α:Type}(f:α->D)(xs:List α)(n:Nat):ZZ.cutD (xs.map f) (some (n:Int)) none=(xs.drop n).map f:=by
 rw[Pk,<- List.map_drop]
def eqi{a b:Int}(h:eqD (.int a) (.int b)=true):a=b:=by
 rw[Y6]at h;simpa using h
def Fd{tc:TDb}{t1 t2:TDS}{U:DE}{Z:DZ}{Q:Prop}(h:∀ M:Bool->Prop,(∀ b,(b=false->Q)->M b)->tc U M)(h1:t1 U Z)(h2:Q->t2 U Z):sIf tc t1 t2 U Z:=h _ λb q=>⟨λ_=>h1,λz=>h2 (q z)⟩
def Ex{s:Str}{ks:List Str}(h:MK s ks):2<=ks.length/\ks.length<=3/\∀k∈ks,IsSh k:=by
 rcases h with⟨e,f⟩|⟨e,f⟩|⟨e,f⟩
 ·exact Vx (o:="add") (.inl ⟨e,.inl rfl,f⟩)
 ·exact Vx (.inr (.inl ⟨e,rfl,f⟩))
 exact Vx (.inr (.inr ⟨e,rfl,f⟩))
def K7{t1 t2 q j:TD}{U:DE}{Y:EV->Prop}{B bs:List D}{i:Int}{a b:D}(N:atI B i=some a)(I:atI bs i=some b)(h1:∀ M:EV->Prop,M (dv (.lst B))->t1 U M)(h2:∀ M:EV->Prop,M (dv (.int i))->q U M)(h3:∀ M:EV->Prop,M (dv (.lst bs))->t2 U M)(Z:∀ M:EV->Prop,M (dv (.int i))->j U M)(p:Y (dv (.tup [a,b]))):dTup (vh (d2 sIxx t1 q) (vh (d2 sIxx t2 j) aNil)) U Y:=h1 _ (h2 _ (xu N (h3 _ (Z _ (xu I ⟨rfl,rfl,p⟩)))))
structure NE(zs:List Str)(n:Nat)(env:Env):Prop where
 nd:zs.Nodup
 nm:env.map Prod.fst=zs.take env.length
 ln:env.length+3*n+3<=zs.length
 hi:zs.length<=50
 sh:∀p∈env,IsSh p.2
def NE.nodup{zs:List Str}{n:Nat}{env:Env}(h:NE zs n env):(env.map Prod.fst).Nodup:=by
 rw[h.nm];exact h.nd.sublist (List.take_sublist ..)
def NE.more{zs:List Str}{n:Nat}{env:Env}(h:NE zs (n+1) env){ks:List Str}(I:ks.length<=3)(B:∀ k∈ks,IsSh k):NE zs n (env++(zs.drop env.length).zip ks):=by
 have hl:=h.ln;have q:((zs.drop env.length).zip ks).length=ks.length:=by rw[List.length_zip,List.length_drop];omega
 refine⟨h.nd,?_,by rw[zLa,q];omega,h.hi,λp j=>?_⟩
 ·rw[zMa,h.nm,zLa,q,List.take_add,Xs _ _ (by rw[List.length_drop];omega)]
 rcases zas.mp j with j|j
 ·exact h.sh p j
 exact B _ (List.of_mem_zip j).2
def NE.down{zs:List Str}{n:Nat}{env:Env}(h:NE zs (n+1) env):NE zs n env:=⟨h.nd,h.nm,by have:=h.ln;omega,h.hi,h.sh⟩
def NE.three{zs:List Str}{n:Nat}{env:Env}(h:NE zs n env):∃a b c r,zs.drop env.length=a::b::c::r:=by
 have hl:=h.ln;have:3<=(zs.drop env.length).length:=by rw[List.length_drop];omega
 match zs.drop env.length,this with
 |a::b::c::r,_=>exact⟨a,b,c,r,rfl⟩
def tBd:Nat->FT
 |0=>λ_ _=>False
 |n+1=>λds Y=>∃(cs:List Int)(zs:List Str)(hs:List Hd)(env:Env)(s:Str),ds=[stD cs zs hs,.lst (env.map prD),.int (4-n),.str s]/\HsOk hs/\NE zs n env/\n<=4/\IsSh s/\∀b,Bt (sg1 hs) env b s->Y (dv b)
def SM(env:Env)(es:List D):Prop:=∃ms:List (Str×Str),es=ms.map prD/\∀p∈ms,p∈env/\p.2≠"num"
def Wt{n:Nat}(T:Tops mg)(Aq:FD P w K mg base 1 "_law_take" pC Tx)(Ag:FD P w K mg base 6 "_law_expression" pA (tEx 4))(Ah:FD P w K mg base (n+7) "_law_body" pA (tBd n))(F:Fun K "_law_body" "_law_body" (top 27) f fd)(m:mg "_law_body" = some (.ref f)):FD P w K mg base (n+8) "_law_body" pA (tBd (n+1)):=by
 have S:zu ["_law_state","_law_scope","_law_deep","_law_shape","_law_cell","_law_way","_law_names_here","_law_kind","_law_one","_law_other","_law_body_here","_law_some","_law_x","_law_word","_law_kinds","_law_more"] pA (zd (top 27)):=by walk_at "f"
 walk_at "b";refine⟨_,(ze (zp (y3 4 S.nd (ya Aq hr.d (za (z9 0) zb))))
   (ze (zp (y3 5 S.nd (bv (yz (z9 4) zc) (Wy T.int (za (Bz (z9 2) zc) zb)))))
   (ze (zp (y3 4 S.nd (rq (z9 4) zc)))
   (ze (zp (y3 6 S.nd (yj (Lu 0 2) (yi (yu T.len (za (z9 1) zb))) xg)))
   (ze (zp (wb (xm hu (z9 5) zc) (ze (zp (y3 7 S.nd (zg hu (x8 (za zf (za zf (za zf zb)))) (yz (z9 4) zc))))
    (ze (zp (y3 8 S.nd (ya Ag hr.d (za (z9 0) (za (z9 1) (za zc (za (z9 7) zb)))))))
    (zy (yg (zi (za zf (za (zg hu (z9 6) zc) (za (z9 8) (za (ya Ah hr.d (za (z9 0) (za (x5 (z9 1) (x8 (za (zi (za (zg hu (z9 6) zc) (za (z9 7) zb))) zb))) (za (x5 (z9 2) zc) (za (z9 3) zb))))) zb))))))))) yx))
   (ze (zp (wb (xm hu (z9 5) zc) (ze (zp (y3 8 S.nd (ya Ag hr.d (za (z9 0) (za (z9 1) (za zc (za zf zb)))))))
    (ze (zp (y3 9 S.nd (ya Ag hr.d (za (z9 0) (za (z9 1) (za zc (za zf zb)))))))
    (ze (zp (y3 10 S.nd (ya Ah hr.d (za (z9 0) (za (z9 1) (za (x5 (z9 2) zc) (za (z9 3) zb)))))))
    (zy (yg (zi (za zf (za (z9 8) (za (z9 9) (za (z9 10) (za (ya Ah hr.d (za (z9 0) (za (z9 1) (za (x5 (z9 2) zc) (za (z9 3) zb))))) zb))))))))))) yx))
   (ze (zp (vv (T:=["_law_name","_law_kind"]) (F:=[]) (js:=[]) 11 S.nd (wg (z9 1)) (show y4 (zd (top 27)) _ _ _ from by walk_at "c") .nil (by decide) (by walk_at "t") (fu (wn x6 (rn x6 ud) (yn (by decide)) (wn x6 ud (yn (by decide)) d6))) (tu 0 1) (λcl C fp s H=>(Y7 (Wx hu (z9 1) zf))) (λcl C fp s H=>(zi (za (z9 0) (za (z9 1) zb))))))
   (ze (zp (wb (EW.et (uo (C4 hu (z9 5) (zi (za zc (za zc zb)))) (um (xm hu (yu T.len (za (z9 11) zb)) zc)))) (zy (yg (zi (za zf (za (ya Ag hr.d (za (z9 0) (za (z9 1) (za zc (za (z9 3) zb))))) zb))))) yx))
   (ze (zp (Sj (zg hu (z9 11) (yz (z9 4) (yu T.len (za (z9 11) zb)))) (ug (K0:=K) (n:=2) (by rfl) (by rfl) (yb (zn (i:=12) S.nd rfl (by walk_at "o")) (yb (zn (i:=13) S.nd rfl (by walk_at "o")) vf))) (tu 12 13)))
   (ze (zp (y3 14 S.nd (Ca hu zf (x8 (za zf (za zf zb))) zf (x8 (za zf (za zf (za zf zb)))) (z9 13))))
   (ze (zp (ut 14 (ut 6 (vv (T:=["_law_k"]) (F:=["_law_names_here","_law_kinds"]) (js:=[6,14]) 15 S.nd (wo T.range (za (yu T.len (za (z9 14) zb)) zb)) (show y4 (zd (top 27)) _ _ _ from by walk_at "c") (.cons rfl (.cons rfl .nil)) (by decide) (by walk_at "t") (yn (by decide)) (yr 0) (λcl C fp s H=>xx) (λcl C fp s H=>(zi (za (zg hu (z9 1) (z9 0)) (za (zg hu (z9 2) (z9 0)) zb))))))))
   (ze (zp (y3 10 S.nd (ya Ah hr.d (za (z9 0) (za (z9 1) (za (x5 (z9 2) zc) (za (z9 3) zb)))))))
   (ze (zp (y3 9 S.nd (ya Ah hr.d (za (z9 0) (za (x5 (z9 1) (z9 15)) (za (x5 (z9 2) zc) (za (z9 3) zb)))))))
   (zy (ut 15 (yg (x5 (x5 (zi (za (z9 13) (za (z9 12) (za (z9 10) zb)))) (wq T.tuple (za (qw (T:=["_law_name","_law_kind"]) (F:=[]) (js:=[]) (wg (z9 15)) (show y4 (zd (top 27)) _ _ _ from by walk_at "c") .nil (by decide) (by walk_at "t") (fu (wn x6 (rn x6 ud) (yn (by decide)) (wn x6 ud (yn (by decide)) d6))) (tu 0 1) (λcl C fp s H=>xx) (λcl C fp s H=>(z9 0))) zb))) (zi (za (z9 9) zb))))))))))))))))))),?_⟩
 obtain⟨cs,zs,B,env,s,rfl,oh,ne,n4,a5,h⟩:=hT;obtain⟨I,z1,Z,N,ez⟩:=ne.three;refine zh (λU=>∃c:Int,U=[q_ (stD cs zs B),q_ (.lst (env.map prD)),q_ (.int (4-n)),q_ (.str s),q_ (.int c),none,none,none,none,none,none,none,none,none,none,none]) ⟨rfl,cs,_,rfl,λc c0=>⟨trivial,c,rfl⟩⟩ ?_;rintro _ ⟨c,rfl⟩;refine zh (λU=>∃w c:Int,(w≠0->1<=n)/\U=[q_ (stD cs zs B),q_ (.lst (env.map prD)),q_ (.int (4-n)),q_ (.str s),q_ (.int c),q_ (.int w),none,none,none,none,none,none,none,none,none,none]) ⟨ne_6,IntMulOk.of_right (by show intBits (if decide ((4:Int)-n<4)=true then 1 else 0)<=64;split <;> decide),trivial,_,c,λz=>?_,rfl⟩ ?_
 ·refine Nat.not_lt.mp λy=>z ?_;have:n=0:=by omega
  subst this;exact Int.mul_zero _
 rintro _ ⟨w,c,hw,rfl⟩;refine zh (λU=>∃c:Int,U=[q_ (stD cs zs B),q_ (.lst (env.map prD)),q_ (.int (4-n)),q_ (.str s),q_ (.int c),q_ (.int w),none,none,none,none,none,none,none,none,none,none]) ⟨fdl,trivial,_,rfl⟩ ?_;rintro _ ⟨c,rfl⟩;refine zh (λU=>U=[q_ (stD cs zs B),q_ (.lst (env.map prD)),q_ (.int (4-n)),q_ (.str s),q_ (.int c),q_ (.int w),Q_ (.lst ((I::z1::Z::N).map D.str)),none,none,none,none,none,none,none,none,none]) ⟨trivial,?_⟩ ?_
 ·have:=jt D.str zs (env.map prD).length;rw[zLm,ez]at this;rw[<- this,<- zLm (f:=prD)];rfl
 rintro _ rfl;refine zh (λU=>w≠2/\U=[q_ (stD cs zs B),q_ (.lst (env.map prD)),q_ (.int (4-n)),q_ (.str s),q_ (.int c),q_ (.int w),Q_ (.lst ((I::z1::Z::N).map D.str)),none,none,none,none,none,none,none,none,none]) ?_ ?_
 ·refine uy (eqD (.int w) (.int 2)) (λM a0=>⟨of_eq_true (yo ..),of_eq_true (yo ..),a0⟩) (λz=>?_) (λz=>⟨λe=>by rw[e]at z;exact absurd z (by decide),rfl⟩)
  have n1:=hw (by rw[eqi z];decide)
  obtain⟨m,rfl⟩:∃m,n=m+1:=⟨n-1,by omega⟩
  have e1:(4:Int)-((m+1:Nat):Int)+1=4-m:=by omega
  obtain⟨kd,b0,ek⟩:=pk3 c;refine zh (λU=>U=[q_ (stD cs zs B),q_ (.lst (env.map prD)),q_ (.int (4-(m+1:Nat))),q_ (.str s),q_ (.int c),q_ (.int w),Q_ (.lst ((I::z1::Z::N).map D.str)),q_ (.str kd),none,none,none,none,none,none,none,none]) ⟨rfl,rfl,ne_3,xu ek ⟨trivial,rfl⟩⟩ ?_;rintro _ rfl;refine zh (λU=>∃e k,Et (sg1 B) env e kd k/\k<=85/\U=[q_ (stD cs zs B),q_ (.lst (env.map prD)),q_ (.int (4-(m+1:Nat))),q_ (.str s),q_ (.int c),q_ (.int w),Q_ (.lst ((I::z1::Z::N).map D.str)),q_ (.str kd),q_ e,none,none,none,none,none,none,none]) ⟨rfl,cs,zs,B,env,kd,rfl,oh,ne.nodup,by have:=ne.ln;have:=ne.hi;omega,by decide,b0,λe k he hk=>⟨trivial,e,k,he,(zak hk (by decide)),rfl⟩⟩ ?_
  rintro _ ⟨e,k,he,hk,rfl⟩;have nm:=ne.more (ks:=[kd]) (by decide:1<=3) (λj hj=>by rw[List.mem_singleton.mp hj];exact b0)
  rw[ez,List.zip_cons_cons,List.zip_nil_right]at nm
  dsimp only [sRet,dTup,vh,d2,dC,uh,slot,dv]
  refine xu Mm ?_
  dsimp only [vh,uh,Y9,dLst,d2,dTup,dC,slot,dv]
  refine xu Mm ⟨rfl,rfl,rfl,rfl,by rw[zLm];exact wm (Nat.ble_eq.mpr (show env.length+1<=1000 by have:=ne.ln;have:=ne.hi;omega)),rfl,cs,zs,B,env++[(I,kd)],s,?_,oh,nm,by omega,a5,λb hb=>⟨rfl,rfl,⟨trivial,trivial,he.pure,hb.pure,trivial⟩,h _ (.bind (by have:=ne.ln;have:=ne.hi;omega) he hk (by have:=nm.nodup;rwa [zMa]at this) hb)⟩⟩
  rw[zMa];exact congrArg (λt=>[stD cs zs B,D.lst (env.map prD++[prD (I,kd)]),D.int t,D.str s]) e1
 rintro _ ⟨w2,rfl⟩;refine z_g [q_ (stD cs zs B),q_ (.lst (env.map prD)),q_ (.int (4-n)),q_ (.str s),q_ (.int c),q_ (.int w),Q_ (.lst ((I::z1::Z::N).map D.str)),none,none,none,none,none,none,none,none,none] ?_ ?_
 ·refine uy (eqD (.int w) (.int 3)) (λM a0=>⟨of_eq_true (yo ..),of_eq_true (yo ..),a0⟩) (λz=>?_) (λz=>rfl);have n1:=hw (by rw[eqi z];decide)
  obtain⟨m,rfl⟩:∃m,n=m+1:=⟨n-1,by omega⟩
  have e1:(4:Int)-((m+1:Nat):Int)+1=4-m:=by omega
  refine zh (λU=>∃e k,Et (sg1 B) env e "num" k/\k<=85/\U=[q_ (stD cs zs B),q_ (.lst (env.map prD)),q_ (.int (4-(m+1:Nat))),q_ (.str s),q_ (.int c),q_ (.int w),Q_ (.lst ((I::z1::Z::N).map D.str)),none,q_ e,none,none,none,none,none,none,none]) ⟨rfl,cs,zs,B,env,"num",rfl,oh,ne.nodup,by have:=ne.ln;have:=ne.hi;omega,by decide,.inl rfl,λe k he hk=>⟨trivial,e,k,he,(zak hk (by decide)),rfl⟩⟩ ?_
  rintro _ ⟨b6,k1,b5,b9,rfl⟩;refine zh (λU=>∃e k,Et (sg1 B) env e "num" k/\k<=85/\U=[q_ (stD cs zs B),q_ (.lst (env.map prD)),q_ (.int (4-(m+1:Nat))),q_ (.str s),q_ (.int c),q_ (.int w),Q_ (.lst ((I::z1::Z::N).map D.str)),none,q_ b6,q_ e,none,none,none,none,none,none]) ⟨rfl,cs,zs,B,env,"num",rfl,oh,ne.nodup,by have:=ne.ln;have:=ne.hi;omega,by decide,.inl rfl,λe k he hk=>⟨trivial,e,k,he,(zak hk (by decide)),rfl⟩⟩ ?_
  rintro _ ⟨e2,k2,b4,b8,rfl⟩;refine zh (λU=>∃b,Bt (sg1 B) env b s/\U=[q_ (stD cs zs B),q_ (.lst (env.map prD)),q_ (.int (4-(m+1:Nat))),q_ (.str s),q_ (.int c),q_ (.int w),Q_ (.lst ((I::z1::Z::N).map D.str)),none,q_ b6,q_ e2,q_ b,none,none,none,none,none]) ⟨rfl,cs,zs,B,env,s,congrArg (λt=>[stD cs zs B,D.lst (env.map prD),D.int t,D.str s]) e1,oh,ne.down,by omega,a5,λb hb=>⟨trivial,b,hb,rfl⟩⟩ ?_
  rintro _ ⟨b1,a4,rfl⟩;exact⟨rfl,cs,zs,B,env,s,congrArg (λt=>[stD cs zs B,D.lst (env.map prD),D.int t,D.str s]) e1,oh,ne.down,by omega,a5,λb hb=>⟨rfl,rfl,⟨trivial,b5.pure,b4.pure,a4.pure,hb.pure,trivial⟩,h _ (.less b5 b4 b9 b8 a4 hb)⟩⟩
 refine zh (λU=>∃ms:List (Str×Str),(∀p∈ms,p∈env/\p.2≠"num")/\U=[q_ (stD cs zs B),q_ (.lst (env.map prD)),q_ (.int (4-n)),q_ (.str s),q_ (.int c),q_ (.int w),Q_ (.lst ((I::z1::Z::N).map D.str)),none,none,none,none,Q_ (.lst (ms.map prD)),none,none,none,none]) ?_ ?_
 ·refine wc (env.map prD) (λM a0=>⟨trivial,a0⟩) (λi es=>SM env es) (by rw[zLm];have:=ne.ln;have:=ne.hi;omega) ⟨[],rfl,λ_ h=>nomatch h⟩ ?_ ?_
  ·rintro i d es hd hl ⟨ms,rfl,hw⟩;obtain⟨p,hp,rfl⟩:=zah.mp (zan hd);refine⟨of_eq_true ym,of_eq_true ym,λz=>⟨rfl,rfl,trivial,ms++[p],by rw[zMa];rfl,λy hy=>?_⟩,λ_=>⟨ms,rfl,hw⟩⟩
   rcases zas.mp hy with hy|hy
   ·exact hw y hy
   rw[List.mem_singleton.mp hy];exact⟨hp,eqn (by simpa using z)⟩
  rintro _ ⟨ms,rfl,hw⟩;exact⟨trivial,ms,hw,rfl⟩
 rintro _ ⟨ms,hm,rfl⟩;refine zh (λU=>(w≠0/\ms≠[])/\U=[q_ (stD cs zs B),q_ (.lst (env.map prD)),q_ (.int (4-n)),q_ (.str s),q_ (.int c),q_ (.int w),Q_ (.lst ((I::z1::Z::N).map D.str)),none,none,none,none,Q_ (.lst (ms.map prD)),none,none,none,none]) ?_ ?_
 ·refine Fd (Q:=w≠0/\ms≠[]) (λM a0=>⟨rfl,rfl,rfl,rfl,And.intro (λ_=>a0 true λy=>nomatch y) (λz=>⟨of_eq_true (yo ..),of_eq_true (yo ..),a0 _ λy=>⟨λe=>by rw[e]at z;exact absurd z (by decide),λe=>by rw[e]at y;exact absurd y (by decide)⟩⟩)⟩) ⟨rfl,cs,zs,B,env,s,rfl,oh,ne.nodup,by have:=ne.ln;have:=ne.hi;omega,by decide,a5,λe k he hk=>⟨rfl,rfl,⟨trivial,he.pure,trivial⟩,h _ (.give he (zak hk (by decide)))⟩⟩ (λq=>⟨q,rfl⟩)
 rintro _ ⟨q,rfl⟩;have n1:=hw q.1;obtain⟨m,rfl⟩:∃m,n=m+1:=⟨n-1,by omega⟩
 have e1:(4:Int)-((m+1:Nat):Int)+1=4-m:=by omega
 obtain⟨l0,p,hp,ep⟩:=gi (f:=prD) q.2 c;refine zh (λU=>U=[q_ (stD cs zs B),q_ (.lst (env.map prD)),q_ (.int (4-(m+1:Nat))),q_ (.str s),q_ (.int c),q_ (.int w),Q_ (.lst ((I::z1::Z::N).map D.str)),none,none,none,none,Q_ (.lst (ms.map prD)),q_ (.str p.1),q_ (.str p.2),none,none]) ⟨l0,?_⟩ ?_
 ·dsimp only [dTup,vh,aNil,d2,uh,dC,slot,setS,dv,EV.sto]
  exact xu ep ⟨trivial,rfl⟩
 rintro _ rfl;obtain⟨a9,a8⟩:=hm p hp;refine zh (λU=>∃ks,MK p.2 ks/\U=[q_ (stD cs zs B),q_ (.lst (env.map prD)),q_ (.int (4-(m+1:Nat))),q_ (.str s),q_ (.int c),q_ (.int w),Q_ (.lst ((I::z1::Z::N).map D.str)),none,none,none,none,Q_ (.lst (ms.map prD)),q_ (.str p.1),q_ (.str p.2),Q_ (.lst (ks.map D.str)),none]) ⟨rfl,rfl,rfl,rfl,"list","tree",rfl,rfl,by decide,.inr ⟨["num","list"],rfl⟩,.inr ⟨["tree","num","tree"],rfl⟩,p.2,rfl,?_⟩ ?_
 ·rcases ne.sh p a9 with e|e|e
  ·exact absurd e a8
  ·exact .inl ⟨e,trivial,["num","list"],.inr (.inl ⟨e,rfl⟩),rfl⟩
  exact .inr ⟨e,trivial,["tree","num","tree"],.inr (.inr ⟨e,rfl⟩),rfl⟩
 rintro _ ⟨ks,mk,rfl⟩;obtain⟨m2,m3,b7⟩:=Ex mk;have zl:((I::z1::Z::N).zip ks).length=ks.length:=by rw[List.length_zip];show min (N.length+3) _=_;omega
 refine z_g [q_ (stD cs zs B),q_ (.lst (env.map prD)),q_ (.int (4-(m+1:Nat))),q_ (.str s),q_ (.int c),q_ (.int w),q_ (.lst ((I::z1::Z::N).map D.str)),none,none,none,none,Q_ (.lst (ms.map prD)),q_ (.str p.1),q_ (.str p.2),q_ (.lst (ks.map D.str)),Q_ (.lst (((I::z1::Z::N).zip ks).map prD))] ?_ ?_
 ·refine ra (ra (qb (wc (rngD 0 ks.length) (λM a0=>?_) (λi es=>es=(((I::z1::Z::N).zip ks).take i).map prD) (by rw[vz1];omega) rfl ?_ ?_)))
  ·refine(show -(2 ^ 62)<=(((ks.map D.str).length:Nat):Int)/\(((ks.map D.str).length:Nat):Int)<2 ^ 62/\M (rngD 0 (((ks.map D.str).length:Nat):Int).toNat) from ?_);rw[zLm];exact⟨by omega,by omega,a0⟩
  ·rintro i d es hd hl rfl;obtain⟨hi,rfl⟩:=ur hd;have il:i<((I::z1::Z::N).zip ks).length:=by omega
   have iz:i<(I::z1::Z::N).length:=by show i<N.length+3;omega
   rw[Int.zero_add];refine⟨λ_=>?_,λz=>nomatch z⟩;have en:atI ((I::z1::Z::N).map D.str) (i:Int)=some (.str (I::z1::Z::N)[i]):=wu (by omega) (by rw[zai,Int.toNat_natCast,zaf iz];rfl)
   have ek:atI (ks.map D.str) (i:Int)=some (.str ks[i]):=wu (by omega) (by rw[zai,Int.toNat_natCast,zaf hi];rfl)
   refine K7 en ek (λM h=>h) (λM h=>h) (λM h=>h) (λM h=>h) ⟨trivial,?_⟩;rw[List.take_add_one,zaf il,List.getElem_zip,zMa];rfl
  rintro _ rfl;rw[vz1,List.take_of_length_le (by omega)]
  exact⟨trivial,rfl⟩
 refine zh (λU=>∃b,Bt (sg1 B) env b s/\U=[q_ (stD cs zs B),q_ (.lst (env.map prD)),q_ (.int (4-(m+1:Nat))),q_ (.str s),q_ (.int c),q_ (.int w),q_ (.lst ((I::z1::Z::N).map D.str)),none,none,none,q_ b,Q_ (.lst (ms.map prD)),q_ (.str p.1),q_ (.str p.2),q_ (.lst (ks.map D.str)),Q_ (.lst (((I::z1::Z::N).zip ks).map prD))]) ⟨rfl,cs,zs,B,env,s,congrArg (λt=>[stD cs zs B,D.lst (env.map prD),D.int t,D.str s]) e1,oh,ne.down,by omega,a5,λb hb=>⟨trivial,b,hb,rfl⟩⟩ ?_
 rintro _ ⟨b1,a4,rfl⟩;have nm:=ne.more (ks:=ks) m3 b7;rw[ez]at nm;refine zh (λU=>∃b,Bt (sg1 B) (env++(I::z1::Z::N).zip ks) b s/\U=[q_ (stD cs zs B),q_ (.lst (env.map prD)),q_ (.int (4-(m+1:Nat))),q_ (.str s),q_ (.int c),q_ (.int w),q_ (.lst ((I::z1::Z::N).map D.str)),none,none,q_ b,q_ b1,Q_ (.lst (ms.map prD)),q_ (.str p.1),q_ (.str p.2),q_ (.lst (ks.map D.str)),Q_ (.lst (((I::z1::Z::N).zip ks).map prD))]) ⟨by rw[zLm,zLm,zl];exact wm (Nat.ble_eq.mpr (show env.length+ks.length<=1000 by have:=ne.ln;have:=ne.hi;omega)),rfl,cs,zs,B,env++(I::z1::Z::N).zip ks,s,by rw[zMa];exact congrArg (λt=>[stD cs zs B,D.lst (env.map prD++((I::z1::Z::N).zip ks).map prD),D.int t,D.str s]) e1,oh,nm,by omega,a5,λb hb=>⟨trivial,b,hb,rfl⟩⟩ ?_
 rintro _ ⟨b2,a7,rfl⟩;have hx:=Pa ne.nodup a9;have a6:=nm.nodup;refine ra ⟨rfl,rfl,(show dCB sTupC _ _ _ from Z8 (wc (((I::z1::Z::N).zip ks).map prD) (λM a0=>⟨trivial,a0⟩) (λi es=>es=((((I::z1::Z::N).zip ks).map Prod.fst).take i).map D.str) (by rw[zLm,zl];omega) rfl ?_ ?_))⟩
 ·rintro i d es hd hl rfl;rw[zai]at hd;obtain⟨r,hr,rfl⟩:=zar.mp hd;refine⟨λ_=>⟨trivial,?_⟩,λz=>nomatch z⟩;rw[List.take_add_one,zai,hr,zMa];rfl
 rintro _ rfl;rcases mk with⟨e,_⟩|⟨e,rfl⟩|⟨e,rfl⟩
 ·exact absurd e a8
 ·rw[e]at hx ⊢;rw[zMa]at a6;exact⟨List.cons_ne_nil _ _,List.cons_ne_nil _ _,wm rfl,rfl,rfl,List.cons_ne_nil _ _,List.cons_ne_nil _ _,wm rfl,⟨trivial,trivial,a4.pure,trivial,trivial,a7.pure,trivial⟩,h _ (.list (by have:=ne.ln;have:=ne.hi;omega) hx a4 a6 a7)⟩
 rw[e]at hx ⊢;have e3:(I::z1::Z::N).zip [("tree" : Str),"num","tree"]=([(I,"tree"),(z1,"num"),(Z,"tree")]:Env):=by rw[List.zip_cons_cons,List.zip_cons_cons,List.zip_cons_cons,List.zip_nil_right]
 rw[e3]at a7 a6 ⊢;rw[zMa]at a6;exact⟨List.cons_ne_nil _ _,List.cons_ne_nil _ _,wm rfl,rfl,rfl,List.cons_ne_nil _ _,List.cons_ne_nil _ _,wm rfl,⟨trivial,trivial,a4.pure,trivial,trivial,trivial,a7.pure,trivial⟩,h _ (.tree (by have:=ne.ln;have:=ne.hi;omega) hx a4 a6 a7)⟩
theorem P5(T:Tops mg)(q:FD P w K mg base 1 "_law_take" pC Tx)(j:FD P w K mg base 6 "_law_expression" pA (tEx 4))(F:Fun K "_law_body" "_law_body" (top 27) f fd)(m:mg "_law_body" = some (.ref f)):∀n:Nat,FD P w K mg base (n+7) "_law_body" pA (tBd n)
 |0=>by
  have S:zu ["_law_state","_law_scope","_law_deep","_law_shape","_law_cell","_law_way","_law_names_here","_law_kind","_law_one","_law_other","_law_body_here","_law_some","_law_x","_law_word","_law_kinds","_law_more"] pA (zd (top 27)):=by walk_at "f"
  exact u6 F S (F.binds λ_ _ _ _ _ _ us hl=>(by obtain⟨_,_,_,_,rfl⟩:=Ni hl;rfl)) m λqZ A outer s H E ds Y hr hl hT=>hT.elim
 |n+1=>Wt T q j (P5 T q j F m n) F m
abbrev Gd:=Hd×D
def gD(g:Gd):D:=fnD g.1 g.2
structure GOk(hs:List Hd)(g:Gd):Prop where
 n1:1<=g.1.ps.length
 n3:g.1.ps.length<=3
 sh:∀p∈g.1.ps,IsSh p.2
 nd:(g.1.ps.map Prod.fst).Nodup
 bt:Bt (sg1 hs) g.1.ps g.2 g.1.sh
structure PG1(gs:List Gd)(hs:List Hd):Prop where
 nd:(gs.map λg=>g.1.nm).Nodup
 mem:∀h∈hs,∃b,(h,b)∈gs
 hnd:(hs.map Hd.nm).Nodup
 ok:∀g∈gs,GOk hs g
 n1:gs≠[]
 ln:gs.length<=10
def Gr:FT:=g1 λd Y=>∃ns,d=.scr ns/\∀gs hs,PG1 gs hs->Y (dv (.tup (gs.map gD)))
def KO(zs:List Str)(ks:List Hd):Prop:=∀(j:Nat)(h:Hd),ks[j]?=some h->zs[2+j]?=some h.nm/\HOk1 zs h
def KO.add{zs:List Str}{ks:List Hd}{h:Hd}(k:KO zs ks)(q:zs[2+ks.length]?=some h.nm)(ho:HOk1 zs h):KO zs (ks++[h]):=λj g e=>by
 rcases Nat.lt_trichotomy j ks.length with z|z|z
 ·rw[List.getElem?_append_left z]at e;exact k j g e
 ·subst z;rw[List.getElem?_append_right (zaj _),Nat.sub_self]at e;cases e;exact⟨q,ho⟩
 rw[List.getElem?_eq_none (by rw[zLa,List.length_singleton];omega)]at e
 cases e
def KO.names{zs:List Str}{ks:List Hd}(k:KO zs ks):ks.map Hd.nm=(zs.drop 2).take ks.length:=by
 apply List.ext_getElem?;intro j;rw[zai,List.getElem?_take];by_cases z:j<ks.length
 ·rw[if_pos z,List.getElem?_drop,zaf z];exact(k j _ (zaf z)).1.symm
 rw[if_neg z,List.getElem?_eq_none (by omega)]
 rfl
def HOk1.ne{zs:List Str}{h:Hd}(o:HOk1 zs h)(B:zs.Nodup)(l:zs.length=20):NE zs 4 h.ps/\1<=h.ps.length/\h.ps.length<=3:=by
 obtain⟨ks,e,N,M,q,_⟩:=o;have I:h.ps.length=ks.length:=by rw[e,List.length_zip];omega
 refine⟨⟨B,?_,by omega,by omega,λp j=>?_⟩,by omega,by omega⟩
 ·rw[I,e,Xs _ _ (by omega)]
 rw[e]at j;exact q _ (List.of_mem_zip j).2
def KO.heads{I a1 a2 a3 N:Str}{r:List Str}{ks:List Hd}(k:KO (I::a1::a2::a3::N::r) ks)(lr:r.length=15)(Z:(I::a1::a2::a3::N::r).Nodup)(k3:ks.length<=3):HsOk (putH I a1 a2::plaH a1 I a1::ks):=by
 have lz:(I::a1::a2::a3::N::r).length=20:=by show r.length+5=20;omega
 refine⟨?_,λh M=>?_,by show ks.length+2<=100;omega⟩
 ·show(I::a1::ks.map Hd.nm).Nodup;rw[k.names];exact Z.sublist (.cons₂ _ (.cons₂ _ (List.take_sublist ..)))
 rcases zam.mp M with rfl|M
 ·exact⟨(show 1<=2 by decide),(show 2<=3 by decide),λp B=>by rcases zam.mp B with rfl|B;exact .inl rfl;rw[List.mem_singleton.mp B];exact .inr (.inl rfl),.inr (.inl rfl)⟩
 rcases zam.mp M with rfl|M
 ·exact⟨(show 1<=2 by decide),(show 2<=3 by decide),λp B=>by rcases zam.mp B with rfl|B;exact .inl rfl;rw[List.mem_singleton.mp B];exact .inr (.inr rfl),.inr (.inr rfl)⟩
 obtain⟨j,hj⟩:=List.getElem?_of_mem M;have o:=(k j h hj).2;have q:=o.ne Z lz;obtain⟨_,_,_,_,_,s,_⟩:=o;exact⟨q.2.1,q.2.2,q.1.sh,s⟩
def Gb(ns:List Int):ZZ.cutD (ns.map D.int) (some 6) (some 54)=((ns.drop 6).take 48).map D.int:=by
 rw[List.map_take,List.map_drop];exact Ue (ns.map D.int) 6 54
def Hj{i:Nat}{te:TD}{U:DE}{Y:EV->Prop}(h:te (frzS U i) λr=>(∃ es,r=df (.lst es)/\zw es)/\Y r):Cf i te U Y:=h
def Ci{I:List Hd}{f n x h t:Str}(hf:sigL (sg1 I) f=some ([("num" : Str),"list"],("list" : Str)))(B:[n,x,h,t].Nodup):Bt (sg1 I) (putH f n x).ps (putB f n x h t) "list":=by
 have q:∀a b:Str,a≠b->∀(v:Str)(r:Env),envL ((a,v)::r) b=envL r b:=λa b e v r=>if_neg e;simp only[List.nodup_cons,zam,List.not_mem_nil,or_false,not_or,List.nodup_nil,not_false_eq_true,and_true]at B;obtain⟨⟨nx,nh,nt⟩,⟨Z,N⟩,ht⟩:=B;have j:∀r:Env,envL ((n,"num")::r) n=some ("num" : Str):=λr=>if_pos rfl;have ex:∀r:Env,envL ((n,"num")::(x,"list")::r) x=some ("list" : Str):=λr=>(q _ _ nx _ _).trans (if_pos rfl);have M:∀r:Env,envL ((n,"num")::(x,"list")::(h,"num")::r) h=some ("num" : Str):=λr=>(q _ _ nh _ _).trans ((q _ _ Z _ _).trans (if_pos rfl));have et:∀r:Env,envL ((n,"num")::(x,"list")::(h,"num")::(t,"list")::r) t=some ("list" : Str):=λr=>(q _ _ nt _ _).trans ((q _ _ N _ _).trans ((q _ _ ht _ _).trans (if_pos rfl)));refine .list (by show 2<=100;decide) (ex _) (.give (.cons (.var (j _)) .nil) (by decide)) ?_ (.less (.var (j _)) (.var (M _)) (by decide) (by decide) (.give (.cons (.var (j _)) (.var (ex _))) (by decide)) (.give (.cons (.var (M _)) (.call hf (.cons (.var (j _)) (.cons (.var (et _)) .nil)))) (by decide)))
 show[n,x,h,t].Nodup;simp[*]
def Cj{M:List Hd}{f n x l v w:Str}(N:sigL (sg1 M) f=some ([("num" : Str),"tree"],("tree" : Str)))(I:[n,x,l,v,w].Nodup):Bt (sg1 M) (plaH f n x).ps (plaB f n x l v w) "tree":=by
 have q:∀a b:Str,a≠b->∀(v:Str)(r:Env),envL ((a,v)::r) b=envL r b:=λa b e v r=>if_neg e;simp only[List.nodup_cons,zam,List.not_mem_nil,or_false,not_or,List.nodup_nil,not_false_eq_true,and_true]at I;obtain⟨⟨nx,nl,nv,nw⟩,⟨xl,xv,xw⟩,⟨lv,lw⟩,vw⟩:=I;have j:∀r:Env,envL ((n,"num")::r) n=some ("num" : Str):=λr=>if_pos rfl;have ex:∀r:Env,envL ((n,"num")::(x,"tree")::r) x=some ("tree" : Str):=λr=>(q _ _ nx _ _).trans (if_pos rfl);have el:∀r:Env,envL ((n,"num")::(x,"tree")::(l,"tree")::r) l=some ("tree" : Str):=λr=>(q _ _ nl _ _).trans ((q _ _ xl _ _).trans (if_pos rfl));have B:∀r:Env,envL ((n,"num")::(x,"tree")::(l,"tree")::(v,"num")::r) v=some ("num" : Str):=λr=>(q _ _ nv _ _).trans ((q _ _ xv _ _).trans ((q _ _ lv _ _).trans (if_pos rfl)));have Z:∀r:Env,envL ((n,"num")::(x,"tree")::(l,"tree")::(v,"num")::(w,"tree")::r) w=some ("tree" : Str):=λr=>(q _ _ nw _ _).trans ((q _ _ xw _ _).trans ((q _ _ lw _ _).trans ((q _ _ vw _ _).trans (if_pos rfl))));refine .tree (by show 2<=100;decide) (ex _) (.give (.node .leaf (.var (j _)) .leaf) (by decide)) ?_ (.less (.var (j _)) (.var (B _)) (by decide) (by decide) (.give (.node (.call N (.cons (.var (j _)) (.cons (.var (el _)) .nil))) (.var (B _)) (.var (Z _))) (by decide)) (.give (.node (.var (el _)) (.var (B _)) (.call N (.cons (.var (j _)) (.cons (.var (Z _)) .nil)))) (by decide)))
 show[n,x,l,v,w].Nodup;simp[*]
def K4{ks:List Hd}{bs:List D}(B:bs.length=ks.length){h:Hd}(m:h∈ks):∃b,(h,b)∈ks.zip bs:=by
 obtain⟨j,q,e⟩:=List.getElem_of_mem m;refine⟨bs[j]'(by omega),?_⟩
 rw[<- e];exact List.mem_iff_getElem.mpr ⟨j,by rw[List.length_zip];omega,List.getElem_zip⟩
def Bc{B a1 a2 a3 a4:Str}{r:List Str}{ks:List Hd}{bs:List D}(I:HsOk (putH B a1 a2::plaH a1 B a1::ks))(lr:r.length=15)(k3:ks.length<=3)(N:(B::a1::a2::a3::a4::r).Nodup)(ko:KO (B::a1::a2::a3::a4::r) ks)(bl:bs.length=ks.length)(hb:∀ g∈ks.zip bs,Bt (sg1 (putH B a1 a2::plaH a1 B a1::ks)) g.1.ps g.2 g.1.sh) :
  PG1 ([((putH B a1 a2,putB B a1 a2 a3 a4):Gd),(plaH a1 B a1,plaB a1 B a1 a2 a3 a4)]++ks.zip bs) (putH B a1 a2::plaH a1 B a1::ks):=by
 have lz:(B::a1::a2::a3::a4::r).length=20:=by show r.length+5=20;omega
 have hm:(ks.zip bs).map (λg=>g.1.nm)=ks.map Hd.nm:=by
  have e:(ks.zip bs).map (λg:Gd=>g.1.nm)=((ks.zip bs).map Prod.fst).map Hd.nm:=by rw[List.map_map];rfl
  rw[e,List.map_fst_zip (by omega)]
 refine⟨?_,λh Z=>?_,I.nd,λg M=>?_,by simp,?_⟩
 ·show(B::a1::(ks.zip bs).map λg=>g.1.nm).Nodup;rw[hm];exact I.nd
 ·rcases zam.mp Z with rfl|Z
  ·exact⟨_,.head _⟩
  rcases zam.mp Z with rfl|Z
  ·exact⟨_,.tail _ (.head _)⟩
  obtain⟨b,m⟩:=K4 bl Z;exact⟨b,.tail _ (.tail _ m)⟩
 ·have s2:∀{a b:Str}{xs:List Str},(a::b::xs).Nodup->[a,b].Nodup:=λn=>n.sublist (.cons₂ _ (.cons₂ _ (List.nil_sublist _)));rcases zam.mp M with rfl|M
  ·have q:=I.ok (putH B a1 a2) (.head _);exact⟨q.1,q.2.1,q.2.2.1,s2 (List.nodup_cons.mp N).2,Ci (Oa I.nd (.head _)) ((List.nodup_cons.mp N).2.sublist (.cons₂ _ (.cons₂ _ (.cons₂ _ (.cons₂ _ (List.nil_sublist _))))))⟩
  rcases zam.mp M with rfl|M
  ·have q:=I.ok (plaH a1 B a1) (.tail _ (.head _));exact⟨q.1,q.2.1,q.2.2.1,s2 N,Cj (Oa I.nd (.tail _ (.head _))) (N.sublist (.cons₂ _ (.cons₂ _ (.cons₂ _ (.cons₂ _ (.cons₂ _ (List.nil_sublist _)))))))⟩
  obtain⟨j,hj⟩:=List.getElem?_of_mem (List.of_mem_zip M).1;have q:=(ko j g.1 hj).2.ne N lz;exact⟨q.2.1,q.2.2,q.1.sh,q.1.nodup,hb g M⟩
 rw[zLa,List.length_zip];show 2+_<=10;omega
def PG1.rot{gs:List Gd}{hs:List Hd}(p:PG1 gs hs)(t:Nat):PG1 (gs.drop t++gs.take t) hs:=by
 have j:(gs.drop t++gs.take t).Perm gs:=by
  have:=List.perm_append_comm (l₁:=gs.drop t) (l₂:=gs.take t)
  rwa [List.take_append_drop]at this
 exact⟨(j.map _).nodup_iff.mpr p.nd,λh q=>(p.mem h q).imp λb m=>j.mem_iff.mpr m,p.hnd,λg B=>p.ok g (j.mem_iff.mp B),λz=>p.n1 (List.length_eq_zero_iff.mp (by rw[<- j.length_eq,z];rfl)),by rw[j.length_eq];exact p.ln⟩
theorem GOk.pure{j:List Hd}{g:Gd}(o:GOk j g):zj (gD g):=by
 have q:=gf g.1;exact⟨q.1,q.2.1,q.2.2.1,o.bt.pure,trivial⟩
def dz(T:Tops mg)(Ai:FD P w K mg base 1 "_law_cell_at" pE O91)(a6:FD P w K mg base 1 "_law_names" ["_law_cell","_law_many"] Ms)(a7:FD P w K mg base 1 "_law_putting" pB tPut)(a8:FD P w K mg base 1 "_law_planting" pB tPla)(a5:FD P w K mg base 1 "_law_head" pF Gv)(Ah:FD P w K mg base 12 "_law_body" pA (tBd 5))(F:Fun K "_law_program" "_law_program" (top 28) f fd)(m:mg "_law_program" = some (.ref f)):FD P w K mg base 13 "_law_program" ["_law_script"] Gr:=by
 have S:zu ["_law_script","_law_first","_law_names_here","_law_program_here","_law_heads","_law_state","_law_head_here","_law_turn"] ["_law_script"] (zd (top 28)):=by walk_at "f"
 walk_at "b";refine⟨_,(ze (zp (y3 1 S.nd (yz (ya Ai (hr.e rfl) (za (z9 0) (za zc zb))) (bu zc zc))))
   (ze (zp (y3 2 S.nd (ya a6 (hr.e rfl) (za (ya Ai (hr.e rfl) (za (z9 0) (za zc zb))) (za zc zb)))))
   (ze (zp (y3 3 S.nd (x8 (za (ya a7 (hr.e rfl) (za (zg hu (z9 2) zc) (za (yj (z9 2) (yi zc) xg) zb))) (za (ya a8 (hr.e rfl) (za (zg hu (z9 2) zc) (za (z9 2) zb))) zb)))))
   (ze (zp (ut 2 (vv (T:=["_law_k"]) (F:=["_law_names_here","_law_script"]) (js:=[2,0]) 4 S.nd (wo T.range (za (x5 zc (yz (z9 1) zc)) zb)) (show y4 (zd (top 28)) _ _ _ from by walk_at "c") (.cons rfl (.cons rfl .nil)) (by decide) (by walk_at "t") (yn (by decide)) (yr 0) (λcl C fp s H=>xx) (λcl C fp s H=>(ya a5 (hr.e rfl) (za (zg hu (z9 1) (x5 zc (z9 0))) (za (z9 1) (za (ya Ai (hr.e rfl) (za (z9 2) (za (x5 zc (z9 0)) zb))) zb))))))))
   (ze (zp (ut 2 (y3 5 S.nd (x8 (za (yj (z9 0) (yi zc) (yi zc)) (za zc (za (z9 2) (za (x5 (Hy 3 (rz (T:=["_law_one"]) (F:=[]) (js:=[]) (wg (z9 3)) (show y4 (zd (top 28)) _ _ _ from by walk_at "c") .nil (by decide) (by walk_at "t") (yn (by decide)) (yr 0) (λcl C fp s H=>xx) (λcl C fp s H=>(yj (z9 0) xg (yi zc))))) (z9 4)) zb))))))))
   (ze (zp (B6 5 (ut 4 (sv (wg (z9 4)) (zn (i:=6) S.nd rfl (by walk_at "o")) (yr 6) (zy (wy 3 (x5 (z9 6) (zi (za (ya Ah (hr.e rfl) (za (z9 5) (za (Y8 T.list (za (zg hu (z9 6) zc) zb)) (za zc (za (zg hu (zg hu (z9 6) zc) zc) zb))))) zb)))))))))
   (ze (zp (y3 7 S.nd (yz (rq (z9 1) zc) (yu T.len (za (z9 3) zb)))))
   (zy (yg (wq T.tuple (za (x5 (yj (z9 3) (yi (z9 7)) xg) (yj (z9 3) xg (yi (z9 7)))) zb))))))))))),?_⟩
 obtain⟨a,rfl,ns,rfl,h⟩:=Ww hT;refine zh (λU=>∃c:Int,U=[q_ (.scr ns),q_ (.int c),none,none,none,none,none,none]) ⟨rfl,ns,0,rfl,rfl,λc=>⟨⟨by decide,by decide,by decide⟩,(show(10 ^ 9:Int)≠0 by decide),trivial,_,rfl⟩⟩ ?_
 rintro _ ⟨c,rfl⟩;refine zh (λU=>∃B a1 a2 a3 I r,r.length=15/\(B::a1::a2::a3::I::r).Nodup/\U=[q_ (.scr ns),q_ (.int c),Q_ (.lst ((B::a1::a2::a3::I::r).map D.str)),none,none,none,none,none]) ⟨rfl,ns,1,rfl,rfl,λc=>⟨rfl,c,20,rfl,by decide,λzs lz nz=>⟨trivial,?_⟩⟩⟩ ?_
 ·match zs,lz with
  |B::a1::a2::a3::I::r,lz=>exact⟨B,a1,a2,a3,I,r,by rw[zLc,zLc,zLc,zLc,zLc]at lz;omega,nz,rfl⟩
 rintro _ ⟨B,a1,a2,a3,I,r,lr,nz,rfl⟩;refine z_g [q_ (.scr ns),q_ (.int c),Q_ (.lst ((B::a1::a2::a3::I::r).map D.str)),Q_ (.lst ([((putH B a1 a2,putB B a1 a2 a3 I):Gd),(plaH a1 B a1,plaB a1 B a1 a2 a3 I)].map gD)),none,none,none,none] ?_ ?_
 ·refine qb ?_
  dsimp only [dLst,vh,Y9,d2,dC,uh,slot]
  refine xu Mm ⟨rfl,B,a1,a2,a3,I,r,rfl,congrArg D.lst (jt D.str (B::a1::a2::a3::I::r) 1),?_⟩;refine xu Ck ⟨rfl,a1,B,a1,a2,a3,I,r,rfl,rfl,rfl,rfl,trivial,rfl⟩
 have lz:(B::a1::a2::a3::I::r).length=20:=by show r.length+5=20;omega
 refine zh (λU=>∃ks:List Hd,ks.length<=3/\KO (B::a1::a2::a3::I::r) ks/\U=[q_ (.scr ns),q_ (.int c),q_ (.lst ((B::a1::a2::a3::I::r).map D.str)),Q_ (.lst ([((putH B a1 a2,putB B a1 a2 a3 I):Gd),(plaH a1 B a1,plaB a1 B a1 a2 a3 I)].map gD)),Q_ (.lst (ks.map hdD)),none,none,none]) ?_ ?_
 ·obtain⟨n,n1,n3,en⟩:∃n:Nat,1<=n/\n<=3/\(1+c.fmod 3:Int)=n:=by
   rcases N7 c with z|z|z <;> rw[z]
   ·exact⟨1,by decide,by decide,rfl⟩
   ·exact⟨2,by decide,by decide,rfl⟩
   exact⟨3,by decide,by decide,rfl⟩
  refine ra (qb (wc (rngD 0 n) (λM Z=>?_) (λi es=>∃ks:List Hd,ks.length=i/\es=ks.map hdD/\KO (B::a1::a2::a3::I::r) ks) (by rw[vz1];omega) ⟨[],rfl,rfl,λj h e=>(by simp at e)⟩ ?_ ?_))
  ·exact⟨ne_3,(show -(2 ^ 62)<=(1+c.fmod 3:Int) by omega),(show(1+c.fmod 3:Int)<2 ^ 62 by omega),(show M (rngD 0 (1+c.fmod 3:Int).toNat) by rw[en];exact Z)⟩
  ·rintro i d es hd hl ⟨ks,rfl,rfl,ko⟩;obtain⟨hi,rfl⟩:=ur hd;have il:2+ks.length<(B::a1::a2::a3::I::r).length:=by omega
   rw[Int.zero_add];refine⟨λ_=>?_,λz=>nomatch z⟩;have ez:atI ((B::a1::a2::a3::I::r).map D.str) (2+(ks.length:Int))=some (.str (B::a1::a2::a3::I::r)[2+ks.length]):=wu (by omega) (by rw[zai,show(2+(ks.length:Int)).toNat=2+ks.length by omega,zaf il];rfl)
   refine(show Y9 _ _ _ [q_ (.int ks.length),q_ (.lst ((B::a1::a2::a3::I::r).map D.str)),q_ (.scr ns)] _ from ?_)
   dsimp only [vh,Y9,d2,dC,uh,slot,dv,sAdd]
   refine xu ez ⟨rfl,ns,2+ks.length,rfl,congrArg D.int (by omega),λc=>⟨rfl,_,(B::a1::a2::a3::I::r),c,rfl,rfl,by omega,rfl,λh hn ho=>⟨trivial,ks++[h],by rw[zLa];rfl,by rw[zMa];rfl,ko.add (by rw[hn,zaf il]) ho⟩⟩⟩
  rintro _ ⟨ks,kl,rfl,ko⟩;rw[vz1]at kl;exact⟨trivial,ks,by omega,ko,rfl⟩
 rintro _ ⟨ks,k3,ko,rfl⟩;refine zh (λU=>∃cs:List Int,U=[q_ (.scr ns),q_ (.int c),q_ (.lst ((B::a1::a2::a3::I::r).map D.str)),Q_ (.lst ([((putH B a1 a2,putB B a1 a2 a3 I):Gd),(plaH a1 B a1,plaB a1 B a1 a2 a3 I)].map gD)),Q_ (.lst (ks.map hdD)),Q_ (.lst [.lst (cs.map D.int),.int 0,.lst ((B::a1::a2::a3::I::r).map D.str),.lst ((putH B a1 a2::plaH a1 B a1::ks).map hdD)]),none,none]) ?_ ?_
 ·refine ra (qb ?_);refine(show dLst _ [q_ (.scr ns),q_ (.int c),q_ (.lst ((B::a1::a2::a3::I::r).map D.str)),Q_ (.lst ([((putH B a1 a2,putB B a1 a2 a3 I):Gd),(plaH a1 B a1,plaB a1 B a1 a2 a3 I)].map gD)),Q_ (.lst (ks.map hdD)),none,none,none] _ from ?_)
  dsimp only [dLst,vh,aNil,dSl,Jm,Jn,uh,dC,d2,slot,dv,sSl]
  refine Hj (wr ([((putH B a1 a2,putB B a1 a2 a3 I):Gd),(plaH a1 B a1,plaB a1 B a1 a2 a3 I)].map gD) (λM Z=>⟨trivial,Z⟩) (λd=>match d with|.tup [a,b,c,_]=>some (.tup [a,b,c])|_=>none) (by show 2<=_;decide) (λd hd=>?_) ⟨⟨[hdD (putH B a1 a2),hdD (plaH a1 B a1)],rfl,gf _,gf _,trivial⟩,?_⟩)
  ·rcases zam.mp hd with rfl|hd
   ·exact⟨λ_=>⟨(show ¬ (ZZ.sIx 4 0 none=0/\ZZ.sIx 4 4 (some 3)=4) by decide),trivial,rfl⟩,λz=>nomatch z⟩
   rw[List.mem_singleton.mp hd];exact⟨λ_=>⟨(show ¬ (ZZ.sIx 4 0 none=0/\ZZ.sIx 4 4 (some 3)=4) by decide),trivial,rfl⟩,λz=>nomatch z⟩
  refine⟨wm (Nat.ble_eq.mpr (show 2+(ks.map hdD).length<=1000 by rw[zLm];omega)),rfl,rfl,trivial,(ns.drop 6).take 48,?_⟩
  rw[<- Gb ns];rfl
 rintro _ ⟨cs,rfl⟩;have oh:=ko.heads lr nz k3;refine zh (λU=>∃bs hh,bs.length=ks.length/\(∀g∈ks.zip bs,Bt (sg1 (putH B a1 a2::plaH a1 B a1::ks)) g.1.ps g.2 g.1.sh)/\U=[q_ (.scr ns),q_ (.int c),q_ (.lst ((B::a1::a2::a3::I::r).map D.str)),Q_ (.lst (([((putH B a1 a2,putB B a1 a2 a3 I):Gd),(plaH a1 B a1,plaB a1 B a1 a2 a3 I)]++(ks.take bs.length).zip bs).map gD)),q_ (.lst (ks.map hdD)),q_ (stD cs (B::a1::a2::a3::I::r) (putH B a1 a2::plaH a1 B a1::ks)),hh,none]) ⟨_,0,_,_,rfl,by decide,ra ?_⟩ ?_
 ·refine(show sFor _ _ _ [q_ (.scr ns),q_ (.int c),q_ (.lst ((B::a1::a2::a3::I::r).map D.str)),Q_ (.lst ([((putH B a1 a2,putB B a1 a2 a3 I):Gd),(plaH a1 B a1,plaB a1 B a1 a2 a3 I)].map gD)),q_ (.lst (ks.map hdD)),q_ (stD cs (B::a1::a2::a3::I::r) (putH B a1 a2::plaH a1 B a1::ks)),none,none] _ from ?_);refine uf (ks.map hdD) (λM Z=>⟨trivial,Z⟩) (λi U=>∃bs hh,bs.length=i/\(∀g∈(ks.take i).zip bs,Bt (sg1 (putH B a1 a2::plaH a1 B a1::ks)) g.1.ps g.2 g.1.sh)/\U=[q_ (.scr ns),q_ (.int c),q_ (.lst ((B::a1::a2::a3::I::r).map D.str)),Q_ (.lst (([((putH B a1 a2,putB B a1 a2 a3 I):Gd),(plaH a1 B a1,plaB a1 B a1 a2 a3 I)]++(ks.take bs.length).zip bs).map gD)),q_ (.lst (ks.map hdD)),q_ (stD cs (B::a1::a2::a3::I::r) (putH B a1 a2::plaH a1 B a1::ks)),hh,none]) ⟨[],none,rfl,(λg hg=>by rw[List.zip_nil_right]at hg;cases hg),rfl⟩ ?_ ?_
  ·rintro i d _ hd ⟨bs,hh,rfl,hb,rfl⟩;rw[zai]at hd;obtain⟨g,hg,rfl⟩:=zar.mp hd;have og:=(ko _ _ hg).2;have nq:=(og.ne nz lz).1;obtain⟨_,_,_,_,_,b0,_⟩:=og;refine X9 (uz rfl ⟨rfl,cs,_,_,g.ps,g.sh,rfl,oh,nq,by decide,b0,λb a9=>⟨rfl,rfl,List.cons_ne_nil _ _,List.cons_ne_nil _ _,wm rfl,trivial,?_,bs++[b],q_ (hdD g),by rw[zLa];rfl,?_,?_⟩⟩)
   ·rw[zLm,zLa,List.length_zip,List.length_take];show 2+_<=_;omega
   ·intro q hq;rw[List.take_add_one,hg,List.zip_append (by rw[List.length_take];have:=(zag.mp hg).1;omega)]at hq
    rcases zas.mp hq with hq|hq
    ·exact hb q hq
    rw[List.mem_singleton.mp hq];exact a9
   have ee:([((putH B a1 a2,putB B a1 a2 a3 I):Gd),(plaH a1 B a1,plaB a1 B a1 a2 a3 I)]++(ks.take (bs++[b]).length).zip (bs++[b])).map gD=([((putH B a1 a2,putB B a1 a2 a3 I):Gd),(plaH a1 B a1,plaB a1 B a1 a2 a3 I)]++(ks.take bs.length).zip bs).map gD++[gD (g,b)]:=by
    rw[zLa,show[b].length=1 from rfl,List.take_add_one,hg,List.zip_append (by rw[List.length_take];have:=(zag.mp hg).1;omega),<- List.append_assoc]
    exact zMa
   rw[ee];rfl
  rintro _ ⟨bs,hh,bl,hb,rfl⟩;rw[zLm]at bl;rw[zLm,List.take_length]at hb;exact⟨bs,hh,bl,hb,rfl⟩
 rintro _ ⟨bs,hh,bl,hb,rfl⟩;rw[bl,List.take_length];have gl:([((putH B a1 a2,putB B a1 a2 a3 I):Gd),(plaH a1 B a1,plaB a1 B a1 a2 a3 I)]++ks.zip bs).length<=10:=by rw[zLa,List.length_zip];show 2+_<=_;omega
 have g2:2<=([((putH B a1 a2,putB B a1 a2 a3 I):Gd),(plaH a1 B a1,plaB a1 B a1 a2 a3 I)]++ks.zip bs).length:=by rw[zLa];show 2<=2+_;omega
 have pg:PG1 ([((putH B a1 a2,putB B a1 a2 a3 I):Gd),(plaH a1 B a1,plaB a1 B a1 a2 a3 I)]++ks.zip bs) (putH B a1 a2::plaH a1 B a1::ks):=Bc oh lr k3 nz ko bl hb;generalize [((putH B a1 a2,putB B a1 a2 a3 I):Gd),(plaH a1 B a1,plaB a1 B a1 a2 a3 I)]++ks.zip bs=N at gl g2 pg ⊢;obtain⟨l0,g,hg,eg⟩:=gi (f:=gD) (xs:=N) (λz=>by rw[z]at g2;exact absurd g2 (by decide)) (c.fdiv 3)
 have t0:=Int.fmod_nonneg_of_pos (c.fdiv 3) (show(0:Int)<(N.map gD).length by rw[zLm];omega)
 obtain⟨t,et⟩:=Int.eq_ofNat_of_zero_le t0;refine zh (λU=>U=[q_ (.scr ns),q_ (.int c),q_ (.lst ((B::a1::a2::a3::I::r).map D.str)),Q_ (.lst (N.map gD)),q_ (.lst (ks.map hdD)),q_ (stD cs (B::a1::a2::a3::I::r) (putH B a1 a2::plaH a1 B a1::ks)),hh,q_ (.int t)]) ⟨fdl,l0,trivial,by rw[<- et];rfl⟩ ?_
 rintro _ rfl;have e1:=jt gD N t;have e2:ZZ.cutD (N.map gD) none (some (t:Int))=(N.take t).map gD:=by rw[dh,<- List.map_take]
 have l1:(ZZ.cutD (N.map gD) (some (t:Int)) none).length+(ZZ.cutD (N.map gD) none (some (t:Int))).length<=sizeLine:=by
  rw[e1,e2,zLm,zLm,List.length_drop,List.length_take];exact wm (Nat.ble_eq.mpr (by omega))
 have ee:ZZ.cutD (N.map gD) (some (t:Int)) none++ZZ.cutD (N.map gD) none (some (t:Int))=(N.drop t++N.take t).map gD:=by rw[e1,e2,zMa]
 have l2:zw (ZZ.cutD (N.map gD) (some (t:Int)) none++ZZ.cutD (N.map gD) none (some (t:Int))):=by
  rw[ee];exact yd.mpr λd hd=>by
   obtain⟨g,hg,rfl⟩:=zah.mp hd;exact((pg.rot t).ok g hg).pure
 exact⟨l1,l2,(show Y (dv (.tup (ZZ.cutD (N.map gD) (some (t:Int)) none++ZZ.cutD (N.map gD) none (some (t:Int))))) by rw[ee];exact h _ _ (pg.rot t))⟩
def db{α:Type}(f:α->D)(xs:List α)(n:Nat):ZZ.cutD (xs.map f) none (some (n:Int))=(xs.take n).map f:=by
 rw[dh,<- List.map_take]
def tTr:FT:=g1 λd Y=>∃ms:List Int,d=.lst (ms.map D.int)/\∀t:Tr,t.nodes<=40->Y (dv t.d)
def Uu{α j:Type}(f:α->j)(xs:List α)(l u k:Option Int):xj (xs.map f) l u k=(xj xs l u k).map f:=by
 show List.filterMap (λi=>(xs.map f)[i]?) (sliceRange (sliceBounds l u k (xs.map f).length).1 (sliceBounds l u k (xs.map f).length).2.1 (sliceBounds l u k (xs.map f).length).2.2)=(List.filterMap (λi=>xs[i]?) (sliceRange (sliceBounds l u k xs.length).1 (sliceBounds l u k xs.length).2.1 (sliceBounds l u k xs.length).2.2)).map f;rw[List.map_filterMap,zLm]
 congr 1
 funext i
 rw[zai]
def Gy:FT:=g2 λa b Y=>∃(g:Gd)(hs:List Hd)(ms:List Int),a=gD g/\GOk hs g/\b=.lst (ms.map D.int)/\∀as:List D,RsT (g.1.ps.map Prod.snd) as->Y (df (.lst as))
def RsT.snoc{s:Str}{v:D}(q:Vt s v){j:List Str}{l:List D}(h:RsT j l):RsT (j++[s]) (l++[v]):=h.app ⟨v,[],rfl,q,rfl⟩
def Wq(T:Tops mg)(Al:FD P w K mg base 1 "_law_number" ["_law_cell"] Kb)(F:Fun K "_law_tree" "_law_tree" (top 29) f fd)(m:mg "_law_tree" = some (.ref f)):FD P w K mg base 2 "_law_tree" ["_law_cells"] tTr:=by
 have S:zu ["_law_cells","_law_tree_here","_law_cell","_law_one"] ["_law_cells"] (zd (top 29)):=by walk_at "f"
 walk_at "b";refine⟨_,(ze (zp (y3 1 S.nd vj))
   (ze (zp (sv (wg (yj (z9 0) xg (yi zc))) (zn (i:=2) S.nd rfl (by walk_at "o")) (yr 2) (ze (y3 3 S.nd (ya Al (hr.e rfl) (za (rq (z9 2) zc) zb)))
    (zy (y3 1 S.nd (zg hu (x8 (za (zi (za (z9 1) (za (z9 3) (za vj zb)))) (za (zi (za vj (za (z9 3) (za (z9 1) zb)))) (za (zi (za (z9 1) (za (z9 3) (za (zi (za vj (za (z9 3) (za vj zb)))) zb)))) zb)))) (yz (z9 2) zc)))))))
   (zy (yg (z9 1))))),?_⟩
 obtain⟨a,rfl,ms,rfl,h⟩:=Ww hT;refine zh (λU=>U=[q_ (.lst (ms.map D.int)),q_ .non,none,none]) ⟨trivial,rfl⟩ ?_;rintro _ rfl;refine zh (λU=>∃(t:Tr)(a b:Option EV),t.nodes<=40/\U=[q_ (.lst (ms.map D.int)),q_ t.d,a,b]) ?_ ?_
 ·have e:ZZ.cutD (ms.map D.int) none (some 20)=(ms.take 20).map D.int:=db D.int ms 20;refine uf ((ms.take 20).map D.int) (λM B=>⟨trivial,(show M (ZZ.cutD (ms.map D.int) none (some 20)) by rw[e];exact B)⟩) (λi U=>∃(t:Tr)(a b:Option EV),t.nodes<=2*i/\U=[q_ (.lst (ms.map D.int)),q_ t.d,a,b]) ⟨.lf,none,none,Nat.zero_le _,rfl⟩ ?_ ?_
  ·rintro i d _ N ⟨t,a,b,j,rfl⟩;obtain⟨c,_,rfl⟩:=zah.mp (zan N);refine X9 (ve ⟨fdl,rfl,_,rfl,λn=>⟨trivial,rfl,rfl,rfl,rfl,rfl,rfl,rfl,rfl,rfl,rfl,ne_3,?_⟩⟩);have q:∃t':Tr,t'.nodes<=2*(i+1)/\atI [D.tup [t.d,.int n,.non],.tup [.non,.int n,t.d],.tup [t.d,.int n,.tup [.non,.int n,.non]]] (c.fmod 3)=some t'.d:=by
    rcases N7 c with z|z|z <;> rw[z]
    ·exact⟨.nd t n .lf,by show 1+t.nodes+0<=_;omega,rfl⟩
    ·exact⟨.nd .lf n t,by show 1+0+t.nodes<=_;omega,rfl⟩
    exact⟨.nd t n (.nd .lf n .lf),by show 1+t.nodes+(1+0+0)<=_;omega,rfl⟩
   obtain⟨t',I,Z⟩:=q;exact xu Z ⟨trivial,t',_,_,I,rfl⟩
  rintro _ ⟨t,a,b,j,rfl⟩;exact⟨t,a,b,by rw[zLm,List.length_take]at j;omega,rfl⟩
 rintro _ ⟨t,a,b,j,rfl⟩;exact⟨t.pure,h t j⟩
def Wu(T:Tops mg)(Al:FD P w K mg base 1 "_law_number" ["_law_cell"] Kb)(Z:FD P w K mg base 2 "_law_tree" ["_law_cells"] tTr)(F:Fun K "_law_args" "_law_args" (top 30) f fd)(m:mg "_law_args" = some (.ref f)):FD P w K mg base 3 "_law_args" ["_law_one","_law_cells"] Gy:=by
 have S:zu ["_law_one","_law_cells","_law_args_here","_law_k","_law_own"] ["_law_one","_law_cells"] (zd (top 30)):=by walk_at "f"
 walk_at "b";refine⟨_,(ze (zp (y3 2 S.nd (x8 zb)))
   (ze (zp (sv (wo T.range (za (yu T.len (za (zg hu (z9 0) zc) zb)) zb)) (zn (i:=3) S.nd rfl (by walk_at "o")) (yr 3) (ze (y3 4 S.nd (yj (Hx (z9 1) (yi (z9 3)) xg (yi (yu T.len (za (zg hu (z9 0) zc) zb)))) xg (yi zc)))
    (zy (wb (xm hu (zg hu (zg hu (zg hu (z9 0) zc) (z9 3)) zc) zf) (zy (ut 4 (wy 2 (wq T.tuple (za (qw (T:=["_law_part"]) (F:=[]) (js:=[]) (wg (z9 4)) (show y4 (zd (top 30)) _ _ _ from by walk_at "c") .nil (by decide) (by walk_at "t") (yn (by decide)) (yr 0) (λcl C fp s H=>xx) (λcl C fp s H=>(ya Al (hr.e rfl) (za (z9 0) zb)))) zb))))) (zy (wb (xm hu (zg hu (zg hu (zg hu (z9 0) zc) (z9 3)) zc) zf) (zy (wy 2 (ya Z (hr.e rfl) (za (z9 4) zb)))) (zy (wy 2 (ya Al (hr.e rfl) (za (Hw T.sum (za (z9 4) zb)) zb)))))))))))
   (zy (yg (z9 2))))),?_⟩
 obtain⟨a,b,rfl,g,hs,ms,rfl,og,rfl,h⟩:=P6 hT;refine zh (λU=>U=[q_ (gD g),q_ (.lst (ms.map D.int)),Q_ (.lst []),none,none]) ⟨rfl,rfl,trivial,rfl⟩ ?_;rintro _ rfl;have n3:=og.n3;refine zh (λU=>∃(I:List D)(a b:Option EV),RsT (g.1.ps.map Prod.snd) I/\U=[q_ (gD g),q_ (.lst (ms.map D.int)),Q_ (.lst I),a,b]) ?_ ?_
 ·refine uf (rngD 0 g.1.ps.length) (λM B=>?_) (λi U=>∃(I:List D)(a b:Option EV),RsT ((g.1.ps.map Prod.snd).take i) I/\U=[q_ (gD g),q_ (.lst (ms.map D.int)),Q_ (.lst I),a,b]) ⟨[],none,none,rfl,rfl⟩ ?_ ?_
  ·refine(show -(2 ^ 62)<=(((g.1.ps.map prD).length:Nat):Int)/\(((g.1.ps.map prD).length:Nat):Int)<2 ^ 62/\M (rngD 0 (((g.1.ps.map prD).length:Nat):Int).toNat) from ?_);rw[zLm];exact⟨by omega,by omega,B⟩
  ·rintro i d _ hd ⟨I,a,b,N,rfl⟩;obtain⟨hi,rfl⟩:=ur hd;rw[Int.zero_add];have l0:((g.1.ps.map prD).length:Int)≠0:=by rw[zLm];have:=og.n1;omega
   have lm:I.length<=3:=by have:=N.len;rw[List.length_take]at this;omega
   have ep:atI (g.1.ps.map prD) (i:Int)=some (prD g.1.ps[i]):=wu (by omega) (by rw[zai,Int.toNat_natCast,zaf hi];rfl)
   have up:∀v,Vt g.1.ps[i].2 v->RsT ((g.1.ps.map Prod.snd).take (i+1)) (I++[v]):=λv hv=>by
    rw[List.take_add_one,zai,zaf hi];exact N.snoc hv
   have sh:=og.sh g.1.ps[i] (List.getElem_mem hi);have eo:ZZ.cutD (xj (ms.map D.int) (some (i:Int)) none (some ((g.1.ps.map prD).length:Int))) none (some 40)=((xj ms (some (i:Int)) none (some ((g.1.ps.map prD).length:Int))).take 40).map D.int:=by
    rw[Uu];exact db D.int _ 40
   refine X9 (ve ⟨λz=>l0 (Option.some.inj z),trivial,?_⟩)
   dsimp only
   refine(show sIf _ _ _ [q_ (gD g),q_ (.lst (ms.map D.int)),Q_ (.lst I),q_ (.int i),Q_ (.lst (ZZ.cutD (xj (ms.map D.int) (some (i:Int)) none (some ((g.1.ps.map prD).length:Int))) none (some 40)))] _ from ?_);rw[eo];have ll:((xj ms (some (i:Int)) none (some ((g.1.ps.map prD).length:Int))).take 40).length<=40:=by rw[List.length_take];omega
   generalize (xj ms (some (i:Int)) none (some ((g.1.ps.map prD).length:Int))).take 40=l at ll ⊢;refine uy (eqD (.str g.1.ps[i].2) (.str "list")) (λM B=>?_) (λz=>?_) (λz1=>?_)
   ·dsimp only [tBo,d2,uh,dC,slot,dv]
    refine sy (ds:=[.str g.1.nm,.tup (g.1.ps.map prD),.tup [.str g.1.sh,.tup (g.1.sz.map D.int)],g.2]) rfl ?_;refine sy ep ?_;exact sy (ds:=[.str g.1.ps[i].1,.str g.1.ps[i].2]) rfl ⟨of_eq_true ym,of_eq_true ym,B⟩
   ·refine ra (uz rfl (Z8 (wc (l.map D.int) (λM B=>⟨trivial,B⟩) (λj es=>∃q:List Int,es=q.map D.int/\q.length<=j) (by rw[zLm];omega) ⟨[],rfl,zaj _⟩ ?_ ?_)))
    ·rintro j d es hd hl ⟨q,rfl,ql⟩;obtain⟨c,_,rfl⟩:=zah.mp (zan hd);exact⟨λ_=>⟨rfl,c,rfl,λn=>⟨trivial,q++[n],by rw[zMa];rfl,by rw[zLa];show _+1<=_;omega⟩⟩,λz=>nomatch z⟩
    rintro _ ⟨q,rfl,ql⟩;rw[zLm]at ql;exact⟨trivial,by omega,_,_,_,up _ (.inr (.inl ⟨eqs z,q,rfl,by omega⟩)),rfl⟩
   refine uy (eqD (.str g.1.ps[i].2) (.str "tree")) (λM B=>?_) (λz=>?_) (λz2=>?_)
   ·dsimp only [tBo,d2,uh,dC,slot,dv]
    refine sy (ds:=[.str g.1.nm,.tup (g.1.ps.map prD),.tup [.str g.1.sh,.tup (g.1.sz.map D.int)],g.2]) rfl ?_;refine sy ep ?_;exact sy (ds:=[.str g.1.ps[i].1,.str g.1.ps[i].2]) rfl ⟨of_eq_true ym,of_eq_true ym,B⟩
   ·exact uz rfl ⟨rfl,l,rfl,λt ht=>⟨trivial,by omega,_,_,_,up _ (.inr (.inr ⟨eqs z,t,rfl,by omega⟩)),rfl⟩⟩
   have e:g.1.ps[i].2 = "num":=by
    rcases sh with e|e|e
    ·exact e
    ·exact absurd e (eqn z1)
    exact absurd e (eqn z2)
   refine uz rfl ?_
   dsimp only [Y9,vh,aNil,dCB,uh,slot,sSum,List.map_cons,List.map_nil]
   refine(show match Zu (l.map D.int) with|some ns=>_|none=>False from ?_)
   rw[fq];exact⟨rfl,_,rfl,λn=>⟨trivial,by omega,_,_,_,up _ (.inl ⟨e,n,rfl⟩),rfl⟩⟩
  rintro _ ⟨I,a,b,N,rfl⟩;rw[vz1,List.take_of_length_le (by rw[zLm];exact zaj _)]at N
  exact⟨I,a,b,N,rfl⟩
 rintro _ ⟨I,a,b,N,rfl⟩;exact⟨N.pure,h I N⟩
def Vt.ok{s:Str}{v:D}(h:Vt s v):okD 101 v:=by
 rcases h with⟨_,i,rfl⟩|⟨_,l,rfl,_⟩|⟨_,t,rfl,q⟩
 ·exact of_eq_true (yo ..)
 ·intro x j;obtain⟨i,_,rfl⟩:=zah.mp j;exact of_eq_true (yo ..)
 exact qi (by omega) t.dep
theorem RsT.ok:∀{ss:List Str}{l:List D},RsT ss l->∀v∈l,okD 101 v
 |[],_,h,v,m=>by cases (show _=[] from h);cases m
 |_::_,_,⟨w,q,rfl,hw,h⟩,v,m=>by
  rcases zam.mp m with rfl|m
  ·exact hw.ok
  exact h.ok v m
def In4(s:Sx):Prop:=∀q∈s.cl,(∀v∈q.as,okD 101 v)/\∀v,q.en=some v->okD 101 v
def Nx.in4{fns:List (Str×D)}{fs:Sig}{s s':Sx}{l:Option Str}(h:Nx fns s l s')(o:Ok fs s)(i:In4 s):In4 s':=by
 obtain⟨gs,N,k,j,Z,_,fr,rs⟩:=o.ex;have r:=rs.ok;cases h
 case leave c1 c2 st n rr fr ts v rs q hn he pa pv =>
  intro x B;rcases zas.mp B with B|B
  ·exact i x (List.mem_append_left _ B)
  rcases zam.mp B with rfl|B
  ·refine⟨(i q (List.mem_append_right _ zao)).1,λw M=>?_⟩;cases M;exact r _ zao
  exact i x (List.mem_append_right _ (zal _ B))
 case enter cl st fr ts rs f es us n0 sz b ps _ _ _ _ _ _ _ _ =>
  intro x B;rcases zas.mp B with B|B
  ·exact i x B
  rw[List.mem_singleton.mp B];exact⟨λv I=>r v (List.mem_append_left _ (List.mem_reverse.mpr I)),λv I=>nomatch I⟩
 all_goals exact i
theorem Rn.in4{fns:List (Str×D)}{fs:Sig}{m:Nat}{s t:Sx}{b:Bool}(r:Rn fns fs m s t b)(i:In4 s):In4 t:=by
 induction r with
 |done o h=>exact i
 |cutB o h=>exact i
 |cutM o h l=>exact i
 |adm o h r ih=>exact ih (h.in4 o i)
 |stp o h l r ih=>exact ih (h.in4 o i)
def endV(t:Sx)(b:Bool):D:=if b then .non else t.rs.headD .non
def rsD(t:Sx)(b:Bool):D:=.tup [.bl (!b),endV t b,.lst (t.cl.map Rw.d),.lst (t.st.map λp=>stp p.1 p.2)]
def qr(j:List Gd):List (Str×D):=j.map λg=>(g.1.nm,gD g)
theorem R6:∀{gs:List Gd}{g:Gd},(gs.map λg=>g.1.nm).Nodup->g∈gs->rowG (qr gs) g.1.nm=some (gD g)
 |h::gs,g,j,m=>by
  have j:=List.nodup_cons.mp j;show(if h.1.nm=g.1.nm then _ else rowG (qr gs) g.1.nm)=_
  rcases zam.mp m with rfl|m
  ·exact if_pos rfl
  rw[if_neg λe=>j.1 (zah.mpr ⟨g,m,e.symm⟩)];exact R6 j.2 m
theorem L4:∀{gs:List Gd}{f:Str}{d:D},rowG (qr gs) f=some d->∃g∈gs,d=gD g
 |h::gs,f,d,e=>by
  have e:(if h.1.nm=f then some (gD h) else rowG (qr gs) f)=some d:=e
  split at e
  ·cases e
   exact⟨h,zao,rfl⟩
  obtain⟨g,m,q⟩:=L4 e;exact⟨g,zal _ m,q⟩
theorem F0:∀{hs:List Hd}{f:Str}{p:List Str×Str},sigL (sg1 hs) f=some p->∃h∈hs,h.nm=f/\p=(h.ps.map Prod.snd,h.sh)
 |h::hs,f,p,e=>by
  have e:(if h.nm=f then some (h.ps.map Prod.snd,h.sh) else sigL (sg1 hs) f)=some p:=e
  split at e
  ·rename_i z;cases e;exact⟨h,zao,z,rfl⟩
  obtain⟨g,m,q⟩:=F0 e;exact⟨g,zal _ m,q⟩
def psD(g:Gd):List (Str×D):=g.1.ps.map λp=>(p.1,.str p.2)
def Hi(g:Gd):gD g=.tup [.str g.1.nm,pmD (psD g),.tup [.str g.1.sh,.tup (g.1.sz.map D.int)],g.2]:=by
 unfold gD fnD pmD psD;rw[List.map_map];rfl
def Zl(g:Gd):(psD g).map Prod.fst=g.1.ps.map Prod.fst:=by
 unfold psD;rw[List.map_map];rfl
theorem Z1:∀l:List (Str×Str),(l.map Prod.fst).zip (l.map Prod.snd)=l
 |[]=>rfl
 |p::l=>by rw[List.map_cons,List.map_cons,List.zip_cons_cons,Z1 l]
def PG1.fns{q:List Gd}{j:List Hd}(p:PG1 q j):Pv (qr q) (sg1 j):=λf I s e=>by
 obtain⟨h,B,rfl,e2⟩:=F0 e;obtain⟨rfl,rfl⟩:=Prod.mk.inj e2;obtain⟨b,m⟩:=p.mem h B;have o:=p.ok _ m;have r:=R6 p.nd m;rw[Hi]at r;refine⟨_,psD (h,b),_,b,r,?_,?_,?_,?_,?_,?_⟩
 ·unfold psD;rw[zLm,zLm]
 ·rw[zLm];exact o.n1
 ·rw[zLm];have:=o.n3;exact zak this (by decide)
 ·rw[Zl];exact o.nd
 ·rw[<- Hi];exact o.pure
 rw[Zl,Z1];exact o.bt
def st01(g:Gd)(j:List D):Sx:=⟨[⟨g.1.nm,j,none,none⟩],[(0,"call")],[(0,(g.1.ps.map Prod.fst).zip j)],[bdD g.2,lvD],[]⟩
def Rv{M:List Hd}{g:Gd}{j:List D}(o:GOk M g)(I:RsT (g.1.ps.map Prod.snd) j):Ok (sg1 M) (st01 g j)/\In2 (st01 g j)/\In3 (st01 g j)/\In4 (st01 g j):=by
 have ft:=Qp (zs:=g.1.ps.map Prod.fst) (by rw[zLm,zLm]) I
 rw[Z1]at ft;have one:∀(i:Nat)(q:Rw),(st01 g j).cl[i]?=some q->i=0/\q=⟨g.1.nm,j,none,none⟩:=λi q e=>by
  match i,e with
  |0,e=>exact⟨rfl,(Option.some.inj e).symm⟩
  |i+1,e=>cases e
 refine⟨⟨⟨[g.1.ps],[],0,0,.body o.bt .done (by decide),by decide,⟨0,_,[],rfl,ft,rfl⟩,rfl⟩,(List.nodup_cons.mpr ⟨List.not_mem_nil,List.nodup_nil⟩:[0].Nodup),λn hn=>⟨⟨g.1.nm,j,none,none⟩,by rw[List.mem_singleton.mp hn];rfl,rfl⟩,λq B=>by rw[List.mem_singleton.mp B];exact I.pure,(show 1<=20 by decide),zaj 1⟩,⟨⟨⟨_,rfl,rfl⟩,trivial⟩,λi q e z=>absurd (by rw[(one i q e).1];exact List.mem_singleton.mpr rfl) z,rfl⟩,⟨λi q e=>.inl ⟨(one i q e).1,by rw[(one i q e).2]⟩,λp Z=>by rw[List.mem_singleton.mp Z];exact Nat.one_pos,λz=>nomatch z⟩,λq B=>by rw[List.mem_singleton.mp B];exact⟨I.ok,λv N=>nomatch N⟩⟩
theorem Du:∀{ss:List Str}{as:List D},RsT ss as->∀p∈(ss.map D.str).zip as,FzT p.1 p.2
 |[],_,_,p,m=>by cases m
 |s::ss,_,⟨v,q,rfl,hv,h⟩,p,m=>by
  rcases zam.mp (show p∈(D.str s,v)::(ss.map D.str).zip q from m) with rfl|m
  ·rcases hv with⟨rfl,i,rfl⟩|⟨rfl,l,rfl,hl⟩|⟨rfl,t,rfl,j⟩
   ·exact .inl ⟨rfl,i,rfl⟩
   ·exact .inr (.inl ⟨rfl,l,rfl,by omega⟩)
   exact .inr (.inr ⟨rfl,t,rfl,by omega⟩)
  exact Du h p m
def mt:Sx:=⟨[],[],[],[],[]⟩
def Ends1(q:List Gd)(j:List Hd)(g:Gd)(B:List D)(m:Nat)(t:Sx)(b:Bool):Prop:=(m=0/\t=mt/\b=true)\/(1<=m/\Rn (qr q) (sg1 j) m (st01 g B) t b)
def D8{fs:Sig}{B:List Env}{ts:List D}{q:List Str}{k j:Nat}(h:Kt fs B ts q k j)(e:ts=[]):∃s,q=[s]:=by
 cases h <;> first|exact⟨_,rfl⟩|cases e
def K8{C:Addr}{B:List Gd}{hs:List Hd}{g:Gd}{N:List D}(I:PG1 B hs)(M:g∈B)(ha:RsT (g.1.ps.map Prod.snd) N){m:Nat}(hm:m<=1000){t:Sx}{b:Bool}(e:Ends1 B hs g N m t b){Y:EV->Prop}(h:Y ⟨.new,rsD t b⟩):V7 C RT FzT [.tup (B.map gD),.str g.1.nm,.lst N,.int m] Y:=by
 have Z:=I.ok g M;have r:=R6 I.nd M;rw[Hi]at r;have al:=ha.len;rw[zLm]at al;have n3:=Z.n3;have ph:=gf g.1;have f1:(qr B).map Prod.snd=B.map gD:=by unfold qr;rw[List.map_map];rfl
 have f2:(qr B).map Prod.fst=B.map λg=>g.1.nm:=by unfold qr;rw[List.map_map];rfl
 have s2:(psD g).map Prod.snd=(g.1.ps.map Prod.snd).map D.str:=by unfold psD;rw[List.map_map,List.map_map];rfl
 have pp:zw (B.map gD):=yd.mpr λd hd=>by
  obtain⟨g,M,rfl⟩:=zah.mp hd;exact(I.ok g M).pure
 refine⟨qr B,g.1.nm,N,m,_,psD g,_,_,by rw[f1],by unfold qr;rw[zLm];have:=I.ln;omega,by rw[f2];exact I.nd,f1▸pp,λp hp=>?_,r,trivial,?_,ph.2.2.1,Z.bt.pure,ha.pure,by unfold psD;rw[zLm];exact al.symm,by omega,by rw[Zl];exact Z.nd,by rw[s2];exact Du ha,?_⟩
 ·obtain⟨g,_,rfl⟩:=zah.mp hp;exact⟨_,rfl⟩
 ·rw[s2];exact yd.mpr λd hd=>by
   obtain⟨z,_,rfl⟩:=zah.mp hd;trivial
 rcases e with⟨rfl,rfl,rfl⟩|⟨m1,R⟩
 ·exact xk (.inr rfl) (.inl ⟨rfl,h⟩)
 have e:rg m g.1.nm N (psD g) g.2 ms0=(st01 g N).ms:=by
  unfold rg;rw[if_neg (by decide),wk (by show ¬ (m:Int)<=0;omega),Zl]
  rfl
 rw[e];refine Fk (λl=>.inl ⟨rfl,l,rfl,rfl⟩) (λt ht=>.inr ⟨rfl,t,rfl,rfl,ht⟩) I.fns (λf d q=>?_) hm R m1 (λz=>?_) (λz s1 h1 h2 h3=>?_)
 ·obtain⟨g,M,rfl⟩:=L4 q;exact(I.ok g M).pure
 ·subst z;obtain⟨o,q⟩:=R.end_ok;obtain⟨a0,ss,k,j,kt,_,_,rs⟩:=o.ex;obtain⟨s,rfl⟩:=D8 kt (q rfl);obtain⟨v,q,e,hv,rfl⟩:=rs;refine .inr ⟨rfl,v,[],by show t.rs.reverse=_;rw[e];rfl,hv.pure,?_⟩
  have ev:endV t false=v:=by show t.rs.headD .non=v;rw[e];rfl
  unfold rsD at h;rw[ev]at h;exact h
 subst z;refine .inl ⟨h1,?_⟩;rw[h2,h3];exact h
def tWh:FT:=g1 λd Y=>∃i:Int,d=.int i/\Y (dv (.bl true))
def Qi{te:TD}{T:String}{U:DE}{Y:EV->Prop}{b:Bool}(r:EV)(h:∀ M:EV->Prop,M r->te U M)(e:isT r.d T=some b)(k:Y (dv (.bl b))):dCB sIsI (vh te (vh (dC (.ty T)) aNil)) U Y:=h _ (by
 show match isT r.d T with|some b=>Y (dv (.bl b))|none=>False
 rw[e];exact k)
def ni{te:TD}{T:String}{U:DE}(r:EV)(h:∀ M:EV->Prop,M r->te U M)(e:isT r.d T=some true):∀M:Bool->Prop,M false->bNot (tTru (dCB sIsI (vh te (vh (dC (.ty T)) aNil)))) U M:=λM k=>Qi r h e k
def Jo{te:TD}{n:Int}{U:DE}(h:∀ M:EV->Prop,M (dv (.int n))->te U M):∀M:Bool->Prop,M false->tBo (d2 sNe te (dC (.int n))) U M:=λM k=>h _ ⟨of_eq_true (yo ..),of_eq_true (yo ..),(show M (!eqD (.int n) (.int n)) by rw[Mc];exact k)⟩
def Gj{te:TD}{U:DE}(i:Int)(h:∀ M:EV->Prop,M (dv (.int i))->te U M):∀M:Bool->Prop,M false->bNot (tTru (Y9 1 tWh (vh te aNil))) U M:=λM k=>h _ ⟨rfl,(show tWh [.int i] _ from⟨i,rfl,k⟩)⟩
def Ez{te q:TD}{U:DE}{i j:Int}(h:∀ M:EV->Prop,M (dv (.int i))->te U M)(h2:∀ M:EV->Prop,M (dv (.int j))->q U M)(n:j<=i):∀M:Bool->Prop,M false->tBo (d2 sLt te q) U M:=λM k=>h _ (h2 _ (show M (decide (i<j)) by rw[decide_eq_false (by omega)];exact k))
def Dt{te q:TD}{U:DE}{i j:Int}(h:∀ M:EV->Prop,M (dv (.int i))->te U M)(h2:∀ M:EV->Prop,M (dv (.int j))->q U M)(n:i<j):∀M:Bool->Prop,M false->tBo (d2 sGe te q) U M:=λM k=>h _ (h2 _ (show M (decide (j<=i)) by rw[decide_eq_false (by omega)];exact k))
def Co{a b:TDb}{U:DE}(h:∀ M:Bool->Prop,M false->a U M):∀M:Bool->Prop,M false->bAnd a b U M:=λM k=>h _ ⟨λz=>(nomatch z),λ_=>k⟩
def Cm{a b:TDb}{U:DE}(h:∀ M:Bool->Prop,M true->a U M)(h2:∀ M:Bool->Prop,M false->b U M):∀M:Bool->Prop,M false->bAnd a b U M:=λM k=>h _ ⟨λ_=>h2 _ k,λz=>nomatch z⟩
structure PlOk(t:Sx):Prop where
 up:∀(i:Nat)(q:Rw),t.cl[i]?=some q->(i=0/\q.up=none)\/∃p,p<i/\q.up=some p
 sl:∀p∈t.st,p.1<t.cl.length
 cl:t.cl.length<=1000
 st:t.st.length<=1000
def tPl:FT:=g1 λd Y=>∃t b,d=rsD t b/\PlOk t/\Y (dv (.bl true))
def Xd(T:Tops mg)(F:Fun K "_law_whole" "_law_whole" (top 31) f fd)(m:mg "_law_whole" = some (.ref f)):FD P w K mg base 1 "_law_whole" pD tWh:=by
 have S:zu ["_law_found"] pD (zd (top 31)):=by walk_at "f"
 walk_at "b";refine⟨_,(zy (yg (Ub (x4 T.isinstance (za (z9 0) (za (qu T.int dn) zb))) (U9 (Lw (x4 T.isinstance (za (z9 0) (za (qu T.bool sr) zb)))))))),?_⟩;obtain⟨d,rfl,i,rfl,h⟩:=Ww hT;exact Qi (dv (.int i)) (λM h=>h) (fi i) ⟨λ_=>Qi (dv (.int i)) (λM h=>h) (jf i) ⟨trivial,h⟩,λz=>nomatch z⟩
def Xe(T:Tops mg)(Aw:FD P w K mg base 1 "_law_whole" pD tWh)(F:Fun K "_law_plain" "_law_plain" (top 32) f fd)(m:mg "_law_plain" = some (.ref f)):FD P w K mg base 2 "_law_plain" pD tPl:=by
 have S:zu ["_law_found","_law_k","_law_row","_law_step"] pD (zd (top 32)):=by walk_at "f"
 walk_at "b";refine⟨_,(ze (zp (wb (EW.et (uo (v8 (w6 (x4 T.isinstance (za (z9 0) (za (qu T.tuple wv) zb))))) (uo (Wx hu (yu T.len (za (z9 0) zb)) zc) (um (v8 (w6 (x4 T.isinstance (za (zg hu (z9 0) zc) (za (qu T.bool sr) zb))))))))) (zy (yg u7)) yx))
   (ze (zp (wb (EW.et (uo (v8 (w6 (x4 T.isinstance (za (zg hu (z9 0) zc) (za (qu T.list ky) zb))))) (um (v8 (w6 (x4 T.isinstance (za (zg hu (z9 0) zc) (za (qu T.list ky) zb)))))))) (zy (yg u7)) yx))
   (ze (zp (sv (wo T.range (za (yu T.len (za (zg hu (z9 0) zc) zb)) zb)) (zn (i:=1) S.nd rfl (by walk_at "o")) (yr 1) (ze (y3 2 S.nd (zg hu (zg hu (z9 0) zc) (z9 1)))
    (ze (wb (EW.et (uo (v8 (w6 (x4 T.isinstance (za (z9 2) (za (qu T.tuple wv) zb))))) (uo (Wx hu (yu T.len (za (z9 2) zb)) zc) (um (v8 (w6 (x4 T.isinstance (za (zg hu (z9 2) zc) (za (qu T.bool sr) zb))))))))) (zy (yg u7)) yx)
    (zy (wb (EW.et (uo (EW.et (da (P7 (z9 1) zc) (kq (EW.et (uo (v8 (w6 (ya Aw (hr.e rfl) (za (zg hu (z9 2) zc) zb)))) (uo (Te (zg hu (z9 2) zc) zc) (um (P8 (zg hu (z9 2) zc) (z9 1))))))))) (um (EW.et (da (xm hu (z9 1) zc) (kq (Y3 (zg hu (z9 2) zc) vj))))))) (zy (yg u7)) yx))))))
   (ze (zp (sv (wg (zg hu (z9 0) zc)) (zn (i:=3) S.nd rfl (by walk_at "o")) (yr 3) (ze (wb (EW.et (uo (v8 (w6 (x4 T.isinstance (za (z9 3) (za (qu T.tuple wv) zb))))) (uo (Wx hu (yu T.len (za (z9 3) zb)) zc) (um (v8 (w6 (ya Aw (hr.e rfl) (za (zg hu (z9 3) zc) zb)))))))) (zy (yg u7)) yx)
    (zy (wb (EW.et (uo (Te (zg hu (z9 3) zc) zc) (uo (P8 (zg hu (z9 3) zc) (yu T.len (za (zg hu (z9 0) zc) zb))) (um (v8 (w6 (x4 T.isinstance (za (zg hu (z9 3) zc) (za (qu T.str Pq) zb))))))))) (zy (yg u7)) yx)))))
   (zy (yg u7)))))),?_⟩
 obtain⟨d,rfl,t,b,rfl,pl,h⟩:=Ww hT;have lc:=pl.cl;refine zh (λU=>U=[q_ (rsD t b),none,none,none]) (uy false (λM k=>vm (ni (dv (rsD t b)) (λM h=>h) (vn _)) (λM k=>vm (Jo λM h=>h) (ni (dv (.bl (!b))) (λM h=>h) (rm _)) k) k) (λz=>nomatch z) (λ_=>rfl)) ?_;rintro _ rfl;refine zh (λU=>U=[q_ (rsD t b),none,none,none]) (uy false (λM k=>vm (ni (dv (.lst (t.cl.map Rw.d))) (λM h=>h) (t9 _)) (ni (dv (.lst (t.st.map λp:Nat×Str=>stp p.1 p.2))) (λM h=>h) (t9 _)) k) (λz=>nomatch z) (λ_=>rfl)) ?_;rintro _ rfl;refine zh (λU=>∃a B,U=[q_ (rsD t b),a,B,none]) ?_ ?_
 ·refine uf (rngD 0 t.cl.length) (λM I=>?_) (λi U=>∃a B,U=[q_ (rsD t b),a,B,none]) ⟨none,none,rfl⟩ ?_ (λ_ q=>q)
  ·refine(show -(2 ^ 62)<=(((t.cl.map Rw.d).length:Nat):Int)/\(((t.cl.map Rw.d).length:Nat):Int)<2 ^ 62/\M (rngD 0 (((t.cl.map Rw.d).length:Nat):Int).toNat) from ?_);rw[zLm];exact⟨by omega,by omega,I⟩
  rintro i d _ N ⟨a,B,rfl⟩;obtain⟨hi,rfl⟩:=ur N;rw[Int.zero_add];have eq:=zaf hi;have Z:atI (t.cl.map Rw.d) (i:Int)=some t.cl[i].d:=wu (by omega) (by rw[zai,Int.toNat_natCast,eq];rfl)
  have up:=pl.up i _ eq;generalize t.cl[i]=q at Z up;refine X9 (ve ?_);refine qb (Tg (dv (.lst (t.cl.map Rw.d))) (dv (.int i)) (λM h=>h) (λM h=>h) (xu Z ⟨trivial,?_⟩))
  dsimp only
  refine(show sSeq _ _ [q_ (rsD t b),q_ (.int i),q_ q.d,none] _ from ve ?_);refine uy false (λM k=>vm (ni (dv q.d) (λM h=>h) (vn _)) (λM k=>vm (Jo λM h=>h) (ni (dv (.bl q.en.isSome)) (λM h=>h) (rm _)) k) k) (λz=>nomatch z) (λ_=>?_)
  dsimp only [sNil]
  refine(show sIf _ _ _ [q_ (rsD t b),q_ (.int i),q_ q.d,none] _ from ?_);refine uy false (λM k=>?_) (λz=>nomatch z) (λ_=>⟨_,_,rfl⟩);obtain⟨nm,as,u,en⟩:=q;rcases up with⟨rfl,e⟩|⟨p,pi,e⟩
  ·cases (show u=none from e)
   exact vm (Co λM k=>k) (Cm (λM k=>⟨of_eq_true (yo ..),of_eq_true (yo ..),k⟩) λM k=>k) k
  cases (show u=some p from e)
  refine vm (Cm (λM k=>(show M (decide ((0:Int)<i)) by rw[decide_eq_true (by omega)];exact k)) λM k=>vm (Gj p λM h=>h) (λM k=>vm (Ez (i:=p) (j:=0) (λM h=>h) (λM h=>h) (by omega)) (Dt (i:=p) (j:=i) (λM h=>h) (λM h=>h) (by omega)) k) k) (Co λM k=>⟨of_eq_true (yo ..),of_eq_true (yo ..),(show M (eqD (.int i) (.int 0)) by rw[Y6,beq_eq_false_iff_ne.mpr (by omega)];exact k)⟩) k
 rintro _ ⟨a,B,rfl⟩;refine zh (λU=>∃c,U=[q_ (rsD t b),a,B,c]) ?_ ?_
 ·refine uf (t.st.map λp:Nat×Str=>stp p.1 p.2) (λM I=>⟨trivial,I⟩) (λi U=>∃c,U=[q_ (rsD t b),a,B,c]) ⟨none,rfl⟩ ?_ (λ_ q=>q);rintro i d _ N ⟨c,rfl⟩;obtain⟨p,hp,rfl⟩:=zah.mp (zan N);have sl:=pl.sl p hp;refine X9 ?_;refine(show sSeq _ _ [q_ (rsD t b),a,B,q_ (stp p.1 p.2)] _ from ve ?_);refine uy false (λM k=>vm (ni (dv (stp p.1 p.2)) (λM h=>h) (vn _)) (λM k=>vm (Jo λM h=>h) (Gj p.1 λM h=>h) k) k) (λz=>nomatch z) (λ_=>?_)
  dsimp only [sNil]
  refine(show sIf _ _ _ [q_ (rsD t b),a,B,q_ (stp p.1 p.2)] _ from ?_);exact uy false (λM k=>vm (Ez (i:=p.1) (j:=0) (λM h=>h) (λM h=>h) (by omega)) (λM k=>vm (Dt (i:=p.1) (j:=((t.cl.map Rw.d).length:Int)) (λM h=>h) (λM h=>h) (by rw[zLm];omega)) (ni (dv (.str p.2)) (λM h=>h) (fh _)) k) k) (λz=>nomatch z) (λ_=>⟨_,rfl⟩)
 rintro _ ⟨c,rfl⟩;exact⟨trivial,h⟩
def tBeg:FT:=g2 λd e Y=>∃(t:Sx)(b:Bool)(f:Nat),d=rsD t b/\e=.int f/\PlOk t/\((t.st.length<=f/\Y (dv (rsD t b)))\/∃u:Sx,Cut u t/\u.st.length=f/\Y (dv (rsD u true)))
def LI(t:Sx)(f k:Nat)(L:List Nat):Prop:=L.length=t.cl.length/\(1<=f->∀i x,L[i]?=some x->(f<=x ↔ ∃(j:Nat)(p:Nat×Str),f<=j/\j<k/\t.st[j]?=some p/\Ch t.cl p.1 i))
def mu8(U:DE):Nat:=match slot U 8 with
 | some r=>(match r.d with
  |.int n=>n.toNat+1
  | _=>0)
 |none=>0
def Dh{n m:Nat}(h:m<n):ixN n (m:Int)=some m:=by
 unfold ixN;rw[if_pos (by omega),if_pos (by omega)]
 rfl
def Jq{i:Nat}{tk te:TD}{U:DE}{Z:DZ}{ds:List D}{k:Int}{j:Nat}{d:D}(h0:slot U i=Q_ (.lst ds))(h1:∀ M:EV->Prop,M (dv d)->te U M)(h2:∀ M:EV->Prop,M (dv (.int k))->tk U M)(e:ixN ds.length k=some j)(h:Z.nx (setS U i (dO (.lst (ds.set j d))))):Sn i tk te U Z:=by
 unfold Sn;rw[h0];refine h1 _ (h2 _ ⟨trivial,?_⟩)
 dsimp only [dv]
 rw[e];exact h
def A8{U:DE}{M:Bool->Prop}{j I B t1:TD}{e:Bool}{l:List D}{k f x:Int}(q:∀ M:EV->Prop,M (dv (.bl e))->j U M)(Z:∀ M:EV->Prop,M (dO (.lst l))->I U M)(N:∀ M:EV->Prop,M (dv (.int k))->B U M)(h1:∀ M:EV->Prop,M (dv (.int f))->t1 U M)(el:atI l k=some (.int x))(h:M (!e || decide (f<=x))):bOr (bNot (tTru j)) (tBo (d2 sGe (d2 sIxx I B) t1)) U M:=by
 refine q _ ?_;cases e with
 |false=>exact⟨λ_=>h,λz=>nomatch z⟩
 |true=>exact⟨λz=>(nomatch z),λ_=>Z _ (N _ (xu el (h1 _ h)))⟩
def upI(n:Option Nat):D:=n.elim .non λn=>.int n
def WI(t:Sx)(f k q:Nat)(L:List Nat)(n:Option Nat):Prop:=L.length=t.cl.length/\(∀m,n=some m->m<t.cl.length/\Ch t.cl q m)/\(1<=f->∀i x,L[i]?=some x->(f<=x ↔ (∃(j:Nat)(p:Nat×Str),f<=j/\j<k/\t.st[j]?=some p/\Ch t.cl p.1 i)\/(f<=k/\Ch t.cl q i/\∀m,n=some m->¬ Ch t.cl m i)))
def Ch.trans{cl:List Rw}{a b c:Nat}(h:Ch cl a b)(g:Ch cl b c):Ch cl a c:=by
 induction h with
 |refl=>exact g
 |up e u _ ih=>exact .up e u (ih g)
def Ch.le{cl:List Rw}(hu:∀ (i:Nat) (q:Rw),cl[i]?=some q->(i=0/\q.up=none)\/∃ p,p<i/\q.up=some p){a b:Nat}(h:Ch cl a b):b<=a:=by
 induction h with
 |refl=>exact zaj _
 |up e u _ ih =>
  rcases hu _ _ e with⟨_,z⟩|⟨p,pl,z⟩
  ·rw[u]at z;cases z
  rw[u]at z;cases z;omega
def Ch.inv{cl:List Rw}{n i:Nat}{q:Rw}(e:cl[n]?=some q)(h:Ch cl n i):i=n\/∃p,q.up=some p/\Ch cl p i:=by
 cases h with
 |refl=>exact .inl rfl
 |up e' u g =>
  rw[e]at e';cases e';exact .inr ⟨_,u,g⟩
def WI.step{t:Sx}{f k M n:Nat}{L:List Nat}{q:Rw}(pl:PlOk t)(w:WI t f k M L (some n))(e:t.cl[n]?=some q):WI t f k M (L.set n k) q.up:=by
 obtain⟨ln,w1,w2⟩:=w;obtain⟨nl,N⟩:=w1 n rfl;have hu:=pl.up n q e;refine⟨by rw[List.length_set];exact ln,λm B=>?_,λf1 i x I=>?_⟩
 ·rcases hu with⟨_,z⟩|⟨p,Z,z⟩
  ·rw[B]at z;cases z
  rw[B]at z;cases z;exact⟨by omega,N.trans (.up e B .refl)⟩
 rw[List.getElem?_set]at I;by_cases z:n=i
 ·subst z;rw[if_pos rfl,if_pos (by omega)]at I
  cases I
  refine⟨λfk=>.inr ⟨fk,N,λm B c=>?_⟩,λy=>?_⟩
  ·have:=c.le pl.up;rcases hu with⟨_,z⟩|⟨p,Z,z⟩
   ·rw[B]at z;cases z
   rw[B]at z;cases z;omega
  rcases y with⟨j,p,a,b,_⟩|⟨y,_⟩
  ·omega
  exact y
 rw[if_neg z]at I;refine(w2 f1 i x I).trans ⟨λy=>?_,λy=>?_⟩
 ·rcases y with y|⟨a,b,c⟩
  ·exact .inl y
  exact .inr ⟨a,b,λm B g=>c n rfl (.up e B g)⟩
 rcases y with y|⟨a,b,c⟩
 ·exact .inl y
 refine .inr ⟨a,b,λm B g=>?_⟩;cases B;rcases g.inv e with g|⟨p,h1,h2⟩
 ·exact z g.symm
 exact c p h1 h2
def WI.fin{t:Sx}{f k q:Nat}{L:List Nat}{s:Str}(e:t.st[k]?=some (q,s))(w:WI t f k q L none):LI t f (k+1) L:=by
 refine⟨w.1,λM i x B=>(w.2.2 M i x B).trans ⟨λy=>?_,λy=>?_⟩⟩
 ·rcases y with⟨j,p,a,b,c⟩|⟨a,b,_⟩
  ·exact⟨j,p,a,by omega,c⟩
  exact⟨k,(q,s),a,by omega,e,b⟩
 obtain⟨j,p,a,b,c,d⟩:=y;rcases Nat.lt_or_ge j k with z|z
 ·exact .inl ⟨j,p,a,z,c,d⟩
 have:j=k:=by omega
 subst this;rw[e]at c;cases c;exact .inr ⟨a,d,λm I=>nomatch I⟩
def LI.start{t:Sx}{f k j:Nat}{L:List Nat}(h:LI t f k L)(q:j<t.cl.length):WI t f k j L (some j):=by
 refine⟨h.1,λm I=>?_,λM i x B=>(h.2 M i x B).trans ⟨.inl,λy=>?_⟩⟩
 ·cases I
  exact⟨q,.refl⟩
 rcases y with y|⟨a,b,c⟩
 ·exact y
 exact absurd b (c j rfl)
def LI.zero{t:Sx}{f:Nat}:LI t f 0 (List.replicate t.cl.length 0):=by
 refine⟨List.length_replicate,λB i x q=>?_⟩;rw[List.getElem?_replicate]at q;split at q
 ·cases q
  exact⟨λy=>by omega,λ⟨j,p,a,b,_⟩=>by omega⟩
 cases q
def fmz(l:List Rw):(l.map Rw.d).filterMap (λ_=>some (D.int 0))=(List.replicate l.length 0).map λx:Nat=>D.int x:=by
 induction l with
 |nil=>rfl
 |cons a l ih=>rw[List.map_cons,List.filterMap_cons,ih];rfl
def jm(T:Tops mg)(F:Fun K "_law_beginning" "_law_beginning" (top 33) f fd)(m:mg "_law_beginning" = some (.ref f)):FO P w K mg base 1 "_law_beginning" ["_law_found","_law_most"] tBeg:=by
 have S:zu ["_law_found","_law_most","_law_done","_law_value","_law_calls","_law_steps","_law_last","_law_k","_law_at","_law_rows","_law_name","_law_args_here","_law_up","_law_ended","_law_comes"] ["_law_found","_law_most"] (zd (top 33)):=by walk_at "f"
 refine Bu F S (F.binds λ_ _ _ _ _ _ us hl=>(by obtain⟨_,_,rfl⟩:=uw hl;rfl)) m λqZ A outer s H E ds Y hr hl hT=>?_
 have hu:=hr.units;refine⟨_,(ze (zp (Sj (z9 0) (ug (K0:=K) (n:=4) (by rfl) (by rfl) (yb (zn (i:=2) S.nd rfl (by walk_at "o")) (yb (zn (i:=3) S.nd rfl (by walk_at "o")) (yb (zn (i:=4) S.nd rfl (by walk_at "o")) (yb (zn (i:=5) S.nd rfl (by walk_at "o")) vf))))) (He 2 3 4 5)))
   (ze (zp (wb (Bx (yu T.len (za (z9 5) zb)) (z9 1)) (zy (yg (z9 0))) yx))
   (ze (zp (si (T:=["_law_call"]) (F:=[]) (js:=[]) 6 S.nd (wg (z9 4)) (show y4 (zd (top 33)) _ _ _ from by walk_at "c") .nil (by decide) (by walk_at "t") (yn (by decide)) (yr 0) (λcl C fp s H=>xx) (λcl C fp s H=>zc)))
   (ze (zp (sv (wo T.range (za (yu T.len (za (z9 5) zb)) zb)) (zn (i:=7) S.nd rfl (by walk_at "o")) (yr 7) (ze (y3 8 S.nd (zg hu (zg hu (z9 5) (z9 7)) zc))
    (zy (Zh (Y3 (z9 8) vj) (ze (Sk 6 hu (z9 8) (z9 7))
     (zy (y3 8 S.nd (zg hu (zg hu (z9 4) (z9 8)) zc)))))))))
   (ze (zp (y3 9 S.nd (x8 zb)))
   (ze (zp (sv (wo T.range (za (yu T.len (za (qw (T:=["_law_step"]) (F:=[]) (js:=[]) (wg (yj (z9 5) xg (yi (z9 1)))) (show y4 (zd (top 33)) _ _ _ from by walk_at "c") .nil (by decide) (by walk_at "t") (yn (by decide)) (yr 0) (λcl C fp s H=>(Y7 (xm hu (zg hu (z9 0) zc) zf))) (λcl C fp s H=>(z9 0))) zb)) zb)) (zn (i:=7) S.nd rfl (by walk_at "o")) (yr 7) (ze (Sj (zg hu (z9 4) (z9 7)) (ug (K0:=K) (n:=5) (by rfl) (by rfl) (yb (zn (i:=10) S.nd rfl (by walk_at "o")) (yb (zn (i:=11) S.nd rfl (by walk_at "o")) (yb (zn (i:=12) S.nd rfl (by walk_at "o")) (yb (zn (i:=13) S.nd rfl (by walk_at "o")) (yb (zn (i:=14) S.nd rfl (by walk_at "o")) vf)))))) (Hc 10 11 12 13 14))
    (ze (wb (EW.et (uo (v8 (w6 (z9 13))) (um (P8 (zg hu (z9 6) (z9 7)) (z9 1))))) (ze (y3 13 S.nd u7)
     (zy (y3 14 S.nd vj))) yx)
    (zy (wy 9 (zi (za (z9 10) (za (z9 11) (za (z9 12) (za (z9 13) (za (z9 14) zb))))))))))))
   (zy (ut 9 (yg (zi (za u7 (za vj (za (z9 9) (za (yj (z9 5) xg (yi (z9 1))) zb)))))))))))))),?_⟩
 obtain⟨d,e,rfl,t,b,f,rfl,rfl,pl,hh⟩:=P6 hT;refine zh (λU=>U=[q_ (rsD t b),q_ (.int f),q_ (.bl (!b)),q_ (endV t b),q_ (.lst (t.cl.map Rw.d)),q_ (.lst (t.st.map λp:Nat×Str=>stp p.1 p.2)),none,none,none,none,none,none,none,none,none]) ⟨trivial,rfl⟩ ?_;rintro _ rfl;have ls:(t.st.map λp:Nat×Str=>stp p.1 p.2).length=t.st.length:=zLm _;have lc:=pl.cl;have lt:=pl.st;rcases hh with⟨le,h⟩|⟨u,cu,rfl,h⟩
 ·refine zh (λU=>False) (uy true (λM k=>(show M (decide ((((t.st.map λp:Nat×Str=>stp p.1 p.2).length:Nat):Int)<=f)) by rw[decide_eq_true (by omega)];exact k)) (λ_=>h) (λz=>nomatch z)) (λ_ z=>z.elim)
 have a0:=cu.lt;refine zh (λU=>U=[q_ (rsD t b),q_ (.int u.st.length),q_ (.bl (!b)),q_ (endV t b),q_ (.lst (t.cl.map Rw.d)),q_ (.lst (t.st.map λp:Nat×Str=>stp p.1 p.2)),none,none,none,none,none,none,none,none,none]) (uy false (λM k=>(show M (decide ((((t.st.map λp:Nat×Str=>stp p.1 p.2).length:Nat):Int)<=u.st.length)) by rw[decide_eq_false (by omega)];exact k)) (λz=>nomatch z) (λ_=>rfl)) ?_
 rintro _ rfl;refine z_g [q_ (rsD t b),q_ (.int u.st.length),q_ (.bl (!b)),q_ (endV t b),q_ (.lst (t.cl.map Rw.d)),q_ (.lst (t.st.map λp:Nat×Str=>stp p.1 p.2)),Q_ (.lst ((List.replicate t.cl.length 0).map λx:Nat=>D.int x)),none,none,none,none,none,none,none,none] ?_ ?_
 ·refine qb (wr (t.cl.map Rw.d) (λM I=>⟨trivial,I⟩) (λ_=>some (.int 0)) (by rw[zLm];omega) (λd hd=>⟨λ_=>⟨trivial,rfl⟩,λz=>nomatch z⟩) ?_)
  rw[fmz];exact⟨trivial,rfl⟩
 refine zh (λU=>∃L a c,LI t u.st.length t.st.length L/\U=[q_ (rsD t b),q_ (.int u.st.length),q_ (.bl (!b)),q_ (endV t b),q_ (.lst (t.cl.map Rw.d)),q_ (.lst (t.st.map λp:Nat×Str=>stp p.1 p.2)),Q_ (.lst (L.map λx:Nat=>D.int x)),a,c,none,none,none,none,none,none]) ?_ ?_
 ·refine uf (rngD 0 t.st.length) (λM I=>?_) (λk U=>∃L a c,LI t u.st.length k L/\U=[q_ (rsD t b),q_ (.int u.st.length),q_ (.bl (!b)),q_ (endV t b),q_ (.lst (t.cl.map Rw.d)),q_ (.lst (t.st.map λp:Nat×Str=>stp p.1 p.2)),Q_ (.lst (L.map λx:Nat=>D.int x)),a,c,none,none,none,none,none,none]) ⟨_,none,none,LI.zero,rfl⟩ ?_ (λ_ q=>by rw[vz1]at q;exact q)
  ·refine(show -(2 ^ 62)<=(((t.st.map λp:Nat×Str=>stp p.1 p.2).length:Nat):Int)/\(((t.st.map λp:Nat×Str=>stp p.1 p.2).length:Nat):Int)<2 ^ 62/\M (rngD 0 (((t.st.map λp:Nat×Str=>stp p.1 p.2).length:Nat):Int).toNat) from ?_);rw[ls];exact⟨by omega,by omega,I⟩
  rintro k d _ hd ⟨L,a,c,li,rfl⟩;obtain⟨hk,rfl⟩:=ur hd;rw[Int.zero_add];obtain⟨⟨n0,s⟩,es⟩:∃p,t.st[k]?=some p:=⟨_,zaf hk⟩;have sl:=pl.sl _ (zan es);have er:atI (t.st.map λp:Nat×Str=>stp p.1 p.2) (k:Int)=some (stp n0 s):=wu (by omega) (by rw[zai,Int.toNat_natCast,es];rfl)
  refine X9 (ve ?_);refine qb (Tg (stp n0 s |> dv) (dv (.int 0)) (λM h=>Tg (dv (.lst (t.st.map λp:Nat×Str=>stp p.1 p.2))) (dv (.int k)) (λM h=>h) (λM h=>h) (xu er h)) (λM h=>h) ?_)
  refine(show sIxx (.tup [.int n0,.str s]) (.int 0) _ from sy rfl ⟨trivial,?_⟩)
  dsimp only
  refine⟨λU=>∃L n,WI t u.st.length k n0 L n/\U=[q_ (rsD t b),q_ (.int u.st.length),q_ (.bl (!b)),q_ (endV t b),q_ (.lst (t.cl.map Rw.d)),q_ (.lst (t.st.map λp:Nat×Str=>stp p.1 p.2)),Q_ (.lst (L.map λx:Nat=>D.int x)),q_ (.int k),q_ (upI n),none,none,none,none,none,none],mu8,⟨L,some n0,li.start sl,rfl⟩,?_⟩;rintro _ ⟨L,n,wi,rfl⟩;cases n with
  |none=>exact⟨λz=>(nomatch z),λ_=>⟨L,_,_,wi.fin es,rfl⟩⟩
  |some m =>
   refine⟨λ_=>?_,λz=>nomatch z⟩;have ml:=(wi.2.1 m rfl).1;obtain⟨q,eq⟩:∃q,t.cl[m]?=some q:=⟨_,zaf ml⟩;have er:atI (t.cl.map Rw.d) (m:Int)=some q.d:=wu (by omega) (by rw[zai,Int.toNat_natCast,eq];rfl)
   refine ve (Jq (k:=m) (j:=m) (d:=.int k) rfl (λM h=>h) (λM h=>h) (Dh (by rw[zLm,wi.1];exact ml)) ?_)
   dsimp only
   refine qb (Tg (dv q.d) (dv (.int 2)) (λM h=>Tg (dv (.lst (t.cl.map Rw.d))) (dv (.int m)) (λM h=>h) (λM h=>h) (xu er h)) (λM h=>h) ?_);refine(show sIxx (.tup [.str q.nm,.tup q.as,upI q.up,.bl q.en.isSome,q.en.getD .non]) (.int 2) _ from sy rfl ⟨trivial,⟨L.set m k,q.up,wi.step pl eq,?_⟩,?_⟩)
   ·rw[List.map_set];rfl
   show mu8 [_,_,_,_,_,_,_,_,q_ (upI q.up),_,_,_,_,_,_]<mu8 [_,_,_,_,_,_,_,_,q_ (.int m),_,_,_,_,_,_];rcases pl.up m q eq with⟨_,z⟩|⟨p,pm,z⟩ <;> rw[z]
   ·exact Nat.succ_pos _
   exact Nat.succ_lt_succ pm
 rintro _ ⟨L,a,c,li,rfl⟩;refine zh (λU=>U=[q_ (rsD t b),q_ (.int u.st.length),q_ (.bl (!b)),q_ (endV t b),q_ (.lst (t.cl.map Rw.d)),q_ (.lst (t.st.map λp:Nat×Str=>stp p.1 p.2)),Q_ (.lst (L.map λx:Nat=>D.int x)),a,c,Q_ (.lst []),none,none,none,none,none]) ⟨rfl,rfl,trivial,rfl⟩ ?_;rintro _ rfl;refine zh (λU=>∃a c n1 n2 n3 Z N,U=[q_ (rsD t b),q_ (.int u.st.length),q_ (.bl (!b)),q_ (endV t b),q_ (.lst (t.cl.map Rw.d)),q_ (.lst (t.st.map λp:Nat×Str=>stp p.1 p.2)),Q_ (.lst (L.map λx:Nat=>D.int x)),a,c,Q_ (.lst (u.cl.map Rw.d)),n1,n2,n3,Z,N]) ?_ ?_
 ·refine uf (rngD 0 u.cl.length) (λM I=>?_) (λk U=>∃a c n1 n2 n3 Z N,U=[q_ (rsD t b),q_ (.int u.st.length),q_ (.bl (!b)),q_ (endV t b),q_ (.lst (t.cl.map Rw.d)),q_ (.lst (t.st.map λp:Nat×Str=>stp p.1 p.2)),Q_ (.lst (L.map λx:Nat=>D.int x)),a,c,Q_ (.lst ((u.cl.take k).map Rw.d)),n1,n2,n3,Z,N]) ⟨_,_,_,_,_,_,_,rfl⟩ ?_ ?_
  ·dsimp only [iR1,vh,dCB]
   refine(show Xi _ _ _ _ _ _ _ _ from wc ((t.st.take u.st.length).map λp:Nat×Str=>stp p.1 p.2) (λM I=>⟨trivial,(show M (ZZ.cutD (t.st.map λp:Nat×Str=>stp p.1 p.2) none (some (u.st.length:Int))) by rw[db];exact I)⟩) (λi es=>es.length=(((t.st.take u.st.length).take i).filter tj).length) (by rw[zLm,List.length_take];omega) rfl ?_ ?_)
   ·rintro i d es hd hl he;rw[zai]at hd;obtain⟨p,hp,rfl⟩:=zar.mp hd;refine⟨of_eq_true ym,of_eq_true ym,And.intro (λz=>⟨trivial,?_⟩) (λz=>?_)⟩
    ·rw[List.take_add_one,hp,zLa,List.filter_append,zLa,he,Option.toList_some,List.filter_cons,show tj p=true from beq_iff_eq.mpr (eqs z)];rfl
    rw[List.take_add_one,hp,List.filter_append,zLa,he,Option.toList_some,List.filter_cons,show tj p=false from beq_eq_false_iff_ne.mpr (eqn z)];rfl
   intro es he;rw[zLm,List.take_length,<- cu.ct]at he;have ul:u.cl.length<=1000:=by
    have:=cu.ct;have:=List.length_filter_le tj (t.st.take u.st.length);rw[List.length_take]at this;omega
   refine(show -(2 ^ 62)<=((es.length:Nat):Int)/\((es.length:Nat):Int)<2 ^ 62/\M (rngD 0 ((es.length:Nat):Int).toNat) from ?_);rw[he];exact⟨by omega,by omega,I⟩
  ·rintro k d _ hd ⟨a,c,n1,n2,n3,Z,N,rfl⟩;obtain⟨hk,rfl⟩:=ur hd;rw[Int.zero_add];obtain⟨q,eq⟩:∃q,u.cl[k]?=some q:=⟨_,zaf hk⟩;obtain⟨B,e',c1,c2,c3,c4,c5⟩:=cu.rw k q eq;have kl:=(zag.mp e').1;obtain⟨x,ex⟩:∃x,L[k]?=some x:=⟨_,zaf (by rw[li.1];exact kl)⟩
   have f1:1<=u.st.length:=by
    have h1:=cu.ct;have h2:=List.length_filter_le tj (t.st.take u.st.length);rw[List.length_take]at h2;omega
   have zx:u.st.length<=x ↔ Zs t u.st.length k:=(li.2 f1 k x ex).trans ⟨λ⟨j,p,a,b,c,d⟩=>⟨j,p,a,c,d⟩,λ⟨j,p,a,c,d⟩=>⟨j,p,a,(zag.mp c).1,c,d⟩⟩;have er:atI (t.cl.map Rw.d) (k:Int)=some B.d:=wu (by omega) (by rw[zai,Int.toNat_natCast,e'];rfl)
   have el:atI (L.map λx:Nat=>D.int x) (k:Int)=some (.int x):=wu (by omega) (by rw[zai,Int.toNat_natCast,ex];rfl)
   have tk:(u.cl.take (k+1)).map Rw.d=(u.cl.take k).map Rw.d++[q.d]:=by rw[List.take_add_one,eq,zMa];rfl
   refine X9 (ve ?_);refine(show d2 sIxx _ _ _ _ from Tg (dv (.lst (t.cl.map Rw.d))) (dv (.int k)) (λM h=>h) (λM h=>h) (xu er ⟨trivial,?_⟩))
   dsimp only [gT5,Rw.d]
   have un:∀v:Option D,q.en=v->q.d=.tup [.str B.nm,.tup B.as,B.up.elim .non λn=>.int n,.bl v.isSome,v.getD .non]:=λv e=>by
    unfold Rw.d;rw[e,c1,c2,c3]
   have lk:((u.cl.take k).map Rw.d).length<=100000:=by rw[zLm,List.length_take];omega
   refine(show sSeq _ _ [q_ (rsD t b),q_ (.int u.st.length),q_ (.bl (!b)),q_ (endV t b),q_ (.lst (t.cl.map Rw.d)),q_ (.lst (t.st.map λp:Nat×Str=>stp p.1 p.2)),Q_ (.lst (L.map λx:Nat=>D.int x)),q_ (.int k),c,Q_ (.lst ((u.cl.take k).map Rw.d)),q_ (.str B.nm),q_ (.tup B.as),q_ (B.up.elim .non λn=>.int n),q_ (.bl B.en.isSome),q_ (B.en.getD .non)] _ from ve ?_);have h1:((u.st.length:Int)<=(x:Int)) ↔ Zs t u.st.length k:=by rw[<- zx];omega
   have ct:(!B.en.isSome || decide ((u.st.length:Int)<=(x:Int)))=true->B.en=none\/Zs t u.st.length k:=λy=>by
    cases hq:B.en with
    |none=>exact .inl rfl
    |some v=>rw[hq]at y;exact .inr (h1.mp (of_decide_eq_true y))
   have cf:(!B.en.isSome || decide ((u.st.length:Int)<=(x:Int)))=false->¬ (B.en=none\/Zs t u.st.length k):=λy w=>by
    cases hq:B.en with
    |none=>rw[hq]at y;cases y
    |some v =>
     rw[hq]at y w;rcases w with w|w
     ·cases w
     exact of_decide_eq_false y (h1.mpr w)
   refine uy (!B.en.isSome || decide ((u.st.length:Int)<=(x:Int))) (λM h=>A8 (λM h=>h) (λM h=>h) (λM h=>h) (λM h=>h) el h) (λz=>?_) (λz=>?_)
   ·refine⟨trivial,trivial,?_⟩
    dsimp only
    refine(show sApp _ _ [q_ (rsD t b),q_ (.int u.st.length),q_ (.bl (!b)),q_ (endV t b),q_ (.lst (t.cl.map Rw.d)),q_ (.lst (t.st.map λp:Nat×Str=>stp p.1 p.2)),Q_ (.lst (L.map λx:Nat=>D.int x)),q_ (.int k),c,Q_ (.lst ((u.cl.take k).map Rw.d)),q_ (.str B.nm),q_ (.tup B.as),q_ (B.up.elim .non λn=>.int n),q_ (.bl false),q_ .non] _ from uz rfl ⟨rfl,rfl,trivial,lk,q_ (.int k),c,q_ (.str B.nm),q_ (.tup B.as),q_ (B.up.elim .non λn=>.int n),q_ (.bl false),q_ .non,?_⟩);rw[tk,un none (c4 (ct z))];rfl
   dsimp only [sNil]
   refine(show sApp _ _ [q_ (rsD t b),q_ (.int u.st.length),q_ (.bl (!b)),q_ (endV t b),q_ (.lst (t.cl.map Rw.d)),q_ (.lst (t.st.map λp:Nat×Str=>stp p.1 p.2)),Q_ (.lst (L.map λx:Nat=>D.int x)),q_ (.int k),c,Q_ (.lst ((u.cl.take k).map Rw.d)),q_ (.str B.nm),q_ (.tup B.as),q_ (B.up.elim .non λn=>.int n),q_ (.bl B.en.isSome),q_ (B.en.getD .non)] _ from uz rfl ⟨rfl,rfl,trivial,lk,q_ (.int k),c,q_ (.str B.nm),q_ (.tup B.as),q_ (B.up.elim .non λn=>.int n),q_ (.bl B.en.isSome),q_ (B.en.getD .non),?_⟩);rw[tk,un B.en (c5 (cf z))];rfl
  rintro _ ⟨a,c,n1,n2,n3,Z,N,rfl⟩;rw[vz1,List.take_length];exact⟨a,c,n1,n2,n3,Z,N,rfl⟩
 rintro _ ⟨a,c,n1,n2,n3,Z,N,rfl⟩;exact ra ⟨rfl,rfl,(show Y (dv (.tup [.bl false,.non,.lst (u.cl.map Rw.d),.lst (ZZ.cutD (t.st.map λp:Nat×Str=>stp p.1 p.2) none (some (u.st.length:Int)))])) by rw[db,<- cu.st];exact h)⟩
def Vs{n:Nat}{ds:List D}(h:∀ d∈ds,okD n d):okD (n+1) (.tup ds):=h
def Ry{n:Nat}{ds:List D}(h:∀ d∈ds,okD n d):okD (n+1) (.lst ds):=h
def Eu(n:Nat)(b:Bool):okD n (.bl b):=of_eq_true Lh
def Eo(n:Nat)(z:Str):okD n (.str z):=of_eq_true ym
def Es(n:Nat)(i:Int):okD n (.int i):=of_eq_true (yo ..)
def Rx(n:Nat):okD n .non:=of_eq_true Q0
def mem4{P:D->Prop}{a b c d:D}(h1:P a)(h2:P b)(q:P c)(j:P d):∀x∈[a,b,c,d],P x:=λx m=>by
 simp only[zam,List.not_mem_nil,or_false]at m;rcases m with rfl|rfl|rfl|rfl <;> assumption
def mem5{P:D->Prop}{a b c d e:D}(h1:P a)(h2:P b)(B:P c)(q:P d)(j:P e):∀x∈[a,b,c,d,e],P x:=λx m=>by
 simp only[zam,List.not_mem_nil,or_false]at m;rcases m with rfl|rfl|rfl|rfl|rfl <;> assumption
def qh(l:List (Nat×Str)):okD 40 (.lst (l.map λp:Nat×Str=>stp p.1 p.2)):=Ry (n:=39) λd j=>by
 obtain⟨p,_,rfl⟩:=zah.mp j;refine Vs (n:=38) λx m=>?_;simp only[zam,List.not_mem_nil,or_false]at m;rcases m with rfl|rfl
 ·exact Es ..
 exact Eo ..
def Ep{t:Sx}{b:Bool}(i:In4 t)(e:okD 101 (endV t b)):okD 150 (rsD t b):=Vs (n:=149) (mem4 (Eu ..) (qi (by decide) e) (Ry (n:=148) λd I=>by
 obtain⟨q,j,rfl⟩:=zah.mp I;refine Vs (n:=147) (mem5 (Eo ..) (Vs (n:=146) λv B=>qi (by decide) ((i q j).1 v B)) ?_ (Eu ..) ?_)
 ·cases q.up with
  |none=>exact Rx _
  |some p=>exact Es ..
 cases h:q.en with
 |none=>exact Rx _
 | some v=>exact qi (by decide) ((i q j).2 v h)) (qi (by decide) (qh t.st)))
def Q4(f k:Nat):(if (k:Int)<(f:Int) then(k:Int) else f)=((min f k:Nat):Int):=by
 split <;> omega
structure Cp(t:Sx)(b:Bool):Prop where
 pl:PlOk t
 ok:okD 150 (rsD t b)
def Ve{gs:List Gd}{q:List Hd}{g:Gd}{I:List D}(o:GOk q g)(ha:RsT (g.1.ps.map Prod.snd) I){m:Nat}(M:1<=m)(hm:m<=1000){t:Sx}{b:Bool}(R:Rn (qr gs) (sg1 q) m (st01 g I) t b):Cp t b/\t.st.length<=m:=by
 obtain⟨o0,i2,Z,N⟩:=Rv o ha;have few:=R.few (by exact M)
 have B:=R.end_ok.1;have j:=R.in3 Z;have cs:=B.cs;refine⟨⟨⟨j.up,j.sl,by omega,by omega⟩,Ep (R.in4 N) ?_⟩,few⟩
 obtain⟨_,_,_,_,_,_,_,rs⟩:=B.ex;unfold endV;cases b with
 |true=>exact Rx _
 |false =>
  cases hr:t.rs with
  |nil=>exact Rx _
  |cons v r=>exact rs.ok v (by rw[hr];exact zao)
def Hs{N:List Gd}{B:List Hd}{g:Gd}{I:List D}(o:GOk B g)(j:RsT (g.1.ps.map Prod.snd) I){m f:Nat}(hm:m<=1000)(hf:f<=m)(m1:1<=m){t:Sx}{b:Bool}(R:Rn (qr N) (sg1 B) m (st01 g I) t b) :
  ∃t2 b2,Ends1 N B g I f t2 b2/\Cp t2 b2/\t2.st=t.st.take f/\((t.st.length<=f/\t2=t/\b2=b)\/(Cut t2 t/\t2.st.length=f/\b2=true)):=by
 obtain⟨o0,i2,i3,i4⟩:=Rv o j;obtain⟨⟨rk,rl⟩,few⟩:=Ve o j m1 hm R;rcases Nat.eq_zero_or_pos f with z|z
 ·subst z;obtain⟨more,L,_⟩:=R.later i2;have lt:0<t.st.length:=by rw[L.st];show 0<(_::_:List (Nat×Str)).length;exact Nat.succ_pos _
  refine⟨mt,true,.inl ⟨rfl,rfl,rfl⟩,⟨⟨λi q e=>(nomatch e),λp hp=>(nomatch hp),Nat.zero_le _,Nat.zero_le _⟩,Ep (λq hq=>(nomatch hq)) (Rx _)⟩,rfl,.inr ⟨⟨rfl,lt,rfl,λi q e=>(nomatch e)⟩,rfl,rfl⟩⟩
 rcases R.cut hf z with⟨le,R2⟩|⟨u,u',k,R2,M,nx,ou,fm,R3⟩
 ·exact⟨t,b,.inr ⟨z,R2⟩,(Ve o j z (by omega) R2).1,(List.take_of_length_le le).symm,.inl ⟨le,rfl,rfl⟩⟩
 obtain⟨_,_,iu⟩:=R2.later i2;have Z:=Mi nx ou (by omega) R3 iu
 refine⟨u,true,.inr ⟨z,R2⟩,(Ve o j z (by omega) R2).1,?_,.inr ⟨Z,M,rfl⟩⟩
 rw[<- M];exact Z.st
def Er(T:Tops mg)(a4:FD P w K mg base 13 "_law_program" ["_law_script"] Gr)(Ai:FD P w K mg base 1 "_law_cell_at" pE O91)(a0:FD P w K mg base 3 "_law_args" ["_law_one","_law_cells"] Gy)(Z:FD P w K mg base 10 "trace" ["program","name","args","most"] (V7 C RT FzT))(Ax:FD P w K mg base 2 "_law_plain" pD tPl)(a5:FO P w K mg base 1 "_law_beginning" ["_law_found","_law_most"] tBeg)(F:Fun K "law" "law" (top 34) f fd):FnOk P w K mg base CX0 14 f fd ["_law_script"] (spD K 1 lawT):=by
 have S:zu ["_law_script","_law_program_here","_law_cell","_law_one","_law_args_here","_law_most","_law_handed","_law_found","_law_few","_law_other"] ["_law_script"] (zd (top 34)):=by walk_at "f"
 refine Qt F S λqZ A outer s H E ds Y hr hl hT=>?_;have hu:=hr.units;refine⟨_,(ze (zp (y3 1 S.nd (ya a4 (hr.e rfl) (za (z9 0) zb))))
   (ze (zp (y3 2 S.nd (yz (ya Ai (hr.e rfl) (za (z9 0) (za zc zb))) (bu zc zc))))
   (ze (zp (y3 3 S.nd (zg hu (z9 1) (yz (rq (z9 2) zc) (yu T.len (za (z9 1) zb))))))
   (ze (zp (y3 4 S.nd (ya a0 (hr.e rfl) (za (z9 3) (za (x5 (yj (z9 0) (yi zc) xg) (yj (z9 0) (yi zc) (yi zc))) zb)))))
   (ze (zp (y3 5 S.nd (x5 zc (yz (rq (z9 2) zc) zc))))
   (ze (zp (y3 6 S.nd (Y8 T.list (za (z9 4) zb))))
   (ze (zp (y3 7 S.nd (ya Z (hr.e rfl) (za (z9 1) (za (zg hu (z9 3) zc) (za (z9 6) (za (z9 5) zb)))))))
   (ze (zp (wb (EW.et (uo (v8 (w6 (ya Ax (hr.e rfl) (za (z9 7) zb)))) (uo (P7 (yu T.len (za (zg hu (z9 7) zc) zb)) (z9 5)) (um (Lq (Room.far hr) (z9 6) (z9 4)))))) (zy (yg u7)) yx))
   (ze (zp (y3 8 S.nd (yz (rq (z9 2) zc) (x5 (yu T.len (za (zg hu (z9 7) zc) zb)) zc))))
   (ze (zp (wb (xm hu (yz (z9 2) zc) zc) (zy (y3 8 S.nd (Pb T.min (za (z9 8) (za (yz (rq (z9 2) zc) zc) zb))))) yx))
   (ze (zp (y3 8 S.nd (Pb T.min (za (z9 8) (za (z9 5) zb)))))
   (ze (zp (y3 9 S.nd (ya Z (hr.e rfl) (za (z9 1) (za (zg hu (z9 3) zc) (za (z9 6) (za (z9 8) zb)))))))
   (ze (zp (wb (EW.et (uo (v8 (w6 (ya Ax (hr.e rfl) (za (z9 9) zb)))) (um (Lq (Room.far hr) (z9 6) (z9 4))))) (zy (yg u7)) yx))
   (zy (yg (Ub (Cb (Room.far hr) a5 (hr.e rfl) (z9 9) (za (ya Z (hr.e rfl) (za (z9 1) (za (zg hu (z9 3) zc) (za (z9 6) (za (z9 5) zb))))) (za (z9 8) zb))) (U9 (Cc hu (yj (zg hu (z9 7) zc) xg (yi (z9 8))) (zg hu (z9 9) zc))))))))))))))))))),?_⟩
 obtain⟨ns,rfl,nl,h⟩:=hT;refine zh (λU=>∃q hs,PG1 q hs/\U=[q_ (.scr ns),q_ (.tup (q.map gD)),none,none,none,none,none,none,none,none]) ⟨rfl,ns,rfl,λq hs N=>⟨trivial,q,hs,N,rfl⟩⟩ ?_;rintro _ ⟨q,hs,N,rfl⟩;refine zh (λU=>∃c:Int,U=[q_ (.scr ns),q_ (.tup (q.map gD)),q_ (.int c),none,none,none,none,none,none,none]) ⟨rfl,ns,5,rfl,rfl,λc=>⟨⟨by decide,by decide,by decide⟩,(show(10 ^ 9:Int)≠0 by decide),trivial,_,rfl⟩⟩ ?_
 rintro _ ⟨c,rfl⟩;obtain⟨l0,g,hg,eg⟩:=gi (f:=gD) N.n1 (c.fdiv 7);refine zh (λU=>U=[q_ (.scr ns),q_ (.tup (q.map gD)),q_ (.int c),q_ (gD g),none,none,none,none,none,none]) ⟨fdl,l0,sy eg ⟨trivial,rfl⟩⟩ ?_;rintro _ rfl;have og:=N.ok g hg;refine zh (λU=>∃j,RsT (g.1.ps.map Prod.snd) j/\U=[q_ (.scr ns),q_ (.tup (q.map gD)),q_ (.int c),q_ (gD g),Q_ (.lst j),none,none,none,none,none]) ?_ ?_
 ·have e1:ZZ.cutD (ns.map D.int) (some 30) none=(ns.drop 30).map D.int:=jt D.int ns 30;have e2:ZZ.cutD (ns.map D.int) (some 2) (some 6)=((ns.drop 2).take 4).map D.int:=by
   rw[List.map_take,List.map_drop];exact Ue (ns.map D.int) 2 6
  have ll:(ZZ.cutD (ns.map D.int) (some 30) none).length+(ZZ.cutD (ns.map D.int) (some 2) (some 6)).length<=sizeLine:=by
   rw[e1,e2,zLm,zLm,List.length_drop,List.length_take];exact wm (Nat.ble_eq.mpr (by omega))
  exact⟨ll,rfl,g,hs,ns.drop 30++(ns.drop 2).take 4,rfl,og,congrArg D.lst (by rw[zMa,<- e1,<- e2]),λj I=>⟨trivial,j,I,rfl⟩⟩
 rintro _ ⟨j,I,rfl⟩;refine zh (λU=>∃m:Nat,1<=m/\m<=1000/\U=[q_ (.scr ns),q_ (.tup (q.map gD)),q_ (.int c),q_ (gD g),Q_ (.lst j),q_ (.int m),none,none,none,none]) ?_ ?_
 ·have b1:=Int.fmod_nonneg_of_pos (c.fdiv 35) (show(0:Int)<130 by decide)
  have b2:=Int.fmod_lt_of_pos (c.fdiv 35) (show(0:Int)<130 by decide)
  obtain⟨k,ek⟩:=Int.eq_ofNat_of_zero_le b1;exact⟨fdl,(show(130:Int)≠0 by decide),trivial,30+k,by omega,by omega,by rw[show((30+k:Nat):Int)=30+(c.fdiv 35).fmod 130 by rw[ek];omega];rfl⟩
 rintro _ ⟨m,m1,hm,rfl⟩;refine zh (λU=>U=[q_ (.scr ns),q_ (.tup (q.map gD)),q_ (.int c),q_ (gD g),Q_ (.lst j),q_ (.int m),Q_ (.lst j),none,none,none]) ⟨trivial,rfl⟩ ?_;rintro _ rfl;obtain⟨t,b,R⟩:=Sq N.fns m (st01 g j) (Rv og I).1;obtain⟨rk,few⟩:=Ve og I m1 hm R;refine zh (λU=>U=[q_ (.scr ns),q_ (.tup (q.map gD)),q_ (.int c),q_ (gD g),Q_ (.lst j),q_ (.int m),Q_ (.lst j),q_ (rsD t b),none,none]) ⟨rfl,K8 N hg I hm (.inr ⟨m1,R⟩) ⟨trivial,rfl⟩⟩ ?_;rintro _ rfl;have oa:okD 150 (.lst j):=Ry (n:=149) λd hd=>qi (by decide) (I.ok d hd)
 have ne:∀{U:DE}{t1 t2:TD},(∀M:EV->Prop,M (dO (.lst j))->t1 U M)->(∀M:EV->Prop,M (dO (.lst j))->t2 U M)->∀M:Bool->Prop,M false->tBo (d2 sNeH t1 t2) U M:=λh1 h2 M k=>h1 _ (h2 _ ⟨oa,oa,(show M (!eqD (.lst j) (.lst j)) by rw[jq 150 _ oa];exact k)⟩)
 refine zh (λU=>U=[q_ (.scr ns),q_ (.tup (q.map gD)),q_ (.int c),q_ (gD g),Q_ (.lst j),q_ (.int m),Q_ (.lst j),q_ (rsD t b),none,none]) (uy false (λM k=>vm (λM k=>⟨rfl,t,b,rfl,rk.pl,k⟩) (λM k=>vm (λM k=>(show M (decide ((m:Int)<(((t.st.map λp:Nat×Str=>stp p.1 p.2).length:Nat):Int))) by rw[zLm,decide_eq_false (by omega)];exact k)) (ne (λM h=>h) (λM h=>h)) k) k) (λz=>nomatch z) (λ_=>rfl)) ?_
 rintro _ rfl;refine zh (λU=>∃f:Nat,U=[q_ (.scr ns),q_ (.tup (q.map gD)),q_ (.int c),q_ (gD g),Q_ (.lst j),q_ (.int m),Q_ (.lst j),q_ (rsD t b),q_ (.int f),none]) ?_ ?_
 ·have lp:(0:Int)<(((t.st.map λp:Nat×Str=>stp p.1 p.2).length:Nat):Int)+2:=by omega
  obtain⟨k,ek⟩:=Int.eq_ofNat_of_zero_le (Int.fmod_nonneg_of_pos (c.fdiv 4550) lp);exact⟨fdl,(show(((t.st.map λp:Nat×Str=>stp p.1 p.2).length:Nat):Int)+2≠0 by omega),trivial,k,by rw[<- ek];rfl⟩
 rintro _ ⟨f,rfl⟩;refine zh (λU=>∃f:Nat,U=[q_ (.scr ns),q_ (.tup (q.map gD)),q_ (.int c),q_ (gD g),Q_ (.lst j),q_ (.int m),Q_ (.lst j),q_ (rsD t b),q_ (.int f),none]) ?_ ?_
 ·refine jz (Q:=True) (λM a8=>⟨ne_2,of_eq_true (yo ..),of_eq_true (yo ..),a8 _ λ_=>trivial⟩) (λ_=>?_) ⟨f,rfl⟩;obtain⟨k,ek⟩:=Int.eq_ofNat_of_zero_le (Int.fmod_nonneg_of_pos (c.fdiv 4550) (show(0:Int)<30 by decide))
  refine⟨fdl,(show(30:Int)≠0 by decide),trivial,min f k,?_⟩
  rw[<- Q4 f k,<- ek];rfl
 rintro _ ⟨f,rfl⟩;refine zh (λU=>∃f:Nat,f<=m/\U=[q_ (.scr ns),q_ (.tup (q.map gD)),q_ (.int c),q_ (gD g),Q_ (.lst j),q_ (.int m),Q_ (.lst j),q_ (rsD t b),q_ (.int f),none]) ⟨trivial,min f m,Nat.min_le_right ..,by rw[<- Q4 f m];rfl⟩ ?_
 rintro _ ⟨f,fm,rfl⟩;obtain⟨t2,b2,E2,B,a6,a7⟩:=Hs og I hm fm m1 R;refine zh (λU=>U=[q_ (.scr ns),q_ (.tup (q.map gD)),q_ (.int c),q_ (gD g),Q_ (.lst j),q_ (.int m),Q_ (.lst j),q_ (rsD t b),q_ (.int f),q_ (rsD t2 b2)]) ⟨rfl,K8 N hg I (by omega) E2 ⟨trivial,rfl⟩⟩ ?_
 rintro _ rfl;refine zh (λU=>U=[q_ (.scr ns),q_ (.tup (q.map gD)),q_ (.int c),q_ (gD g),Q_ (.lst j),q_ (.int m),Q_ (.lst j),q_ (rsD t b),q_ (.int f),q_ (rsD t2 b2)]) (uy false (λM k=>vm (λM k=>⟨rfl,t2,b2,rfl,B.pl,k⟩) (ne (λM h=>h) (λM h=>h)) k) (λz=>nomatch z) (λ_=>rfl)) ?_;rintro _ rfl;have ec:ZZ.cutD (t.st.map λp:Nat×Str=>stp p.1 p.2) none (some (f:Int))=t2.st.map λp:Nat×Str=>stp p.1 p.2:=by rw[db,<- a6]
 have o1:okD 40 (.lst (ZZ.cutD (t.st.map λp:Nat×Str=>stp p.1 p.2) none (some (f:Int)))):=by rw[ec];exact qh _
 have e1:eqD (.lst (ZZ.cutD (t.st.map λp:Nat×Str=>stp p.1 p.2) none (some (f:Int)))) (.lst (t2.st.map λp:Nat×Str=>stp p.1 p.2))=true:=by rw[ec];exact jq 40 _ (qh _)
 have e2:=jq 150 _ B.ok;refine⟨rfl,K8 N hg I hm (.inr ⟨m1,R⟩) ⟨rfl,t,b,f,rfl,rfl,rk.pl,?_⟩⟩;rcases a7 with⟨le,rfl,rfl⟩|⟨cu,cl,rfl⟩
 ·exact .inl ⟨le,B.ok,B.ok,And.intro (λ_=>⟨o1,qh _,trivial,(show Y (dv (.bl (eqD _ _))) by rw[e1];exact h)⟩) (λz=>absurd (e2.symm.trans z) (by decide))⟩
 exact .inr ⟨t2,cu,cl,B.ok,B.ok,And.intro (λ_=>⟨o1,qh _,trivial,(show Y (dv (.bl (eqD _ _))) by rw[e1];exact h)⟩) (λz=>absurd (e2.symm.trans z) (by decide))⟩
abbrev NsA(K:W.Frag)(x:Str)(f:Addr):Prop:=W.nsIn K mainGlobals x=some (some (.ref f))
abbrev NnA(K:W.Frag)(x:Str):Prop:=W.nsIn K mainGlobals x=some none
abbrev FdA(K:W.Frag)(C:Addr)(x:Str)(f:Addr):Prop:=W.findIn K (.ref C) x=some (some (.ref f))
def FnA(K:W.Frag)(x q:Str)(st:Stmt)(f:Addr):Prop:=(∃fd,Fun K x q st f fd)/\W.keepIn K (.ref f)=true
def fna_mk{K:W.Frag}{x q:Str}{st:Stmt}{f:Addr}{M an:Option Addr}{B:Array (Option Value)}{N kV Z I j ct:Value}(l:K.lookup f=some ⟨N,M,.func (W.fnOf x q (vg st) (yt st) (zd st) .none kV Z I an j ct),B⟩)(c:W.codeIn K j q=true)(k:W.keepIn K (.ref f)=true):FnA K x q st f:=⟨⟨_,Lo l c k⟩,k⟩
def l4{α:Type}{us:List α}(h:us.length=4):∃a b c d,us=[a,b,c,d]:=by
 rcases us with _|⟨a,_|⟨b,_|⟨c,_|⟨d,_|⟨e,l⟩⟩⟩⟩⟩ <;> first|exact⟨_,_,_,_,rfl⟩|cases h
def all_mk{l:W.OpenLaw}{w:World}{K:W.Frag}{h:Heap}{mg:Str->Option Value}{fa:Addr}(X:K.In h)(G:h.Ns mainGlobals mg)(y5:mg "law" = some (.ref fa)){f1 f2 f3 f4 f5 f6 f7 f8 f9 k1 k0 j9 j8 j7 j6 j5 j4 j3 j2 j1 j0 h9 e5 g0 g1 g2 g3 g4 g5 g6 g7 g8 g9 g10 g11 g12 g13 g14 g15 g16 g17:Addr}{h5 c8:Option Addr}{f0:Array (Option Value)}{h7 c3 c4 c2 N c5:Value}{ft Tt:Addr}{nT:Nat}{tk:Tok}{h4 k4:Option Addr}{e9 q7:Array (Option Value)}{h6 h8 k2 h3 e6 k3:Value}{C:Addr}{tq tr:Tok}(a1:NsA K "is_whole" f1)(l1:FnA K "is_whole" "is_whole" (top 5) f1)(a2:NsA K "is_tree" f2)(l2:FnA K "is_tree" "is_tree" (top 9) f2)(a3:NsA K "fits" f3)(l3:FnA K "fits" "fits" (top 8) f3)(a4:NsA K "nodes_of" f4)(l4:FnA K "nodes_of" "nodes_of" (top 11) f4)(a5:NsA K "size_of" f5)(l5:FnA K "size_of" "size_of" (top 10) f5)(a6:NsA K "function_of" f6)(l6:FnA K "function_of" "function_of" (top 6) f6)(a7:NsA K "check_args" f7)(l7:FnA K "check_args" "check_args" (top 16) f7)(a8:NsA K "_law_cell_at" f8)(l8:FnA K "_law_cell_at" "_law_cell_at" (top 19) f8)(a9:NsA K "_law_number" f9)(l9:FnA K "_law_number" "_law_number" (top 20) f9)(a10:NsA K "_law_names" k1)(w4:FnA K "_law_names" "_law_names" (top 21) k1)(a11:NsA K "_law_putting" k0)(w3:FnA K "_law_putting" "_law_putting" (top 22) k0)(a12:NsA K "_law_planting" j9)(w0:FnA K "_law_planting" "_law_planting" (top 23) j9)(a13:NsA K "_law_head" j8)(v9:FnA K "_law_head" "_law_head" (top 24) j8)(a14:NsA K "_law_take" j7)(v7:FnA K "_law_take" "_law_take" (top 25) j7)(a15:NsA K "_law_expression" j6)(v6:FnA K "_law_expression" "_law_expression" (top 26) j6)(a16:NsA K "_law_body" j5)(v5:FnA K "_law_body" "_law_body" (top 27) j5)(a17:NsA K "_law_program" j4)(v4:FnA K "_law_program" "_law_program" (top 28) j4)(a18:NsA K "_law_tree" j3)(v3:FnA K "_law_tree" "_law_tree" (top 29) j3)(a19:NsA K "_law_args" j2)(v2:FnA K "_law_args" "_law_args" (top 30) j2)(a20:NsA K "_law_whole" j1)(v1:FnA K "_law_whole" "_law_whole" (top 31) j1)(a21:NsA K "_law_plain" j0)(v0:FnA K "_law_plain" "_law_plain" (top 32) j0)(a22:NsA K "_law_beginning" h9)(u8:FnA K "_law_beginning" "_law_beginning" (top 33) h9)(a23:W.nsIn K mainGlobals "law" = some (some (.ref e5)))(u5:K.lookup e5=some ⟨h7,h5,.func (W.fnOf "law" "law" (vg (top 34)) (yt (top 34)) (zd (top 34)) .none c3 c4 c2 c8 N c5),f0⟩)(z0:W.codeIn K N "law" = true)(w5:W.keepIn K (.ref e5)=true)(at_:W.nsIn K mainGlobals "trace" = some (some (.ref ft)))(lt:K.lookup ft=some ⟨h6,h4,.func (W.fnOf "trace" "trace" (vg (top 15)) (yt (top 15)) (zd (top 15)) (.ref Tt) h8 k2 h3 k4 e6 k3),e9⟩)(y6:W.codeIn K e6 "trace" = true)(kt:W.keepIn K (.ref ft)=true)(lT:K.lookup Tt=some ⟨.type "tuple",none,.seq #[.int 1000 tk] nT,q7⟩)(aC:W.nsIn K mainGlobals "Run" = some (some (.ref C)))(b0:FdA K C "__init__" g0)(i0:W.isFn K (.ref g0)=true)(m0:FnA K "__init__" "Run.__init__" (mth 0) g0)(b1:FdA K C "told" g1)(i1:W.isFn K (.ref g1)=true)(m1:FnA K "told" "Run.told" (mth 1) g1)(b2:FdA K C "go" g2)(i2:W.isFn K (.ref g2)=true)(m2:FnA K "go" "Run.go" (mth 2) g2)(b3:FdA K C "step" g3)(i3:W.isFn K (.ref g3)=true)(m3:FnA K "step" "Run.step" (mth 3) g3)(b4:FdA K C "own_step" g4)(i4:W.isFn K (.ref g4)=true)(m4:FnA K "own_step" "Run.own_step" (mth 4) g4)(b5:FdA K C "standing" g5)(i5:W.isFn K (.ref g5)=true)(m5:FnA K "standing" "Run.standing" (mth 5) g5)(b6:FdA K C "stand" g6)(i6:W.isFn K (.ref g6)=true)(m6:FnA K "stand" "Run.stand" (mth 6) g6)(b7:FdA K C "taken" g7)(i7:W.isFn K (.ref g7)=true)(m7:FnA K "taken" "Run.taken" (mth 7) g7)(b8:FdA K C "behind" g8)(i8:W.isFn K (.ref g8)=true)(m8:FnA K "behind" "Run.behind" (mth 8) g8)(b9:FdA K C "begin_body" g9)(i9:W.isFn K (.ref g9)=true)(m9:FnA K "begin_body" "Run.begin_body" (mth 9) g9)(z8:FdA K C "follow" g10)(y2:W.isFn K (.ref g10)=true)(t7:FnA K "follow" "Run.follow" (mth 10) g10)(z7:FdA K C "bring" g11)(y1:W.isFn K (.ref g11)=true)(t6:FnA K "bring" "Run.bring" (mth 11) g11)(z6:FdA K C "choose" g12)(x7:W.isFn K (.ref g12)=true)(t0:FnA K "choose" "Run.choose" (mth 12) g12)(z5:FdA K C "begin_value" g13)(x2:W.isFn K (.ref g13)=true)(s9:FnA K "begin_value" "Run.begin_value" (mth 13) g13)(z4:FdA K C "apply" g14)(x1:W.isFn K (.ref g14)=true)(s8:FnA K "apply" "Run.apply" (mth 14) g14)(z3:FdA K C "make" g15)(x0:W.isFn K (.ref g15)=true)(s7:FnA K "make" "Run.make" (mth 15) g15)(z2:FdA K C "enter" g16)(w9:W.isFn K (.ref g16)=true)(s6:FnA K "enter" "Run.enter" (mth 16) g16)(z1:FdA K C "leave" g17)(w7:W.isFn K (.ref g17)=true)(s5:FnA K "leave" "Run.leave" (mth 17) g17)(pg:W.plainGet K C Str.empty=true)(hd:W.hasDictIn K C=true)(po:W.plainOver K C=true)(sa:W.findIn K (.ref C) "__setattr__" = some (some (.builtin "object.__setattr__")))(mk:W.makesIn K C=true)(kc:W.keepIn K (.ref C)=true)(r5:W.findIn K (.ref C) "functions" = some none)(r4:W.findIn K (.ref C) "most" = some none)(r3:W.findIn K (.ref C) "calls" = some none)(r2:W.findIn K (.ref C) "steps" = some none)(r1:W.findIn K (.ref C) "frames" = some none)(r0:W.findIn K (.ref C) "tasks" = some none)(q9:W.findIn K (.ref C) "ready" = some none)(q8:W.findIn K (.ref C) "is_cut" = some none)(bQ:W.nsIn K mainGlobals "MOST_CALLS" = some (some (.int 20 tq)))(bR:W.nsIn K mainGlobals "MOST_SIZE" = some (some (.int 100 tr)))(q:NnA K "ValueError")(e4:NnA K "all")(c1:NnA K "bool")(c0:NnA K "dict")(e3:NnA K "int")(j:NnA K "isinstance")(e0:NnA K "len")(a0:NnA K "list")(d5:NnA K "min")(M:NnA K "range")(B:NnA K "reversed")(d4:NnA K "str")(d3:NnA K "sum")(I:NnA K "tuple")(d0:NnA K "zip") :
  ∃fd:FuncData,(∀(s:Shared)(v:Value),BindsTo s fd ⟨[v],[]⟩ [("_law_script",v)])/\∀base:Heap,K.In base->base.Ns mainGlobals mg->FnOk l.prog w K mg base CX0 14 fa fd ["_law_script"] (spD K 1 lawT):=by
 have e:=y5.symm.trans (W.mg_of X G a23);cases e;have T:Tops mg:=⟨W.mg_none_of X G q,W.mg_none_of X G e4,W.mg_none_of X G c1,W.mg_none_of X G c0,W.mg_none_of X G e3,W.mg_none_of X G j,W.mg_none_of X G e0,W.mg_none_of X G a0,W.mg_none_of X G d5,W.mg_none_of X G M,W.mg_none_of X G B,W.mg_none_of X G d4,W.mg_none_of X G d3,W.mg_none_of X G I,W.mg_none_of X G d0⟩;obtain⟨⟨_,F1⟩,_⟩:=l1;obtain⟨⟨_,F2⟩,_⟩:=l2;obtain⟨⟨_,F3⟩,_⟩:=l3;obtain⟨⟨_,F4⟩,_⟩:=l4;obtain⟨⟨_,F5⟩,_⟩:=l5;obtain⟨⟨_,F6⟩,_⟩:=l6;obtain⟨⟨_,F7⟩,_⟩:=l7;obtain⟨⟨_,F8⟩,_⟩:=l8;obtain⟨⟨_,F9⟩,_⟩:=l9;obtain⟨⟨_,F10⟩,_⟩:=w4;obtain⟨⟨_,F11⟩,_⟩:=w3;obtain⟨⟨_,F12⟩,_⟩:=w0;obtain⟨⟨_,F13⟩,_⟩:=v9;obtain⟨⟨_,F14⟩,_⟩:=v7;obtain⟨⟨_,F15⟩,_⟩:=v6;obtain⟨⟨_,F16⟩,_⟩:=v5;obtain⟨⟨_,F17⟩,_⟩:=v4;obtain⟨⟨_,F18⟩,_⟩:=v3;obtain⟨⟨_,F19⟩,_⟩:=v2;obtain⟨⟨_,F20⟩,_⟩:=v1;obtain⟨⟨_,F21⟩,_⟩:=v0;obtain⟨⟨_,F22⟩,_⟩:=u8;have F23:=Lo (st:=top 34) u5 z0 w5;refine⟨W.fnOf "law" "law" (vg (top 34)) (yt (top 34)) (zd (top 34)) .none c3 c4 c2 c8 N c5,λs v=>.of_eq rfl,λbase _ _=>?_⟩;have Z:Con2 K mg:=⟨⟨_,.int 20,W.mg_of X G bQ,⟨_,rfl⟩,λ_ _=>rfl⟩,⟨_,.int 100,W.mg_of X G bR,⟨_,rfl⟩,λ_ _=>rfl⟩⟩;have O:CO K C zk:=⟨⟨pg,hd,po,sa⟩,λf hf=>by
  simp only[zk,zam,List.not_mem_nil,or_false]at hf;rcases hf with rfl|rfl|rfl|rfl|rfl|rfl|rfl|rfl
  ·exact r5
  ·exact r4
  ·exact r3
  ·exact r2
  ·exact r1
  ·exact r0
  ·exact q9
  exact q8⟩
 obtain⟨⟨_,G0⟩,n0⟩:=m0;have H0:Meth K C "__init__" g0:=⟨b0,i0,n0⟩;obtain⟨⟨_,G1⟩,n1⟩:=m1;have H1:Meth K C "told" g1:=⟨b1,i1,n1⟩;obtain⟨⟨_,G2⟩,n2⟩:=m2;have H2:Meth K C "go" g2:=⟨b2,i2,n2⟩;obtain⟨⟨_,G3⟩,n3⟩:=m3;have H3:Meth K C "step" g3:=⟨b3,i3,n3⟩;obtain⟨⟨_,G4⟩,n4⟩:=m4;have H4:Meth K C "own_step" g4:=⟨b4,i4,n4⟩;obtain⟨⟨_,G5⟩,n5⟩:=m5;have H5:Meth K C "standing" g5:=⟨b5,i5,n5⟩;obtain⟨⟨_,G6⟩,n6⟩:=m6;have H6:Meth K C "stand" g6:=⟨b6,i6,n6⟩;obtain⟨⟨_,G7⟩,n7⟩:=m7;have H7:Meth K C "taken" g7:=⟨b7,i7,n7⟩;obtain⟨⟨_,G8⟩,n8⟩:=m8;have H8:Meth K C "behind" g8:=⟨b8,i8,n8⟩;obtain⟨⟨_,G9⟩,n9⟩:=m9;have H9:Meth K C "begin_body" g9:=⟨b9,i9,n9⟩;obtain⟨⟨_,G10⟩,s4⟩:=t7;have H10:Meth K C "follow" g10:=⟨z8,y2,s4⟩;obtain⟨⟨_,G11⟩,s3⟩:=t6;have H11:Meth K C "bring" g11:=⟨z7,y1,s3⟩;obtain⟨⟨_,G12⟩,s1⟩:=t0;have H12:Meth K C "choose" g12:=⟨z6,x7,s1⟩;obtain⟨⟨_,G13⟩,s0⟩:=s9;have H13:Meth K C "begin_value" g13:=⟨z5,x2,s0⟩;obtain⟨⟨_,G14⟩,r9⟩:=s8;have H14:Meth K C "apply" g14:=⟨z4,x1,r9⟩;obtain⟨⟨_,G15⟩,r8⟩:=s7;have H15:Meth K C "make" g15:=⟨z3,x0,r8⟩;obtain⟨⟨_,G16⟩,r7⟩:=s6;have H16:Meth K C "enter" g16:=⟨z2,w9,r7⟩;obtain⟨⟨_,G17⟩,r6⟩:=s5;have H17:Meth K C "leave" g17:=⟨z1,w7,r6⟩;have e7:=Wv (P:=l.prog) (w:=w) (base:=base) T F1 (W.mg_of X G a1);have o3:=Td (P:=l.prog) (w:=w) (base:=base) T e7 F2 (W.mg_of X G a2);have k6:=Ht (P:=l.prog) (w:=w) (base:=base) T e7 o3 F3 (W.mg_of X G a3);have o4:=Wp (P:=l.prog) (w:=w) (base:=base) T F4 (W.mg_of X G a4);have o2:=Tc (P:=l.prog) (w:=w) (base:=base) T o4 F5 (W.mg_of X G a5);have q0:=c7 (P:=l.prog) (w:=w) (base:=base) T F6 (W.mg_of X G a6);have p5:=Y2 (P:=l.prog) (w:=w) (base:=base) T k6 F7 (W.mg_of X G a7);have Az:=Hk (P:=l.prog) (w:=w) (base:=base) T O G3 H3;have Ad:=Wo (P:=l.prog) (w:=w) (base:=base) T O Az G4 H4;have As:=Nz (P:=l.prog) (w:=w) (base:=base) T O G6 H6;have Aj:=Ny (P:=l.prog) (w:=w) (base:=base) T O G7 H7;have Am:=Qw (P:=l.prog) (w:=w) (base:=base) T O G8 H8;have Ak:=Xb (P:=l.prog) (w:=w) (base:=base) T O G5 H5;have q4:=Qu (P:=l.prog) (w:=w) (base:=base) T O As G10 H10;have p7:=M3 (P:=l.prog) (w:=w) (base:=base) T O Ad As Aj G11 H11;have q3:=Qv (P:=l.prog) (w:=w) (base:=base) T O Ad Aj G12 H12;have p6:=M0 (P:=l.prog) (w:=w) (base:=base) T O G17 H17;have p9:=Hl (P:=l.prog) (w:=w) (base:=base) T Z O Ad o2 G15 H15;have An:=du (P:=l.prog) (w:=w) (base:=base) T O Am Ak G13 H13;have Ao:=Zz (P:=l.prog) (w:=w) (base:=base) T O Am Ad q4 Ak G9 H9;have Au:=M2 (P:=l.prog) (w:=w) (base:=base) T Z O Az G16 H16;have p8:=M4 (P:=l.prog) (w:=w) (base:=base) T O Au Aj p9 Ad G14 H14;have l0:=Bv (P:=l.prog) (w:=w) (base:=base) T O Ao An p8 p7 q3 p6 G2 H2;have o6:=Hm (P:=l.prog) (w:=w) (base:=base) T O G0 H0;have o5:=Nw (P:=l.prog) (w:=w) (base:=base) T O G1 H1;have Ft1:FunV K "trace" "trace" (top 15) ft (.int 1000 tk) _:=⟨⟨Tt,_,nT,h6,h4,h8,k2,h3,k4,e6,k3,e9,rfl,lt,y6,lT,rfl⟩,kt⟩;have o1:=Nv (P:=l.prog) (w:=w) (base:=base) T O p5 q0 o6 Au l0 o5 mk kc (W.mg_of X G aC) Ft1;have o0:FD l.prog w K mg base 10 "trace" ["program","name","args","most"] (V7 C RT FzT):=⟨ft,_,o1,Ft1.binds (ds:=[]) (λT' kV doc pm an qZ ct us hl=>by rw[List.append_nil]at hl;obtain⟨_,_,_,_,rfl⟩:=l4 hl;exact⟨_,rfl,rfl⟩),kt,W.mg_of X G at_⟩
 have Ar:=c6 (P:=l.prog) (w:=w) (base:=base) T F8 (W.mg_of X G a8);have Av:=Y1 (P:=l.prog) (w:=w) (base:=base) T F9 (W.mg_of X G a9);have p4:=Xf (P:=l.prog) (w:=w) (base:=base) T F10 (W.mg_of X G a10);have q2:=dy (P:=l.prog) (w:=w) (base:=base) T F11 (W.mg_of X G a11);have q5:=d9 (P:=l.prog) (w:=w) (base:=base) T F12 (W.mg_of X G a12);have p0:=Ws (P:=l.prog) (w:=w) (base:=base) T F13 (W.mg_of X G a13);have e8:=Wr (P:=l.prog) (w:=w) (base:=base) T F14 (W.mg_of X G a14);have Ay:=P4 (P:=l.prog) (w:=w) (base:=base) T e8 F15 (W.mg_of X G a15);have o9:=P5 (P:=l.prog) (w:=w) (base:=base) T e8 (Ay 4) F16 (W.mg_of X G a16);have q1:=dz (P:=l.prog) (w:=w) (base:=base) T Ar p4 q2 q5 p0 (o9 5) F17 (W.mg_of X G a17);have o8:=Wq (P:=l.prog) (w:=w) (base:=base) T Av F18 (W.mg_of X G a18);have o7:=Wu (P:=l.prog) (w:=w) (base:=base) T Av o8 F19 (W.mg_of X G a19);have p3:=Xd (P:=l.prog) (w:=w) (base:=base) T F20 (W.mg_of X G a20);have p1:=Xe (P:=l.prog) (w:=w) (base:=base) T p3 F21 (W.mg_of X G a21);have q6:=jm (P:=l.prog) (w:=w) (base:=base) T F22 (W.mg_of X G a22);exact Er T q1 Ar o7 o0 p1 q6 F23
end ZZ
open PySem PySem.W PyProof.Rows
set_option maxRecDepth 100000 in
set_option maxHeartbeats 0 in
theorem PySem.Challenge.cw_toll_k15_cut_is_a_beginning_holds : PySem.Challenge.rw_toll_k15_cut_is_a_beginning.Holds := by
 refine ZZ.opened ?_
 k_fill
 refine ZZ.walkD (l:=PySem.Challenge.rw_toll_k15_cut_is_a_beginning) (k:=14) (x:="_law_script") rfl rfl ⟨rfl,by decide,by decide⟩ (λw h Y=>PySem.W.kIn_of Y) ?F
 case F =>
  intro w mg B h q G j
  refine' ZZ.all_mk q G j ?a1 ?l1 ?a2 ?l2 ?a3 ?l3 ?a4 ?l4 ?a5 ?l5 ?a6 ?l6 ?a7 ?l7 ?a8 ?l8 ?a9 ?l9 ?a0 ?aa ?ab ?ac ?ad ?ae ?af ?ag ?ah ?ai ?aj ?ak ?al ?am ?an ?ao ?ap ?aq ?ar ?au ?av ?aw ?ax ?ay ?az ?ba ?bb ?bc ?bd ?bf ?bg ?lt ?bh ?kt ?lT ?aC ?b0 ?i0 ?m0 ?b1 ?i1 ?m1 ?b2 ?i2 ?m2 ?b3 ?i3 ?m3 ?b4 ?i4 ?m4 ?b5 ?i5 ?m5 ?b6 ?i6 ?m6 ?b7 ?i7 ?m7 ?b8 ?i8 ?m8 ?b9 ?i9 ?m9 ?bi ?bj ?bk ?bl ?bm ?bn ?bo ?bp ?bq ?br ?bs ?bt ?bu ?bv ?bw ?bx ?bz ?c0 ?c1 ?c2 ?c3 ?c4 ?c5 ?c6 ?pg ?hd ?po ?sa ?mk ?kc ?c7 ?c8 ?c9 ?ca ?cb ?cc ?cd ?ce ?bQ ?bR ?cf ?cg ?ch ?ci ?cj ?ck ?cl ?cm ?cn ?co ?cp ?cq ?cr ?cs ?ct
  case a1 | a2 | a3 | a4 | a5 | a6 | a7 | a8 | a9 | a0 | ab | ad | af | ah | aj | al | an | ap | ar | av | ax | az | bb | bg | aC | b0 | i0 | b1 | i1 | b2 | i2 | b3 | i3 | b4 | i4 | b5 | i5 | b6 | i6 | b7 | i7 | b8 | i8 | b9 | i9 | bi | bj | bl | bm | bo | bp | br | bs | bu | bv | bx | bz | c1 | c2 | c4 | c5 | cf | cg | ch | ci | cj | ck | cl | cm | cn | co | cp | cq | cr | cs | ct=>show _=_; k_is
  case l1 | l2 | l3 | l4 | l5 | l6 | l7 | l8 | l9 | aa | ac | ae | ag | ai | ak | am | ao | aq | au | aw | ay | ba | m0 | m1 | m2 | m3 | m4 | m5 | m6 | m7 | m8 | m9 | bk | bn | bq | bt | bw | c0 | c3 | c6 =>
   refine' ZZ.fna_mk ?lA ?cA ?kA
   case lA=>k_is
   case cA=>k_is
   case kA=>k_is
  case bc | bd | bf | lt | bh | kt | lT | pg | hd | po | sa | mk | kc | c7 | c8 | c9 | ca | cb | cc | cd | ce | bQ | bR=>k_is
